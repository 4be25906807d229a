import Derived.Test.YtccilbgbjikmpaaTsT
import Derived.RangeFuncNested
import Derived.RangeFuncBound
import Derived.RangeFuncCalls
import Derived.RangeFuncLeaves
import Derived.RangeFuncBox
import Derived.Shelf.Abstract
import Derived.Shelf.RegionOpen
import Derived.OwnWalkIn
import Derived.TacticsInMore
import Derived.LoopNIn
import Derived.LoopIn
import Derived.Maps.AppendAt
import Derived.Maps.RangeRun
namespace Go.Proofs.Ytccilbgbjikmpaa
open Go Go.RowKit Go.Shelf
set_option linter.unusedVariables false
set_option linter.unusedSimpArgs false
attribute [local go_sem] Oper.semAt_some
/-! The keys of the set, one by one, in whichever order; collected. -/
theorem keysU_nodup {w : World} {m : Nat} {E : List EnU} (h : MapU w m E) : (E.map (·.1)).Nodup := by obtain ⟨_, _, h1, _⟩ := h; exact h1
/-- What has come: each once, those whose stamps were seen. -/
structure Come (E : List EnU) (seen : Array Nat) (ss : List Int) : Prop where
  nd : ss.Nodup
  mem : ∀ k, k ∈ ss ↔ ∃ x ∈ E, x.1 = k ∧ seen.contains x.2 = true
theorem Come.start (E : List EnU) : Come E #[] [] := ⟨List.nodup_nil, fun k => by simp⟩
theorem Come.step {E : List EnU} {seen : Array Nat} {ss : List Int} (h : Come E seen ss) (hn : (E.map (·.1)).Nodup) (hb : (E.map (·.2)).Nodup) {x : EnU} (hx : x ∈ E) (hs : seen.contains x.2 = false) : Come E (seen.push x.2) (ss ++ [x.1]) where
  nd := List.nodup_append.2 ⟨h.nd, by simp, fun a ha b hb' e => by
    simp at hb'
    obtain ⟨y, hy, h1, h2⟩ := (h.mem a).1 ha
    have e2 : y = x := by
      obtain ⟨i, hi, rfl⟩ := List.getElem_of_mem hy
      obtain ⟨j, hj, rfl⟩ := List.getElem_of_mem hx
      have := (List.getElem_inj (i := i) (j := j) (h₀ := by simpa using hi) (h₁ := by simpa using hj) hn).1 (by simp; rw [h1, e, hb'])
      subst this; rfl
    rw [e2, hs] at h2; cases h2⟩
  mem k := by
    rw [List.mem_append, h.mem, List.mem_singleton]
    constructor
    · rintro (⟨y, hy, h1, h2⟩ | rfl)
      · exact ⟨y, hy, h1, by rw [contains_push, h2]; rfl⟩
      · exact ⟨x, hx, rfl, by rw [contains_push]; simp⟩
    · rintro ⟨y, hy, h1, h2⟩
      rw [contains_push, Bool.or_eq_true] at h2
      rcases h2 with h2 | h2
      · exact .inl ⟨y, hy, h1, h2⟩
      · right
        have e2 : y = x := by
          obtain ⟨i, hi, rfl⟩ := List.getElem_of_mem hy
          obtain ⟨j, hj, rfl⟩ := List.getElem_of_mem hx
          have := (List.getElem_inj (i := i) (j := j) (h₀ := by simpa using hi) (h₁ := by simpa using hj) hb).1 (by simpa using h2)
          subst this; rfl
        rw [← h1, e2]
theorem Come.perm {E : List EnU} {seen : Array Nat} {ss : List Int} (h : Come E seen ss) (hn : (E.map (·.1)).Nodup) (hall : ∀ x ∈ E, seen.contains x.2 = true) : ss.Perm (E.map (·.1)) :=
  (List.perm_ext_iff_of_nodup h.nd hn).2 fun k => by
    rw [h.mem, List.mem_map]
    exact ⟨fun ⟨x, h1, h2, _⟩ => ⟨x, h1, h2⟩, fun ⟨x, h1, h2⟩ => ⟨x, h1, h2, hall x h1⟩⟩
/-- The range under way. -/
structure Rg (w : World) (m r : Nat) (E : List EnU) (seen : Array Nat) : Prop where
  map : MapU w m E
  it : ∃ since c0 clk, w.heap[r]? = some (.mapIter (some m) since seen c0) ∧ w.heap[m]? = some (.map (ensU E) clk) ∧ (∀ x ∈ (ensU E).toList, x.born < since) ∧ since ≤ c0 ∧ since ≤ clk
theorem Rg.left {w : World} {m r : Nat} {E : List EnU} {seen : Array Nat} (h : Rg w m r E seen) : w.rangeLeft m r = (leftOf (ensU E) seen).size := by
  obtain ⟨since, c0, clk, h1, h2, _⟩ := h.it
  unfold World.rangeLeft
  rw [h1, h2]
theorem Rg.walks {w w' : World} {m r : Nat} {E : List EnU} {seen : Array Nat} (h : Rg w m r E seen) (hk : KeepsWalks w w') : Rg w' m r E seen := by
  obtain ⟨since, c0, clk, h1, h2, h3⟩ := h.it
  obtain ⟨c, h4, h5⟩ := h.map
  exact ⟨⟨c, hk.same m _ h4 rfl, h5⟩, since, c0, clk, hk.same r _ h1 rfl, hk.same m _ h2 rfl, h3⟩
theorem Rg.next {w : World} {m r : Nat} {E : List EnU} {seen : Array Nat} (h : Rg w m r E seen) :
    ((∀ x ∈ E, seen.contains x.2 = true) ∧ ∀ ty, (Instr.next (.pointer (some ⟨r, 0, none⟩)) false ty).run Try.prog w = .ok (.tuple #[.bool false]) w) ∨
    ∃ x ∈ E, seen.contains x.2 = false ∧ ∃ w', (∀ ty, (Instr.next (.pointer (some ⟨r, 0, none⟩)) false ty).run Try.prog w = .ok (.tuple #[.bool true, .int .u32 x.1, .agg #[]]) w') ∧ Rg w' m r E (seen.push x.2) ∧ w.grownBy w' (some r) ∧
      (Instr.entry (.pointer (some ⟨r, 0, none⟩))).run Try.prog w' = .ok (.tuple #[.int .u32 x.1, .agg #[]]) w' ∧ (leftOf (ensU E) (seen.push x.2)).size < (leftOf (ensU E) seen).size := by
  obtain ⟨since, c0, clk, h1, h2, h3, h4, h5⟩ := h.it
  have hne : r ≠ m := fun e => by rw [e, h2] at h1; cases h1
  have hmap := h.map
  have hborn : ((ensU E).toList.map (·.born)).Nodup := by
    obtain ⟨_, _, _, hb, _⟩ := h.map
    rw [toList_ensU, List.map_map]
    exact hb
  rcases run_next_at (P := Try.prog) w 0 r m since c0 seen (ensU E) clk h1 h2 h3 h4 with ⟨h0, hrun⟩ | ⟨e, he, w1, hal, hrun⟩
  · refine .inl ⟨fun x hx => all_seen _ _ h0 (enU x) (by rw [toList_ensU]; exact List.mem_map.2 ⟨x, hx, rfl⟩), fun ty => ?_⟩
    exact hrun
  · obtain ⟨hem, hes⟩ := mem_left he
    rw [toList_ensU] at hem
    obtain ⟨x, hx, rfl⟩ := List.mem_map.1 hem
    have hr1 : w1.heap[r]? = some (.mapIter (some m) since seen c0) := by rcases hal with rfl | rfl <;> exact h1
    have hb1 : w1.heap[m]? = some (.map (ensU E) clk) := by rcases hal with rfl | rfl <;> exact h2
    have hset := MapKept.heap_set (o' := .mapIter (some m) since (seen.push x.2) clk) hr1
    have hb' := (hset.2 m (fun e1 => hne e1.symm)).trans hb1
    refine .inr ⟨x, hx, hes, _, fun ty => hrun, ⟨?_, since, clk, clk, hset.1, hb', h3, h5, h5⟩, ?_, run_entry_at _ r m since seen (ensU E) clk (enU x) hset.1 hb' (by rw [toList_ensU]; exact hem) hborn, left_shrinks (ensU E) seen (enU x) he⟩
    · obtain ⟨c, q1, q2⟩ := hmap
      rw [h2] at q1
      injection q1 with q1; injection q1 with _ q1
      exact ⟨clk, hb', by rw [q1]; exact q2⟩
    · rcases hal with rfl | rfl <;> exact ⟨rfl, rfl, rfl, by simp [ChangeMaps.setBlock], fun i _ hi => hset.2 i (fun e1 => hi (by rw [e1]))⟩
set_option maxRecDepth 100000 in
set_option maxHeartbeats 1000000 in
theorem keys1 (n : Nat) (hn : 1 ≤ n) (l Bm m : Nat) (E : List EnU) (J Jx : List Int → World → Prop)
    (hY : ∀ pre x W, J pre W → pre.length < E.length → YieldAt Fence.wide (n - 1) Try.prog l #[.int .u32 x] W fun e W' =>
      (e = .returned (.bool true) ∧ J (pre ++ [x]) W' ∧ KeepsWalks W W') ∨ (e = .returned (.bool false) ∧ Jx (pre ++ [x]) W'))
    (W : World) (hJ : AbidesFrom W.heap.size J) (hm : W.cell? ⟨Bm, 0, none⟩ = some (.map (some m))) (hown : MapU W m E) (h0 : J [] W) :
    CallsIn Fence.wide n Try.prog 27 #[.func (.yield l) #[] #[], .pointer (some ⟨Bm, 0, none⟩)] W fun e W' => (∃ v, e = .returned v) ∧
      ((∃ ss : List Int, ss.Perm (E.map (·.1)) ∧ J ss W') ∨ (∃ pre : List Int, True ∧ Jx pre W')) := by
  refine callsIn_of_wp Try.func27 rfl trivial ?_ rfl
  simp only [Try.ntmps27, List.size_toArray, List.length_cons, List.length_nil, Nat.reduceAdd, Nat.reduceSub, Array.replicate_succ, Array.replicate_zero, List.push_toArray, List.append_toArray, List.nil_append, List.cons_append]
  obtain ⟨clk, hb, hnk, hnb, hlt⟩ := hown
  have hrange := run_range_map (P := Try.prog) W 48 22 57 m (ensU E) clk Try.underlying48 hb
  have hmlt := lt_of_blk hb
  obtain ⟨w0, hw0⟩ : ∃ w0, W.alloc (.mapIter (some m) clk #[] clk) = w0 := ⟨_, rfl⟩
  have hrg0 : Rg w0 m W.heap.size E #[] := by
    have e1 : w0.heap[m]? = some (.map (ensU E) clk) := by rw [← hw0]; exact ((up_alloc W _).block m hmlt).trans hb
    refine ⟨⟨clk, e1, hnk, hnb, hlt⟩, clk, clk, clk, by rw [← hw0]; exact new_at W _, e1, fun x hx => ?_, Nat.le_refl _, Nat.le_refl _⟩
    rw [toList_ensU] at hx
    obtain ⟨y, hy, rfl⟩ := List.mem_map.1 hx
    exact hlt y hy
  have hJ0 : J [] w0 := hJ [] W w0 none h0 (by rw [← hw0]; exact World.grownBy_alloc W _ none) (fun r e => by cases e)
  have HNK := Lib.hid hnk
  have HNB := Lib.hid hnb
  rw [hw0] at hrange
  have HW0 := Lib.hid hw0
  clear hw0 hb hnk hnb hlt
  generalize hrr : W.heap.size = rr at *
  have HRR := Lib.hid hrr
  clear hrr
  gi_wp2
  gi_loopw [3] (fun _ wr => ∃ (seen : Array Nat) (ss : List Int), Rg wr m rr E seen ∧ ss.length + (leftOf (ensU E) seen).size ≤ E.length ∧ Come E seen ss ∧ J ss wr)
    (fun _ wr => wr.rangeLeft m rr)
  case atStart =>
    have hz : (leftOf (ensU E) #[]).size ≤ E.length := by
      unfold leftOf
      exact Nat.le_trans Array.size_filter_le (by simp [ensU])
    exact ⟨#[], [], hrg0, by rw [List.length_nil, Nat.zero_add]; exact hz, Come.start E, hJ0⟩
  case round =>
    obtain ⟨seen, ss, hrg, hcs, hC, hJs⟩ := hrel
    rcases hrg.next with ⟨hall, hnx⟩ | ⟨x, hx, hs, w2, hnx, hrg2, hg2, hen, hlt2⟩
    · gi_wp2
      go_end0
      exact ⟨⟨_, rfl⟩, .inl ⟨ss, hC.perm HNK.out hall, hJs⟩⟩
    · have hJ2 : J ss w2 := hJ ss wr w2 (some rr) hJs hg2 (fun r e => by cases e; exact ⟨Nat.le_refl _, by obtain ⟨_, _, _, q, _⟩ := hrg.it; exact ⟨_, q, rfl⟩⟩)
      obtain ⟨fn, tmps, assign, body, hy, hR⟩ := hY ss x.1 w2 hJ2 (by omega)
      gi_wp2
      refine hR.mono ?_
      have hC2 := hC.step HNK.out HNB.out hx hs
      rintro e W3 (⟨rfl, hJ3, hk3⟩ | ⟨rfl, hJx3⟩)
      · gi_wp2
        have hrg3 := hrg2.walks hk3
        go_roundw
        case rel => exact ⟨_, ss ++ [x.1], hrg3, by simp; omega, hC2, hJ3⟩
        case measure => rw [hrg3.left, hrg.left]; exact hlt2
      · gi_wp2
        refine bodyPost_ret (results_none rfl _ _ _) rfl ?_
        exact ⟨⟨_, rfl⟩, .inr ⟨ss ++ [x.1], trivial, hJx3⟩⟩
set_option maxRecDepth 100000 in
set_option maxHeartbeats 1000000 in
theorem keys1_nil (n l Bm : Nat) (J Jx : List Int → World → Prop) (W : World) (hJ : AbidesFrom W.heap.size J) (hm : W.cell? ⟨Bm, 0, none⟩ = some (.map none)) (h0 : J [] W) :
    CallsIn Fence.wide n Try.prog 27 #[.func (.yield l) #[] #[], .pointer (some ⟨Bm, 0, none⟩)] W fun e W' => (∃ v, e = .returned v) ∧
      ((∃ ss : List Int, ss.Perm [] ∧ J ss W') ∨ (∃ pre : List Int, True ∧ Jx pre W')) := by
  refine callsIn_of_wp Try.func27 rfl trivial ?_ rfl
  simp only [Try.ntmps27, List.size_toArray, List.length_cons, List.length_nil, Nat.reduceAdd, Nat.reduceSub, Array.replicate_succ, Array.replicate_zero, List.push_toArray, List.append_toArray, List.nil_append, List.cons_append]
  have hrange := run_range_nilMap (P := Try.prog) W 48 22 57 Try.underlying48
  have hnx : ∀ ty, (Instr.next (.pointer (some ⟨W.heap.size, 0, none⟩)) false ty).run Try.prog (W.alloc (.mapIter none 0 #[] 0)) = _ := fun ty => run_next_nilMap _ ty 0 0 #[]
  gi_wp2
  refine wpIn_loop_rounds 1 ?_
  rw [roundsIn_succ]
  gi_wp2
  go_end0
  exact ⟨⟨_, rfl⟩, .inl ⟨[], List.Perm.refl _, hJ [] W _ none h0 (World.grownBy_alloc W _ none) (fun r e => by cases e)⟩⟩
/-- What maps.Keys hands back, of a map that holds the keys of A. -/
theorem keys_stops (n : Nat) (hn : 1 ≤ n) (Bm : Nat) (mo : Option Nat) (A : List Nat) (w : World) (hBm : w.cell? ⟨Bm, 0, none⟩ = some (.map mo)) (hown : MapO w mo A) :
    SeqStopsK Fence.wide n Try.prog 27 #[.pointer (some ⟨Bm, 0, none⟩)] (fun x : Int => #[Value.int .u32 x]) KeepsWalks (fun ss => ss.Perm (A.map key)) (fun _ => True) A.length w := fun l J Jx W hW hJ _ hY h0 => by
  have hc : W.cell? ⟨Bm, 0, none⟩ = some (.map mo) := cell_up hBm hW
  cases mo with
  | none =>
    obtain rfl : A = [] := hown
    exact keys1_nil n l Bm J Jx W hJ hc h0
  | some m =>
    obtain ⟨E, h1, h2⟩ := hown
    have hl : E.length = A.length := by have := congrArg List.length h2; simpa using this
    rw [← h2]
    exact keys1 n hn l Bm m E J Jx (fun pre x W1 hj hl1 => hY pre x W1 hj (by omega)) W hJ hc (h1.keep (hW.block m h1.lt)) h0
/-- A row of numbers of the call's own that has these, in whichever order. -/
def ColPost (A : List Nat) (w : World) (e : Ending) (w' : World) : Prop := ∃ B c ss, e = .returned (.slice B ss.length c) ∧ ss.Perm (A.map key) ∧ OwnI .u32 22 w.heap.size w' B ss.length c ss ∧ Up w w'
set_option maxRecDepth 100000 in
set_option maxHeartbeats 2000000 in
theorem appseq (Bm : Nat) (mo : Option Nat) (A : List Nat) (hA : A.length ≤ 1000) (w : World) (hBm : w.cell? ⟨Bm, 0, none⟩ = some (.map mo)) (hown : MapO w mo A) :
    Calls Try.prog 29 #[.slice none 0 0, .func (.func 27) #[] #[.pointer (some ⟨Bm, 0, none⟩)]] w (ColPost A w) := by
  refine (callsIn_wide (n := 5)).1 ?_
  obtain ⟨i0, hi, hz0, hz1, hz2⟩ := info_parts info22
  refine callsIn_of_wp_marks Try.func29 rfl trivial ?_ rfl
  simp only [Try.ntmps29, List.size_toArray, List.length_cons, List.length_nil, Nat.reduceAdd, Nat.reduceSub, Array.replicate_succ, Array.replicate_zero, List.push_toArray, List.append_toArray, List.nil_append, List.cons_append]
  have HO := Lib.hid hown
  have HBm := Lib.hid hBm
  clear hown hBm
  gi_wp2
  have bO := Boxed.new w 24 (.slice none 0 0)
  have hB0 : Below w.heap.size w (w.alloc (.cells #[.slice none 0 0] 24)) := (Below.refl _ w).alloc (Nat.le_refl _) _
  refine wpIn_rangeFunc_ownF rfl (by omega) (gf := 27) (lb := #[.pointer (some ⟨Bm, 0, none⟩)]) rfl trivial (enters_of Try.func27 (by kernel_rfl) rfl)
    (keys_stops 4 (by omega) Bm mo A w HBm.out HO.out) walksK_t walksK_b hB0 (fun _ => rfl)
    (fun pre W => (∃ v, Boxed W w.heap.size 24 v ∧ W.ownsRow w.heap.size 22 1 v pre.length (ints .u32 pre) ∧ True) ∧ Below w.heap.size w W)
    (fun _ _ _ => False)
    (OwnFrom.and (Own.from (holdsRow_own w.heap.size w.heap.size 24 22 1 (fun pre => pre.length) (fun pre => ints .u32 pre) (fun pre v => True)) _) (ownFrom_below (Nat.le_refl _) (by simp)))
    (fun _ _ _ _ _ hs _ _ => hs)
    ⟨⟨_, bO, World.ownsRow_nil _ _ _ _, trivial⟩, hB0⟩
    (fun x => { tmps := #[.slice none 0 0, .func (.func 27) #[] #[.pointer (some ⟨Bm, 0, none⟩)], .pointer (some ⟨w.heap.size, 0, none⟩), undef, .slice none 0 0, .int .u32 x, .func (.func 27) #[] #[.pointer (some ⟨Bm, 0, none⟩)], .int .u32 x, undef, undef, undef, undef, undef], defers := [] }) ?assign ?body ?done ?stop
  case assign =>
    intro l x W K hK
    gi_wp2
    exact hK
  case body =>
    rintro l pre x W ⟨⟨v, hv, hrow, _⟩, hB⟩ hlt
    have hc := hv.cell
    gi_wp2_with (gi_at_builtin; refine wpListIn_append_own _ rfl _ _ 24 rfl w.heap.size 22 i0 (.int .u32 0) 1 4 Try.underlying24 hi hz0 hz1 hz2 rfl (by decide) _ _ _ rfl (hrow.alloc _) ⟨W.heap.size, 0, none⟩ 1 1 [.int .u32 x] rfl rfl (cell_one_new _ _ _) (by simp [Value.oneCell']) (by unfold maxLen; omega) (by omega) (by have := hB.size; simp; omega) ?_; intro v' w1 hown' hgrow _; obtain ⟨g', cap', rfl⟩ := ownsRow_succ hown'; obtain ⟨hv1, hv2, hr2, hk2, hb2⟩ := hv.appended (by decide) hrow hB.size (Nat.le_refl _) hown' hgrow; have hc1 := hv1.cell; have hf1 := hv1.frozen)
    exact ⟨hk2, hk2.walks, ⟨_, hv2, by rw [ints_append]; simpa [ints] using hr2, trivial⟩, hB.trans hb2⟩
  case done =>
    rintro D ys W hD hS ⟨⟨v, hv, hrow, _⟩, hB⟩ hK
    have hc := hv.cell
    gi_wp2
    refine ⟨by simp, .inl ⟨_, _, rfl, run_takeDeferred hK, ?_⟩⟩
    obtain ⟨B, c, rfl⟩ := own_slice hrow
    exact ⟨_, results_tmp rfl _ _ _, B, c, ys, rfl, hS, ownsRow_putObj hrow _ hK rfl, hB.trans (belowK_b (w := w) (Nat.le_refl _) W D _ _ (by simp at hD; omega) hK rfl rfl)⟩
  case stop =>
    rintro D c pre W _ _ h _
    exact h.elim
end Go.Proofs.Ytccilbgbjikmpaa
