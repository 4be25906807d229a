import Derived.Test.YtdlehchofmdjbaaSqO
import Derived.Test.YtdlehchofmdjbaaSqZ
namespace Go.Proofs.Ytdlehchofmdjbaa
open Go Go.RowKit Go.Shelf Sq
set_option linter.unusedVariables false
set_option linter.unusedSimpArgs false
attribute [local go_sem] Oper.semAt_some
/-! Late, and what a nil queue answers. -/
namespace Sq
def late1 (path : Int) (x : It) : It := if x.out = true ∧ x.ack = false ∧ x.mkd = false ∧ x.path = path then { x with mkd := true } else x
def late (Q : QS) (path : Int) : QS := ⟨Q.nx, Q.l.map (late1 path)⟩
def lateN (Q : QS) (path : Int) : Nat := Q.l.countP (fun x => decide (x.out = true ∧ x.ack = false ∧ x.mkd = false ∧ x.path = path))
def markB (y : ItB) : ItB := ⟨{ y.x with mkd := true }, y.A, y.c⟩
def markL (L : List ItB) (pre : List Nat) : List ItB := L.mapIdx fun j y => if pre.contains j then markB y else y
theorem markL_nil (L : List ItB) : markL L [] = L := by
  unfold markL
  apply List.ext_getElem?
  intro j
  rw [List.getElem?_mapIdx]
  cases L[j]? <;> simp
theorem markL_len (L : List ItB) (pre : List Nat) : (markL L pre).length = L.length := by simp [markL]
theorem markL_at {L : List ItB} {pre : List Nat} {j : Nat} (h : j ∉ pre) : (markL L pre)[j]? = L[j]? := by
  unfold markL
  rw [List.getElem?_mapIdx]
  cases L[j]? with
  | none => rfl
  | some y => simp [h]
theorem markL_step {L : List ItB} {pre : List Nat} {x : Nat} {y : ItB} (h : L[x]? = some y) : (markL L pre).set x (markB y) = markL L (pre ++ [x]) := by
  have hi : x < L.length := (List.getElem?_eq_some_iff.1 h).1
  apply List.ext_getElem?
  intro j
  rw [List.getElem?_set, markL_len]
  unfold markL
  rw [List.getElem?_mapIdx, List.getElem?_mapIdx]
  by_cases e : x = j
  · subst e; rw [if_pos rfl, if_pos hi, h]; simp
  · rw [if_neg e]
    cases hj : L[j]? with
    | none => rfl
    | some z =>
      have : ¬ j = x := fun h => e h.symm
      simp [this]
theorem onU_mem {L : List ItB} {path : Int} {m i : Nat} : i ∈ onU L path m ↔ i < m ∧ fliesB L i = true ∧ pathB L path i = true := by
  unfold onU
  rw [List.mem_filter, flU_mem, and_assoc]
theorem onU_len (L : List ItB) (path : Int) (m : Nat) : (onU L path m).length ≤ m := Nat.le_trans (List.length_filter_le _ _) (flU_len _ _)
def onP (path : Int) (y : ItB) : Bool := !y.x.ack && !y.x.mkd && decide (y.x.path = path)
theorem onU_count (L : List ItB) (path : Int) : ∀ m, m ≤ L.length → (onU L path m).length = (L.take m).countP (onP path)
  | 0, _ => by simp [onU, flU]
  | m + 1, h => by
    obtain ⟨y, hy⟩ : ∃ y, L[m]? = some y := ⟨_, List.getElem?_eq_getElem (by omega)⟩
    have e : onU L path (m + 1) = onU L path m ++ (if onP path y = true then [m] else []) := by
      unfold onU
      rw [flU_succ, List.filter_append]
      congr 1
      have e1 : fliesB L m = (!y.x.ack && !y.x.mkd) := by unfold fliesB; rw [hy]
      have e2 : pathB L path m = decide (y.x.path = path) := by unfold pathB; rw [hy]
      rw [e1]
      unfold onP
      by_cases h1 : (!y.x.ack && !y.x.mkd) = true
      · rw [if_pos h1, h1, Bool.true_and, ← e2]; simp only [List.filter_cons, List.filter_nil]
      · rw [if_neg h1, if_neg (by simp only [Bool.and_eq_true] at h1 ⊢; exact fun h => h1 h.1)]; rfl
    rw [e, List.length_append, onU_count L path m (by omega), List.take_add_one, hy, List.countP_append]
    congr 1
    by_cases h1 : onP path y = true <;> simp [h1]
theorem lateN_eq {Q : QS} {L : List ItB} (he : Q.l = L.map (·.x)) (hg : Good Q) (path : Int) : (onU L path (outN Q.l)).length = lateN Q path := by
  have hlen : L.length = Q.l.length := by rw [he]; simp
  have ho : outN Q.l ≤ L.length := by rw [hlen]; exact outN_le _
  have hpre := hg.pre
  unfold lateN
  rw [onU_count L path _ ho]
  generalize hoo : outN Q.l = o at ho hpre
  rw [he, List.countP_map]
  conv => rhs; rw [← List.take_append_drop o L]
  rw [List.countP_append]
  have h0 : (L.drop o).countP ((fun x : It => decide (x.out = true ∧ x.ack = false ∧ x.mkd = false ∧ x.path = path)) ∘ (·.x)) = 0 := by
    rw [List.countP_eq_zero]
    intro y hy
    obtain ⟨i, hi⟩ := List.mem_iff_getElem?.1 hy
    rw [List.getElem?_drop] at hi
    have := (hpre (o + i) y.x (by rw [he, List.getElem?_map, hi]; rfl))
    simp only [Function.comp, decide_eq_true_eq]
    intro h
    have := this.1 h.1
    omega
  rw [h0, Nat.add_zero]
  refine List.countP_congr fun y hy => ?_
  obtain ⟨i, hi⟩ := List.mem_iff_getElem?.1 hy
  rw [List.getElem?_take] at hi
  split at hi
  · rename_i hio
    have := (hpre i y.x (by rw [he, List.getElem?_map, hi]; rfl)).2 hio
    simp only [onP, Function.comp, this, Bool.and_eq_true, decide_eq_true_eq, Bool.not_eq_true', true_and, and_assoc]
  · cases hi
theorem late_list {Q : QS} {L : List ItB} (he : Q.l = L.map (·.x)) (hg : Good Q) (path : Int) : (late Q path).l = (markL L (onU L path (outN Q.l))).map (·.x) := by
  have hpre := hg.pre
  apply List.ext_getElem?
  intro i
  unfold late markL
  simp only [List.getElem?_map, List.getElem?_mapIdx]
  generalize outN Q.l = o at hpre
  rw [he, List.getElem?_map]
  cases hq : L[i]? with
  | none => rfl
  | some y =>
    have hp := hpre i y.x (by rw [he, List.getElem?_map, hq]; rfl)
    simp only [Option.map_some]
    congr 1
    have e1 : fliesB L i = (!y.x.ack && !y.x.mkd) := by unfold fliesB; rw [hq]
    have e2 : pathB L path i = decide (y.x.path = path) := by unfold pathB; rw [hq]
    have hc : (onU L path o).contains i = true ↔ (y.x.out = true ∧ y.x.ack = false ∧ y.x.mkd = false ∧ y.x.path = path) := by
      rw [List.contains_iff_mem, onU_mem, e1, e2, hp]
      simp [and_assoc]
    unfold late1
    by_cases h : y.x.out = true ∧ y.x.ack = false ∧ y.x.mkd = false ∧ y.x.path = path
    · rw [if_pos h, if_pos (hc.2 h)]; rfl
    · rw [if_neg h, if_neg (fun e => h (hc.1 e))]
theorem late_good {Q : QS} (h : Good Q) (path : Int) : Good (late Q path) ∧ outN (late Q path).l = outN Q.l ∧ cum (late Q path) = cum Q := by
  refine h.same (by simp) fun i x' hx => ?_
  rw [List.getElem?_map] at hx
  cases hq : Q.l[i]? with
  | none => rw [hq] at hx; cases hx
  | some x =>
    rw [hq] at hx
    have h2 := Option.some.inj hx
    have hb := h.bd x (List.mem_of_getElem? hq)
    have hm := h.mo x (List.mem_of_getElem? hq)
    refine ⟨x, rfl, ?_⟩
    rw [← h2]
    unfold late1
    split
    · rename_i hc; exact ⟨rfl, rfl, hb.2.2, fun _ => hc.1⟩
    · exact ⟨rfl, rfl, hb.2.2, hm⟩
theorem mark_mem {L : List ItB} {pre : List Nat} : ∀ y' ∈ markL L pre, ∃ y ∈ L, y'.A = y.A ∧ y'.c = y.c ∧ y'.x.p = y.x.p := fun y' hy' => by
  obtain ⟨i, hi⟩ := List.mem_iff_getElem?.1 hy'
  unfold markL at hi
  rw [List.getElem?_mapIdx] at hi
  cases hq : L[i]? with
  | none => rw [hq] at hi; cases hi
  | some y =>
    rw [hq] at hi
    have h2 := Option.some.inj hi
    refine ⟨y, List.mem_of_getElem? hq, ?_⟩
    rw [← h2]
    split <;> exact ⟨rfl, rfl, rfl⟩
/-- Between two rounds of Late. -/
def LateI (w : World) (cb qb pb q cu : Nat) (A : Option Addr) (n c o : Nat) (path : Int) (L : List ItB) (pre : List Nat) (W : World) : Prop :=
  W.heap[cb]? = some (.cells #[.int .i64 (pre.length : Int)] 3 (0, 0)) ∧ W.heap[qb]? = some (.cells #[.pointer (some ⟨q, 0, none⟩)] 23 (0, 0)) ∧ W.heap[pb]? = some (.cells #[.int .i64 path] 3 (0, 0)) ∧ W.heap[q]? = some (.cells (qcl cu A n c o) 52 (0, 0)) ∧
    W.ownsRow 0 56 11 (.slice A n c) n ((markL L pre).flatMap itc) ∧ Out (fun k => blk? A = some k) w W
theorem lateI_own {w : World} {cb qb pb q cu : Nat} {A : Option Addr} {n c o B : Nat} {path : Int} {L : List ItB} (hB : w.heap.size ≤ B) : OwnFrom B (LateI w cb qb pb q cu A n c o path L) := fun pre X Y row ⟨h1, h2, h3, h4, h5, h6⟩ hg hr =>
  ⟨(stays hg hr h1).trans h1, (stays hg hr h2).trans h2, (stays hg hr h3).trans h3, (stays hg hr h4).trans h4, stays_row hg hr h5, stays_out hg hr hB h6⟩
theorem lateI_in {w : World} {cb qb pb q cu : Nat} {A : Option Addr} {n c o : Nat} {path : Int} {L : List ItB} (pre : List Nat) (W : World) (h : LateI w cb qb pb q cu A n c o path L pre W) : InO qb pb q cu A n c o path L pre W := by
  obtain ⟨h1, h2, h3, h4, h5, h6⟩ := h
  exact ⟨h2, h3, h4, _, h5, fun j hj => markL_at (fun hm => by have := hj j hm; omega)⟩
theorem row_mark {w : World} {g c n k : Nat} {M : List ItB} {y : ItB} (h : w.ownsRow 0 56 11 (.slice (some ⟨g, 0, none⟩) n c) n (M.flatMap itc)) (hy : M[k]? = some y) :
    (w.setCell ⟨g, k * 11 + 10, none⟩ (.bool true)).ownsRow 0 56 11 (.slice (some ⟨g, 0, none⟩) n c) n ((M.set k (markB y)).flatMap itc) := by
  have h1 := (World.ownsRow.stored h (k * 11 + 10) (.bool true)).1
  rwa [flat_set itc 11 itc_len hy (y' := markB y) (by omega) rfl] at h1
theorem up_put {w W : World} {D : Nat} {o : Obj} (h : Up w W) (hD : w.heap.size ≤ D) : Up w (W.putObj D o) := ⟨h.os, h.tape, h.output, by simpa using h.size, fun k hk => (World.putObj_heap_other (by omega)).trans (h.block k hk)⟩
end Sq
set_option maxRecDepth 100000 in
theorem late0_any (path : Int) (w : World) : Calls Try.prog 12 #[.pointer none, .int .i64 path] w (Nix (.int .i64 0) w) := by
  refine (callsIn_wide (n := 6)).1 ?_
  refine callsIn_of_wp_marks Try.func12 rfl trivial ?_ rfl
  refine wpIn_wide.2 ?_
  simp only [Try.ntmps12, List.size_toArray, List.length_cons, List.length_nil, Nat.reduceAdd, Nat.reduceSub, Array.replicate_succ, Array.replicate_zero, List.push_toArray, List.append_toArray, List.nil_append, List.cons_append]
  have HC := Lib.hid (new_at w (.cells #[.int .i64 0] 3))
  have HU := Lib.hid (up_alloc w (.cells #[.int .i64 0] 3))
  go_wp2_with fail
  generalize w.alloc (.cells #[.int .i64 0] 3) = w1 at HC HU ⊢
  refine (on_any none path w1).mono ?_
  rintro e w2 ⟨rfl, hw2⟩
  have HU2 := Lib.hid (show Up w1 w2 by rw [hw2.out]; exact (up_alloc _ _).trans (up_alloc _ _))
  have HX := Lib.hid (show w2.heap[w1.heap.size]? = some (.cells #[.pointer none] 23 (0, 0)) by rw [hw2.out]; exact ((up_alloc _ _).block _ (by simp)).trans (new_at w1 _))
  have HC2 := Lib.hid ((HU2.out.block _ (lt_of_blk HC.out)).trans HC.out)
  have HV := Lib.hid (HU.out.trans HU2.out)
  clear hw2
  go_wp2_with fail
  refine (wpIn_wide (n := 6)).1 ?_
  refine range_K (by omega) (gf := 34) (lb := #[.pointer (some ⟨w1.heap.size, 0, none⟩), .pointer (some ⟨w1.heap.size + 1, 0, none⟩)]) rfl (enters_of Try.func34 (by kernel_rfl) rfl)
    (on0_seq 5 _ _) (fun _ => rfl) (fun _ W => W.heap[w1.heap.size]? = some (.cells #[.pointer none] 23 (0, 0)) ∧ W.heap[w.heap.size]? = some (.cells #[.int .i64 0] 3 (0, 0)) ∧ Up w W) ?own ?inn ?start
    (fun x => { tmps := #[.pointer none, .int .i64 path, undef, undef, .int .i64 0, .pointer (some ⟨w.heap.size, 0, none⟩), .pointer none, .pointer none, .int .i64 path, .func (.func 34) #[] #[.pointer (some ⟨w1.heap.size, 0, none⟩), .pointer (some ⟨w1.heap.size + 1, 0, none⟩)], .pointer none, undef, undef, undef, undef, undef, undef], defers := [] }) ?assign ?body ?done
  case own =>
    rintro pre X Y row ⟨h1, h2, h3⟩ hg hr
    refine ⟨blk_grown h1 hg (fun r e => (hr r e).2), blk_grown h2 hg (fun r e => (hr r e).2), ?_⟩
    exact ⟨hg.os.trans h3.os, hg.tape.trans h3.tape, hg.output.trans h3.output, Nat.le_trans h3.size hg.size, fun k hk => (hg.block k (Nat.lt_of_lt_of_le hk h3.size) (fun e => by have := (hr k e.symm).1; have := HV.out.size; omega)).trans (h3.block k hk)⟩
  case inn => exact fun pre W h => h.1
  case start => exact ⟨HX.out, HC2.out, HV.out⟩
  case assign =>
    intro l x W K hK
    simp only [encF]
    gi_wp2
    exact hK
  case body => exact fun l pre x W hI hn => hn.elim
  case done =>
    rintro D xs W hD hxs ⟨h1, h2, h3⟩ hK
    have c0 := cell_of h2 (j := 0) rfl
    go_wp2_with fail
    refine ⟨by simp, .inl ⟨_, _, rfl, run_takeDeferred hK, ?_⟩⟩
    exact ⟨_, results_tmp rfl _ _ _, rfl, Lib.hid (up_put h3 (by have := HV.out.size; omega))⟩
set_option maxRecDepth 100000 in
theorem flight0_any (path : Int) (w : World) : Calls Try.prog 13 #[.pointer none, .int .i64 path] w (Nix (.int .i64 0) w) := by
  refine (callsIn_wide (n := 6)).1 ?_
  refine callsIn_of_wp_marks Try.func13 rfl trivial ?_ rfl
  refine wpIn_wide.2 ?_
  simp only [Try.ntmps13, List.size_toArray, List.length_cons, List.length_nil, Nat.reduceAdd, Nat.reduceSub, Array.replicate_succ, Array.replicate_zero, List.push_toArray, List.append_toArray, List.nil_append, List.cons_append]
  have HC := Lib.hid (new_at w (.cells #[.int .i64 0] 3))
  have HU := Lib.hid (up_alloc w (.cells #[.int .i64 0] 3))
  go_wp2_with fail
  generalize w.alloc (.cells #[.int .i64 0] 3) = w1 at HC HU ⊢
  refine (on_any none path w1).mono ?_
  rintro e w2 ⟨rfl, hw2⟩
  have HU2 := Lib.hid (show Up w1 w2 by rw [hw2.out]; exact (up_alloc _ _).trans (up_alloc _ _))
  have HX := Lib.hid (show w2.heap[w1.heap.size]? = some (.cells #[.pointer none] 23 (0, 0)) by rw [hw2.out]; exact ((up_alloc _ _).block _ (by simp)).trans (new_at w1 _))
  have HC2 := Lib.hid ((HU2.out.block _ (lt_of_blk HC.out)).trans HC.out)
  have HV := Lib.hid (HU.out.trans HU2.out)
  clear hw2
  go_wp2_with fail
  refine (wpIn_wide (n := 6)).1 ?_
  refine range_K (by omega) (gf := 34) (lb := #[.pointer (some ⟨w1.heap.size, 0, none⟩), .pointer (some ⟨w1.heap.size + 1, 0, none⟩)]) rfl (enters_of Try.func34 (by kernel_rfl) rfl)
    (on0_seq 5 _ _) (fun _ => rfl) (fun _ W => W.heap[w1.heap.size]? = some (.cells #[.pointer none] 23 (0, 0)) ∧ W.heap[w.heap.size]? = some (.cells #[.int .i64 0] 3 (0, 0)) ∧ Up w W) ?own ?inn ?start
    (fun x => { tmps := #[.pointer none, .int .i64 path, undef, undef, .int .i64 0, .pointer (some ⟨w.heap.size, 0, none⟩), .pointer none, .pointer none, .int .i64 path, .func (.func 34) #[] #[.pointer (some ⟨w1.heap.size, 0, none⟩), .pointer (some ⟨w1.heap.size + 1, 0, none⟩)], .pointer none, undef, undef, undef, undef, undef, undef, undef, undef, undef], defers := [] }) ?assign ?body ?done
  case own =>
    rintro pre X Y row ⟨h1, h2, h3⟩ hg hr
    refine ⟨blk_grown h1 hg (fun r e => (hr r e).2), blk_grown h2 hg (fun r e => (hr r e).2), ?_⟩
    exact ⟨hg.os.trans h3.os, hg.tape.trans h3.tape, hg.output.trans h3.output, Nat.le_trans h3.size hg.size, fun k hk => (hg.block k (Nat.lt_of_lt_of_le hk h3.size) (fun e => by have := (hr k e.symm).1; have := HV.out.size; omega)).trans (h3.block k hk)⟩
  case inn => exact fun pre W h => h.1
  case start => exact ⟨HX.out, HC2.out, HV.out⟩
  case assign =>
    intro l x W K hK
    simp only [encF]
    gi_wp2
    exact hK
  case body => exact fun l pre x W hI hn => hn.elim
  case done =>
    rintro D xs W hD hxs ⟨h1, h2, h3⟩ hK
    have c0 := cell_of h2 (j := 0) rfl
    go_wp2_with fail
    refine ⟨by simp, .inl ⟨_, _, rfl, run_takeDeferred hK, ?_⟩⟩
    exact ⟨_, results_tmp rfl _ _ _, rfl, Lib.hid (up_put h3 (by have := HV.out.size; omega))⟩
set_option maxRecDepth 100000 in
set_option maxHeartbeats 2000000 in
theorem late_any (S : Nat → Prop) (p : Addr) (Q : QS) (path : Int) (w : World) (h : IsQ S w p Q) : Calls Try.prog 12 #[.pointer (some p), .int .i64 path] w (Answer (.int .i64 (lateN Q path : Int)) (late Q path) IsQ p S w) := by
  obtain ⟨q, A, c, L, rfl, h⟩ := h
  obtain ⟨n, hn⟩ : ∃ n, n = L.length := ⟨_, rfl⟩
  obtain ⟨o, ho⟩ : ∃ o, o = outN Q.l := ⟨_, rfl⟩
  have hon : o ≤ n := by rw [hn, ho, h.len]; exact outN_le _
  have hn2 : n ≤ 256 := by rw [hn, h.len]; exact h.ok.len
  have htop := h.top
  have hrow := h.row
  rw [← hn] at htop hrow
  rw [← ho] at htop
  have HQ := Lib.hid htop
  have HR := Lib.hid hrow
  have HN := Lib.hid hn
  have HO := Lib.hid ho
  have H := Lib.hid h
  clear htop hrow hn ho h
  refine (callsIn_wide (n := 6)).1 ?_
  refine callsIn_of_wp_marks Try.func12 rfl trivial ?_ rfl
  refine wpIn_wide.2 ?_
  simp only [Try.ntmps12, List.size_toArray, List.length_cons, List.length_nil, Nat.reduceAdd, Nat.reduceSub, Array.replicate_succ, Array.replicate_zero, List.push_toArray, List.append_toArray, List.nil_append, List.cons_append]
  have HC := Lib.hid (new_at w (.cells #[.int .i64 0] 3))
  have HU := Lib.hid (up_alloc w (.cells #[.int .i64 0] 3))
  go_wp2_with fail
  obtain ⟨w1, hw1⟩ : ∃ w1, w1 = w.alloc (.cells #[.int .i64 0] 3) := ⟨_, rfl⟩
  rw [← hw1] at HC HU ⊢
  have HS1 := Lib.hid (show w1.heap.size = w.heap.size + 1 by rw [hw1]; simp)
  clear hw1
  refine (on_any (some ⟨q, 0, none⟩) path w1).mono ?_
  rintro e w2 ⟨rfl, hw2⟩
  have HU2 := Lib.hid (show Up w1 w2 by rw [hw2.out]; exact (up_alloc _ _).trans (up_alloc _ _))
  have HX := Lib.hid (show w2.heap[w1.heap.size]? = some (.cells #[.pointer (some ⟨q, 0, none⟩)] 23 (0, 0)) by rw [hw2.out]; exact ((up_alloc _ _).block _ (by simp)).trans (new_at w1 _))
  have HX2 := Lib.hid (show w2.heap[w1.heap.size + 1]? = some (.cells #[.int .i64 path] 3 (0, 0)) by
    rw [hw2.out]
    have := new_at (w1.alloc (.cells #[.pointer (some ⟨q, 0, none⟩)] 23)) (.cells #[.int .i64 path] 3)
    rwa [World.size_alloc] at this)
  have HS2 := Lib.hid (show w2.heap.size = w.heap.size + 3 by rw [hw2.out]; simp [HS1.out])
  have HC2 := Lib.hid ((HU2.out.block _ (lt_of_blk HC.out)).trans HC.out)
  have HV := Lib.hid (HU.out.trans HU2.out)
  clear hw2
  rw [HS1.out] at HX HX2 ⊢
  obtain ⟨cb, hcb⟩ : ∃ cb, cb = w.heap.size := ⟨_, rfl⟩
  obtain ⟨qb, hqb⟩ : ∃ qb, qb = w.heap.size + 1 := ⟨_, rfl⟩
  obtain ⟨pb, hpb⟩ : ∃ pb, pb = w.heap.size + 1 + 1 := ⟨_, rfl⟩
  rw [← hpb] at HX2 ⊢
  rw [← hqb] at HX ⊢
  rw [← hcb] at HC2 ⊢
  have HCB := Lib.hid hcb
  have HQB := Lib.hid hqb
  have HPB := Lib.hid hpb
  clear hcb hqb hpb
  go_wp2_with fail
  refine (wpIn_wide (n := 6)).1 ?_
  refine range_K (by omega) (gf := 34) (lb := #[.pointer (some ⟨qb, 0, none⟩), .pointer (some ⟨pb, 0, none⟩)]) rfl (enters_of Try.func34 (by kernel_rfl) rfl)
    (on_seq 5 (by omega) qb pb q (cum Q) A n c o path L HN.out hon hn2) (fun _ => rfl) (LateI w cb qb pb q (cum Q) A n c o path L) (lateI_own (by rw [HS2.out]; omega)) lateI_in ?start
    (fun x => { tmps := #[.pointer (some ⟨q, 0, none⟩), .int .i64 path, undef, undef, .int .i64 0, .pointer (some ⟨cb, 0, none⟩), .pointer (A.map fun a => ⟨a.block, x * 11, none⟩), .pointer (some ⟨q, 0, none⟩), .int .i64 path, .func (.func 34) #[] #[.pointer (some ⟨qb, 0, none⟩), .pointer (some ⟨pb, 0, none⟩)], .pointer (A.map fun a => ⟨a.block, x * 11, none⟩), undef, undef, undef, undef, undef, undef], defers := [] }) ?assign ?body ?done
  case start => exact ⟨HC2.out, HX.out, HX2.out, (HV.out.block _ (lt_of_blk HQ.out)).trans HQ.out, by rw [markL_nil]; exact own_up HR.out HV.out, HV.out.out _⟩
  case assign =>
    intro l x W K hK
    simp only [encF]
    gi_wp2
    exact hK
  case body =>
    rintro l pre x W hI ⟨hxm, hpre, hfl, hpt⟩
    obtain ⟨h1, h2, h3, h4, h5, h6⟩ := hI
    obtain ⟨y, hy⟩ : ∃ y, L[x]? = some y := ⟨_, List.getElem?_eq_getElem (by rw [← HN.out]; omega)⟩
    have hnp : x ∉ pre := fun h => by rw [hpre, onU_mem] at h; omega
    have hyM : (markL L pre)[x]? = some y := (markL_at hnp).trans hy
    obtain ⟨g, rfl⟩ := row_at h5 (by omega)
    have hpl : pre.length ≤ 256 := by rw [hpre]; exact Nat.le_trans (onU_len _ _ _) (by omega)
    have k10 : W.cell? ⟨g, x * 11 + 10, none⟩ = some (.bool y.x.mkd) := row_cell h5 (rowG_at itc 11 itc_len hyM (j := 10) rfl)
    have f10 : W.frozen? ⟨g, x * 11 + 10, none⟩ = false := World.ownsRow.frozenAt h5 _
    have hgl : g < w.heap.size := (row_lt HR.out (k := g) rfl).2
    have HRA := Lib.hid (row_mark h5 hyM)
    have HOA := Lib.hid (setCell_out W g (x * 11 + 10) (.bool true))
    have hcg : cb ≠ g := by have := HCB.out; omega
    have HI := Lib.hid (And.intro h1 (And.intro h2 (And.intro h3 (And.intro h4 (And.intro h5 h6)))))
    have HY := Lib.hid (And.intro hy (And.intro hyM hnp))
    have c0 : (W.setCell ⟨g, x * 11 + 10, none⟩ (.bool true)).cell? ⟨cb, 0, none⟩ = some (.int .i64 (pre.length : Int)) := cell_of (HOA.out.blk h1 hcg) rfl
    have fc : (W.setCell ⟨g, x * 11 + 10, none⟩ (.bool true)).frozen? ⟨cb, 0, none⟩ = false := frozen_at (HOA.out.blk h1 hcg)
    clear h1 h2 h3 h4 h5 h6 hy hyM hnp hpre hfl hpt
    simp only [Option.map_some]
    gi_wp2
    have hcl := HCB.out
    have hql := HQB.out
    have hpl2 := HPB.out
    have hs2 := HS2.out
    have T1 := setCell_at (j := 0) (.int .i64 ((pre.length : Int) + 1)) (HOA.out.blk HI.out.1 hcg)
    have HO3 := Lib.hid (show Out (fun k => k = g ∨ k = cb) W _ from (HOA.out.mono fun k hk => .inl hk).trans ((setCell_out (W.setCell ⟨g, x * 11 + 10, none⟩ (.bool true)) cb 0 (.int .i64 ((pre.length : Int) + 1))).mono fun k hk => .inr hk) (Sub.refl _ _))
    have HRB := Lib.hid (show World.ownsRow _ 0 56 11 (.slice (some ⟨g, 0, none⟩) n c) n ((markL L (pre ++ [x])).flatMap itc) from (setCell_out (W.setCell ⟨g, x * 11 + 10, none⟩ (.bool true)) cb 0 (.int .i64 ((pre.length : Int) + 1))).own (by rw [← markL_step HY.out.1]; exact HRA.out) (fun k hk e => by rw [ownBlock_slice] at hk; injection hk with hk; exact hcg (e.symm.trans hk.symm)))
    generalize (W.setCell ⟨g, x * 11 + 10, none⟩ (.bool true)).setCell ⟨cb, 0, none⟩ (.int .i64 ((pre.length : Int) + 1)) = W3 at T1 HO3 HRB ⊢
    have hqg : q ≠ g := fun e => (H.out.inA g rfl).2 e.symm
    have hqw := lt_of_blk HQ.out
    obtain ⟨i1, i2, i3, i4, i5, i6⟩ := HI.out
    refine ⟨⟨HO3.out.size, fun k hB hk => HO3.out.block k hk (fun e => by rcases e with e | e <;> omega)⟩, by rw [T1]; simp, HO3.out.blk i2 (fun e => by rcases e with e | e <;> omega), HO3.out.blk i3 (fun e => by rcases e with e | e <;> omega), HO3.out.blk i4 (fun e => by rcases e with e | e <;> omega), HRB.out, i6.trans HO3.out (fun k hk => by
      rcases hk with rfl | rfl
      · exact .inl rfl
      · exact .inr (by omega))⟩
  case done =>
    rintro D xs W hD hxs ⟨h1, h2, h3, h4, h5, h6⟩ hK
    have hD2 := Lib.hid (show w.heap.size ≤ D by have := HV.out.size; omega)
    have c0 := cell_of h1 (j := 0) rfl
    go_wp2_with fail
    refine ⟨by simp, .inl ⟨_, _, rfl, run_takeDeferred hK, ?_⟩⟩
    have H6 := Lib.hid (show Out (fun k => blk? A = some k) w (W.putObj D (.deferred none)) from ⟨h6.os, h6.tape, h6.output, by simpa using h6.size, fun k hk hn => (World.putObj_heap_other (by have := hD2.out; omega)).trans (h6.block k hk hn)⟩)
    have hL := late_list H.out.eq H.out.ok path
    have hG := late_good H.out.ok path
    have hC := lateN_eq H.out.eq H.out.ok path
    rw [← HO.out] at hL hC hG
    rw [hxs] at h5
    refine ⟨_, results_tmp rfl _ _ _, S, by rw [← hC]; rfl, Lib.hid ⟨q, A, c, _, rfl, H.out.changed (markL_len L (onU L path o)) hL hG.2.2 hG.1 mark_mem ?_ ?_ (H6.out.mono fun k hk => .inr hk)⟩, Lib.hid (Sub.refl _ _), Lib.hid (H6.out.mono fun k hk => (H.out.inA k hk).1)⟩
    · rw [hG.2.1, ← HN.out]
      exact (World.putObj_heap_other (by have := hD2.out; have := lt_of_blk HQ.out; omega)).trans h4
    · rw [← HN.out]
      refine own_blk h5 fun k hk => World.putObj_heap_other (fun e => ?_)
      rw [ownBlock_slice] at hk
      have := (row_lt HR.out hk).2
      have := hD2.out
      omega
end Go.Proofs.Ytdlehchofmdjbaa
