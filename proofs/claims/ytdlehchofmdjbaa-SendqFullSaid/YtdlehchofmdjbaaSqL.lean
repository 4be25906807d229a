import Derived.Test.YtdlehchofmdjbaaSqK
import Derived.RangeFuncNested
import Derived.RangeFuncBound
import Derived.RangeFuncCalls
import Derived.RangeFuncLeaves
import Derived.Shelf.Abstract
import Derived.Shelf.RegionOpen
import Derived.OwnWalkIn
import Derived.TacticsInMore
import Derived.LoopNIn
import Derived.LoopIn
namespace Go.Proofs.Ytdlehchofmdjbaa
open Go Go.RowKit Go.Shelf
set_option linter.unusedVariables false
set_option linter.unusedSimpArgs false
/-! A range over a function whose rounds change what the function reads: the caller's word 'I' implies the iterator's word 'In'. -/
/-- What an iterator is asked: it calls yield with what comes next ('nxt'), as long as 'In' holds, and has come to an end ('fin'). -/
def SeqI {α : Type} (n : Nat) (P : Program) (g : Nat) (lb : Array Value) (enc : α → Array Value) (nxt : List α → α → Prop) (fin : List α → Prop) (In : List α → World → Prop) : Prop :=
  ∀ (l : Nat) (J : List α → World → Prop) (W : World), OwnFrom W.heap.size J → (∀ pre W', J pre W' → In pre W') →
    (∀ pre x W1, J pre W1 → nxt pre x → YieldAt Fence.wide (n - 1) P l (enc x) W1 fun e W' => e = .returned (.bool true) ∧ J (pre ++ [x]) W' ∧ KeepsFrom W.heap.size W1 W') →
    J [] W → CallsIn Fence.wide n P g (#[.func (.yield l) #[] #[]] ++ lb) W fun e W' => (∃ v, e = .returned v) ∧ ∃ xs, fin xs ∧ J xs W'
/-- How a body ends: off its end. -/
def bodyI (B : Nat) (I : World → Prop) (W : World) : Exit → Act → World → Prop
  | .normal, _, W' => KeepsFrom B W W' ∧ I W'
  | _, _, _ => False
theorem keepsFrom_put {B : Nat} {W : World} {l : Nat} (o : Obj) (h : l < B) : KeepsFrom B W (W.putObj l o) :=
  ⟨by simp, fun k x hk hx _ => (World.putObj_heap_other (by omega)).trans hx⟩
section
variable {n : Nat} {P : Program} {w : World}
theorem range_I {α : Type} {g : Operand} {ps : Array Tmp} {assign body : Code} {Q : Exit → Act → World → Prop} {a : Act}
    (h1 : 1 ≤ n) {gf : Nat} {lb : Array Value} (hg : a.eval g = .func (.func gf) #[] lb) (eg : ∀ args w, (callFunc gf args).run P w = .ok (.enter gf args) w)
    {enc : α → Array Value} {nxt : List α → α → Prop} {fin : List α → Prop} {In : List α → World → Prop} (hseq : SeqI (n - 1) P gf lb enc nxt fin In) (hps : ∀ x, (enc x).size = ps.size)
    (I : List α → World → Prop) (hI : OwnFrom w.heap.size I) (hIn : ∀ pre W, I pre W → In pre W) (h0 : I [] w) (a1 : α → Act)
    (hassign : ∀ (l : Nat) (x : α) (W : World) (K : Act → World → Prop), K (a1 x) W → assign.wpIn (Fence.wide.inRound l) (n - 1 - 1) P (Exit.then K (fun _ _ _ => False)) { tmps := (ps.zip (enc x)).foldl (fun t (p, v) => t.setIfInBounds p v) a.tmps, defers := [] } W)
    (hbody : ∀ (l : Nat) (pre : List α) (x : α) (W : World), I pre W → nxt pre x → body.wpIn (Fence.wide.inRound l) (n - 1 - 1) P (bodyI w.heap.size (I (pre ++ [x])) W) (a1 x) W)
    (hdone : ∀ (D : Nat) (xs : List α) (W : World), w.heap.size ≤ D → fin xs → I xs W → W.heap[D]? = some (.deferred (some [])) → Q .normal { a with defers := { target := .collected D, args := #[] } :: a.defers } W) :
    (Code.rangeFunc g ps assign body).wpIn Fence.wide n P Q a w := by
  refine wpIn_rangeFunc fun fn _ => ?_
  -- the record and the block for deferred calls
  let rec' : LoopState → Option Code → Loop := fun st pe => { state := st, pending := pe, fn, tmps := a.tmps, params := ps, assign, body, defers := w.heap.size }
  obtain ⟨W1, hW1⟩ : ∃ W1, W1 = (w.alloc (.deferred (some []))).alloc (.loop (rec' .ready none)) := ⟨_, rfl⟩
  have sz1 : W1.heap.size = w.heap.size + 2 := by rw [hW1]; simp
  have hd1 : W1.heap[w.heap.size]? = some (.deferred (some [])) := by
    rw [hW1]; exact (Below.heap_alloc _ _ _ (by simp)).trans (World.alloc_heap_new w _)
  have hl1 : W1.heap[w.heap.size + 1]? = some (.loop (rec' .ready none)) := by
    rw [hW1]
    have h := World.alloc_heap_new (w.alloc (.deferred (some []))) (.loop (rec' .ready none))
    rw [World.size_alloc] at h; exact h
  have hI1 : I [] W1 := by rw [hW1]; exact hI.alloc _ (hI.alloc _ h0)
  refine ⟨w.heap.size + 1, [{ target := .collected w.heap.size, args := #[] }], W1, { target := .fn (.func gf) lb, args := #[.func (.yield (w.heap.size + 1)) #[] #[]] }, W1, gf, #[.func (.yield (w.heap.size + 1)) #[] #[]] ++ lb, W1, ?_, ?_, fun _ _ => trivial, ?_, fun _ => h1, ?_⟩
  · rw [hW1]; exact run_enterLoop_outer _ _ _ _ _
  · simp only [resolve, hg]; simp [go_sem]
  · simp [invoke, go_sem, eg]
  -- the iterator's word at the caller's, with the two blocks beside it
  refine (hseq (w.heap.size + 1) (fun pre W => I pre W ∧ W.heap[w.heap.size + 1]? = some (.loop (rec' .ready none)) ∧ W.heap[w.heap.size]? = some (.deferred (some []))) W1 ?_ (fun pre W h => hIn pre W h.1) ?_ ⟨hI1, hl1, hd1⟩).mono ?_
  · rintro s A B row ⟨hi, hl, hd⟩ hgr hr
    have hne : ∀ j, j < W1.heap.size → some j ≠ row := fun j hj e => by have := (hr j e.symm).1; omega
    exact ⟨hI s A B row hi hgr (fun r e => ⟨by have := (hr r e).1; omega, (hr r e).2⟩), (hgr.block _ (Array.getElem?_eq_some_iff.1 hl).1 (hne _ (by omega))).trans hl, (hgr.block _ (Array.getElem?_eq_some_iff.1 hd).1 (hne _ (by omega))).trans hd⟩
  · rintro pre x W ⟨hi, hl, hd⟩ hx
    have hlt : w.heap.size + 1 < W.heap.size := (Array.getElem?_eq_some_iff.1 hl).1
    refine ⟨fn, _, assign, body, run_yield (P := P) (args := enc x) hl (hps x), roundIn_of_wpIn trivial (hassign _ x W _ ?_)⟩
    obtain ⟨V, hV⟩ : ∃ V, V = W.putObj (w.heap.size + 1) (.loop { rec' .ready none with state := .busy }) := ⟨_, rfl⟩
    refine ⟨V, by rw [hV]; exact run_beginRound hl rfl, ?_⟩
    have hlV : V.heap[w.heap.size + 1]? = some (.loop { rec' .ready none with state := .busy }) := by rw [hV]; exact World.putObj_heap_same hlt
    have hdV : V.heap[w.heap.size]? = some (.deferred (some [])) := by rw [hV]; exact (World.putObj_heap_other (by omega)).trans hd
    have hIV : I pre V := by rw [hV]; exact hI.putObj _ hi (by omega) hl rfl
    refine wpIn_mono (hbody _ pre x V hIV hx) ?_
    rintro e a3 W3 hp
    cases e with
    | normal =>
      obtain ⟨hk, hi3⟩ := hp
      have hl3 := hk.same _ _ (by omega) hlV rfl
      have hd3 := hk.same _ _ (Nat.le_refl _) hdV rfl
      refine ⟨_, _, run_endRound (P := P) none hl3, rfl, ⟨hI.putObj _ hi3 (by omega) hl3 rfl, ?_, (World.putObj_heap_other (by omega)).trans hd3⟩, ?_⟩
      · exact World.putObj_heap_same (Array.getElem?_eq_some_iff.1 hl3).1
      · refine ⟨by have h4 := hk.size; rw [hV] at h4; simpa using h4, fun k o hB ho hc => ?_⟩
        refine (World.putObj_heap_other (by omega)).trans (hk.same k o (by omega) ?_ hc)
        rw [hV]; exact (World.putObj_heap_other (by omega)).trans ho
    | ret => exact hp.elim
    | exit id => exact hp.elim
    | goto t => exact hp.elim
    | panic c => exact hp.elim
    | outgrown => exact hp.elim
  · rintro e W2 ⟨⟨v, rfl⟩, xs, hf, hi, hl, hd⟩
    exact ⟨none, _, run_endLoop (P := P) hl (by show LoopState.ready ≠ _; simp), hdone _ xs _ (Nat.le_refl _) hf (hI.putObj _ hi (by omega) hl rfl) ((World.putObj_heap_other (by omega)).trans hd)⟩
end
end Go.Proofs.Ytdlehchofmdjbaa
namespace Go.Proofs.Ytdlehchofmdjbaa
open Go Go.RowKit Go.Shelf Sq
set_option linter.unusedVariables false
set_option linter.unusedSimpArgs false
attribute [local go_sem] Oper.semAt_some
/-! inFlight. -/
theorem inFl_any (A : Option Addr) (n c : Nat) (w : World) : Calls Try.prog 31 #[.slice A n c] w fun e w' => e = .returned (.func (.func 39) #[] #[.pointer (some ⟨w.heap.size, 0, none⟩)]) ∧ w' = w.alloc (.cells #[.slice A n c] 50) := by
  have hmf : ∀ (fn : Fn) (first cap : Array Value) (w : World), (Instr.makeFunc fn first cap).run Try.prog w = .ok (.func fn first cap) w := fun _ _ _ _ => rfl
  go_enter Try.func31, Try.ntmps31
  go_wp2_with fail
  go_ret
  exact ⟨rfl, rfl⟩
namespace Sq
/-- In flight: neither acknowledged nor marked. -/
def fliesB (L : List ItB) (j : Nat) : Bool := match L[j]? with | some y => !y.x.ack && !y.x.mkd | none => false
def flU (L : List ItB) (i : Nat) : List Nat := (List.range i).filter (fliesB L)
theorem flU_succ (L : List ItB) (i : Nat) : flU L (i + 1) = flU L i ++ (if fliesB L i then [i] else []) := by
  unfold flU
  rw [List.range_succ, List.filter_append]
  congr 1
  simp [List.filter_cons]
theorem flU_lt {L : List ItB} {i : Nat} : ∀ k ∈ flU L i, k < i := fun k hk => by
  unfold flU at hk
  rw [List.mem_filter] at hk
  exact List.mem_range.1 hk.1
def nxtF (L : List ItB) (m : Nat) (pre : List Nat) (x : Nat) : Prop := x < m ∧ pre = flU L x ∧ fliesB L x = true
/-- The row as the iterator sees it: what comes is as it was. -/
def InF (B : Nat) (A : Option Addr) (n c m : Nat) (L : List ItB) (pre : List Nat) (W : World) : Prop := W.heap[B]? = some (.cells #[.slice A m c] 50 (0, 0)) ∧
  ∃ M : List ItB, W.ownsRow 0 56 11 (.slice A n c) n (M.flatMap itc) ∧ ∀ j, (∀ k ∈ pre, k < j) → M[j]? = L[j]?
def encF (A : Option Addr) (x : Nat) : Array Value := #[.pointer (A.map fun a => ⟨a.block, x * 11, none⟩)]
end Sq
set_option maxRecDepth 100000 in
set_option maxHeartbeats 2000000 in
theorem inFl_seq (n' : Nat) (hn' : 1 ≤ n') (B : Nat) (A : Option Addr) (n c m : Nat) (L : List ItB) (hn : n = L.length) (hm : m ≤ n) (hn2 : n ≤ 256) : SeqI n' Try.prog 39 #[.pointer (some ⟨B, 0, none⟩)] (encF A) (nxtF L m) (fun xs => xs = flU L m) (InF B A n c m L) := by
  intro l J W hJ hIn hY h0
  refine callsIn_of_wp Try.func39 rfl trivial ?_ rfl
  simp only [Try.ntmps39, List.size_toArray, List.length_cons, List.length_nil, Nat.reduceAdd, Nat.reduceSub, Array.replicate_succ, Array.replicate_zero, List.push_toArray, List.append_toArray, List.nil_append, List.cons_append]
  have b0 : W.cell? ⟨B, 0, none⟩ = some (.slice A m c) := cell_of (hIn _ _ h0).1 rfl
  have HN := Lib.hid hn
  have HIN := Lib.hid hIn
  have HY := Lib.hid hY
  have HJ := Lib.hid hJ
  have HJ0 := Lib.hid h0
  clear hn hIn hY hJ h0
  gi_wp2
  gi_loopw [7] (fun i wr => ∃ k : Nat, k ≤ m ∧ i = .int .i64 (k : Int) ∧ Hid (J (flU L k) wr)) (fun i _ => m - (intOf i).toNat)
  case atStart => exact ⟨0, Nat.zero_le _, rfl, HJ0⟩
  case round =>
    obtain ⟨k, hk, rfl, hJk⟩ := hrel
    by_cases hlt : k < m
    · obtain ⟨hb, M, hrow, hM⟩ := HIN.out _ _ hJk.out
      obtain ⟨y, hy⟩ : ∃ y, L[k]? = some y := ⟨_, List.getElem?_eq_getElem (by rw [← HN.out]; omega)⟩
      have hyM : M[k]? = some y := (hM k flU_lt).trans hy
      obtain ⟨g, rfl⟩ := row_at hrow (by omega)
      have b0 : wr.cell? ⟨B, 0, none⟩ = some (.slice (some ⟨g, 0, none⟩) m c) := cell_of hb rfl
      have k9 : wr.cell? ⟨g, k * 11 + 9, none⟩ = some (.bool y.x.ack) := row_cell hrow (rowG_at itc 11 itc_len hyM (j := 9) rfl)
      have k10 : wr.cell? ⟨g, k * 11 + 10, none⟩ = some (.bool y.x.mkd) := row_cell hrow (rowG_at itc 11 itc_len hyM (j := 10) rfl)
      have hcap := (row_cap hrow).1
      have hkn : k < n := by omega
      clear hb hrow hM hyM
      by_cases ha : y.x.ack = true
      · have HF := Lib.hid (show flU L (k + 1) = flU L k by rw [flU_succ]; simp [fliesB, hy, ha])
        rw [ha] at k9
        gi_wp2
        refine ⟨fun _ h => (by cases h), ?_⟩
        gi_wp2
        go_roundw
        case rel => exact ⟨k + 1, by omega, by go_num, by rw [HF.out]; exact hJk⟩
        case measure => simp [intOf]; omega
      · have ha2 : y.x.ack = false := by simpa using ha
        rw [ha2] at k9
        by_cases hm2 : y.x.mkd = true
        · have HF := Lib.hid (show flU L (k + 1) = flU L k by rw [flU_succ]; simp [fliesB, hy, hm2])
          rw [hm2] at k10
          gi_wp2
          refine ⟨fun _ h => (by cases h), ?_⟩
          gi_wp2
          go_roundw
          case rel => exact ⟨k + 1, by omega, by go_num, by rw [HF.out]; exact hJk⟩
          case measure => simp [intOf]; omega
        · have hm3 : y.x.mkd = false := by simpa using hm2
          rw [hm3] at k10
          have hfl : fliesB L k = true := by simp [fliesB, hy, ha2, hm3]
          have HF := Lib.hid (show flU L (k + 1) = flU L k ++ [k] by rw [flU_succ, if_pos hfl])
          obtain ⟨fn, tmps, assign, body, hy2, hR⟩ := HY.out _ k wr hJk.out ⟨hlt, rfl, hfl⟩
          simp only [encF, Option.map_some] at hy2
          clear hfl ha hm2
          gi_wp2
          refine hR.mono ?_
          rintro e W3 ⟨rfl, hJ3, hk3⟩
          have HJ3 := Lib.hid hJ3
          clear hJ3
          gi_wp2
          go_roundw
          case rel => exact ⟨k + 1, by omega, by go_num, by rw [HF.out]; exact HJ3⟩
          case measure => simp [intOf]; omega
    · obtain rfl : k = m := by omega
      gi_wp2
      go_end0
      exact ⟨⟨_, rfl⟩, _, rfl, hJk.out⟩
end Go.Proofs.Ytdlehchofmdjbaa
