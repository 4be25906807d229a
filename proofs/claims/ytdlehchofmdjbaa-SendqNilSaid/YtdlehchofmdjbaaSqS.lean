import Derived.Test.YtdlehchofmdjbaaSortI
import Derived.Test.YtdlehchofmdjbaaStaged
import Derived.Deep.CutBlock
namespace Go.Proofs.Ytdlehchofmdjbaa
open Go Go.RowKit Go.Shelf Sq
set_option linter.unusedVariables false
set_option linter.unusedSimpArgs false
attribute [local go_sem] Oper.semAt_some
/-! miss: what is said of it. -/
theorem info3i : (Try.prog.info? 3).map (fun i => (i.zero, i.size, i.bytes)) = some (some (.int .i64 0), 1, 8) := by kernel_rfl
namespace Sq
/-- One more than the last one of the first o that is acknowledged. -/
def ackAt (L : List ItB) (i : Nat) : Bool := match L[i]? with | some y => y.x.ack | none => false
def topR (L : List ItB) : Nat → Nat
  | 0 => 0
  | i + 1 => if ackAt L i = true then i + 1 else topR L i
theorem topR_le (L : List ItB) (o : Nat) : topR L o ≤ o := by
  induction o with
  | zero => exact Nat.le_refl _
  | succ o ih => rw [topR]; split <;> omega
def missB (y : ItB) : ItB := if y.x.miss = 2 then ⟨{ y.x with mkd := true, miss := 0 }, y.A, y.c⟩ else ⟨{ y.x with miss := y.x.miss + 1 }, y.A, y.c⟩
def missL (L : List ItB) (pre : List Nat) : List ItB := L.mapIdx fun j y => if pre.contains j then missB y else y
def fastP (L : List ItB) (pre : List Nat) : List Int := pre.filterMap fun j => match L[j]? with | some y => if y.x.miss = 2 then some y.x.path else none | none => none
theorem missL_nil (L : List ItB) : missL L [] = L := by
  unfold missL
  apply List.ext_getElem?
  intro j
  rw [List.getElem?_mapIdx]
  cases L[j]? <;> simp
theorem missL_len (L : List ItB) (pre : List Nat) : (missL L pre).length = L.length := by simp [missL]
theorem missL_at {L : List ItB} {pre : List Nat} {j : Nat} (h : j ∉ pre) : (missL L pre)[j]? = L[j]? := by
  unfold missL
  rw [List.getElem?_mapIdx]
  cases L[j]? with
  | none => rfl
  | some y => simp [h]
theorem missL_step {L : List ItB} {pre : List Nat} {x : Nat} {y : ItB} (h : L[x]? = some y) : (missL L pre).set x (missB y) = missL L (pre ++ [x]) := by
  have hi : x < L.length := (List.getElem?_eq_some_iff.1 h).1
  apply List.ext_getElem?
  intro j
  rw [List.getElem?_set, missL_len]
  unfold missL
  rw [List.getElem?_mapIdx, List.getElem?_mapIdx]
  by_cases e : x = j
  · subst e; rw [if_pos rfl, if_pos hi, h]; simp
  · rw [if_neg e]
    cases hj : L[j]? with
    | none => rfl
    | some z =>
      have : ¬ j = x := fun h => e h.symm
      simp [this]
theorem fastP_step {L : List ItB} {pre : List Nat} {x : Nat} {y : ItB} (h : L[x]? = some y) : fastP L (pre ++ [x]) = fastP L pre ++ (if y.x.miss = 2 then [y.x.path] else []) := by
  unfold fastP
  rw [List.filterMap_append]
  congr 1
  simp only [List.filterMap_cons, List.filterMap_nil, h]
  split <;> simp_all
theorem fastP_len (L : List ItB) (pre : List Nat) : (fastP L pre).length ≤ pre.length := List.length_filterMap_le _ _
theorem flU_len (L : List ItB) (m : Nat) : (flU L m).length ≤ m := by
  unfold flU
  exact Nat.le_trans (List.length_filter_le _ _) (by simp)
/-- Three stores: misses twice, mark. -/
theorem row_missA {w : World} {g c n k : Nat} {M : List ItB} {y : ItB} (h : w.ownsRow 0 56 11 (.slice (some ⟨g, 0, none⟩) n c) n (M.flatMap itc)) (hy : M[k]? = some y) (h2 : y.x.miss = 2) (v : Int) :
    (((w.setCell ⟨g, k * 11 + 8, none⟩ (.int .i64 v)).setCell ⟨g, k * 11 + 8, none⟩ (.int .i64 0)).setCell ⟨g, k * 11 + 10, none⟩ (.bool true)).ownsRow 0 56 11 (.slice (some ⟨g, 0, none⟩) n c) n ((M.set k (missB y)).flatMap itc) ∧
    Out (fun j => j = g) w (((w.setCell ⟨g, k * 11 + 8, none⟩ (.int .i64 v)).setCell ⟨g, k * 11 + 8, none⟩ (.int .i64 0)).setCell ⟨g, k * 11 + 10, none⟩ (.bool true)) := by
  have hk : k < M.length := (List.getElem?_eq_some_iff.1 hy).1
  let y2 : ItB := ⟨{ y.x with miss := 0 }, y.A, y.c⟩
  have e3 : missB y = ⟨{ y.x with mkd := true, miss := 0 }, y.A, y.c⟩ := by unfold missB; rw [if_pos h2]
  have h1 := (World.ownsRow.stored h (k * 11 + 8) (.int .i64 v)).1
  have h2 := (World.ownsRow.stored h1 (k * 11 + 8) (.int .i64 0)).1
  rw [List.set_set, flat_set itc 11 itc_len hy (y' := y2) (by omega) rfl] at h2
  have h3 := (World.ownsRow.stored h2 (k * 11 + 10) (.bool true)).1
  rw [flat_set itc 11 itc_len (y := y2) (y' := missB y) (List.getElem?_set_self hk) (by omega) (by rw [e3]; rfl), List.set_set] at h3
  exact ⟨h3, ((setCell_out _ _ _ _).trans (setCell_out _ _ _ _) (Sub.refl _ _)).trans (setCell_out _ _ _ _) (Sub.refl _ _)⟩
theorem row_missB {w : World} {g c n k : Nat} {M : List ItB} {y : ItB} (h : w.ownsRow 0 56 11 (.slice (some ⟨g, 0, none⟩) n c) n (M.flatMap itc)) (hy : M[k]? = some y) (h2 : ¬ y.x.miss = 2) :
    (w.setCell ⟨g, k * 11 + 8, none⟩ (.int .i64 ((y.x.miss : Int) + 1))).ownsRow 0 56 11 (.slice (some ⟨g, 0, none⟩) n c) n ((M.set k (missB y)).flatMap itc) ∧
    Out (fun j => j = g) w (w.setCell ⟨g, k * 11 + 8, none⟩ (.int .i64 ((y.x.miss : Int) + 1))) := by
  have e3 : missB y = ⟨{ y.x with miss := y.x.miss + 1 }, y.A, y.c⟩ := by unfold missB; rw [if_neg h2]
  have h1 := (World.ownsRow.stored h (k * 11 + 8) (.int .i64 ((y.x.miss : Int) + 1))).1
  rw [flat_set itc 11 itc_len hy (y' := missB y) (by omega) (by rw [e3]; rfl)] at h1
  exact ⟨h1, setCell_out _ _ _ _⟩
/-- Blocks of cells stay where blocks of another kind turn. -/
theorem stays {X Y : World} {row : Option Nat} {B k : Nat} {cs : Array Value} {t : TypeId} {f : Nat × Nat} (hg : X.grownBy Y row) (hr : ∀ r, row = some r → B ≤ r ∧ ∃ o : Obj, X.heap[r]? = some o ∧ o.isCells = false) (h : X.heap[k]? = some (.cells cs t f)) : Y.heap[k]? = X.heap[k]? :=
  hg.block k (lt_of_blk h) (fun e => by obtain ⟨_, o, ho, hc⟩ := hr k e.symm; rw [h] at ho; cases ho; cases hc)
theorem stays_row {X Y : World} {row : Option Nat} {B base : Nat} {e : TypeId} {s n : Nat} {v : Value} {xs : List Value} (hg : X.grownBy Y row) (hr : ∀ r, row = some r → B ≤ r ∧ ∃ o : Obj, X.heap[r]? = some o ∧ o.isCells = false) (h : X.ownsRow base e s v n xs) : Y.ownsRow base e s v n xs :=
  own_blk h (fun g hg2 => by
    obtain ⟨A, c, rfl⟩ := own_slice h
    rw [ownBlock_slice] at hg2
    rcases h.2 with ⟨h', _⟩ | ⟨g', cap', cur, h', _, hh, _⟩
    · injection h' with h'; rw [h'] at hg2; cases hg2
    · injection h' with h'
      rw [h'] at hg2
      injection hg2 with hg2
      subst hg2
      exact stays hg hr hh)
theorem stays_out {X Y w : World} {row : Option Nat} {B : Nat} {S : Nat → Prop} (hg : X.grownBy Y row) (hr : ∀ r, row = some r → B ≤ r ∧ ∃ o : Obj, X.heap[r]? = some o ∧ o.isCells = false) (hB : w.heap.size ≤ B) (h : Out S w X) : Out S w Y :=
  ⟨hg.os.trans h.os, hg.tape.trans h.tape, hg.output.trans h.output, Nat.le_trans h.size hg.size, fun k hk hn => (hg.block k (Nat.lt_of_lt_of_le hk h.size) (fun e => by have := (hr k e.symm).1; omega)).trans (h.block k hk hn)⟩
/-- Between two rounds of miss. -/
def MissI (w : World) (F Bx : Nat) (A : Option Addr) (n c m : Nat) (L : List ItB) (pre : List Nat) (W : World) : Prop :=
  ∃ v, W.heap[F]? = some (.cells #[v] 35 (0, 0)) ∧ W.ownsRow w.heap.size 3 1 v (fastP L pre).length (ints .i64 (fastP L pre)) ∧ W.heap[Bx]? = some (.cells #[.slice A m c] 50 (0, 0)) ∧
    W.ownsRow 0 56 11 (.slice A n c) n ((missL L pre).flatMap itc) ∧ Out (fun k => blk? A = some k) w W
theorem missI_own {w : World} {F Bx : Nat} {A : Option Addr} {n c m B : Nat} {L : List ItB} (hB : w.heap.size ≤ B) : OwnFrom B (MissI w F Bx A n c m L) := fun pre X Y row ⟨v, h1, h2, h3, h4, h5⟩ hg hr =>
  ⟨v, (stays hg hr h1).trans h1, stays_row hg hr h2, (stays hg hr h3).trans h3, stays_row hg hr h4, stays_out hg hr hB h5⟩
theorem missI_in {w : World} {F Bx : Nat} {A : Option Addr} {n c m : Nat} {L : List ItB} (pre : List Nat) (W : World) (h : MissI w F Bx A n c m L pre W) : InF Bx A n c m L pre W := by
  obtain ⟨v, h1, h2, h3, h4, h5⟩ := h
  exact ⟨h3, _, h4, fun j hj => missL_at (fun hm => by have := hj j hm; omega)⟩
end Sq
end Go.Proofs.Ytdlehchofmdjbaa
