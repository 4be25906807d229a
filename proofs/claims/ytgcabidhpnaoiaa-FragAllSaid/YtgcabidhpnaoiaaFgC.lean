import Derived.Test.YtgcabidhpnaoiaaPg1
import Derived.Test.YtgcabidhpnaoiaaFgG
namespace Go.Proofs.Ytgcabidhpnaoiaa
open Go Go.RowKit
set_option linter.unusedVariables false
/-! What Cut does. -/
namespace Fg
def npt (sz N : Nat) : Nat := (N + sz - 1) / sz
theorem npt_lt {sz N i : Nat} (hs : 1 ≤ sz) : i < npt sz N ↔ i * sz < N := by
  unfold npt
  rw [show (i < (N + sz - 1) / sz) = (i + 1 ≤ (N + sz - 1) / sz) from rfl, Nat.le_div_iff_mul_le (by omega), Nat.add_mul]
  omega
theorem npt_eq {sz N k : Nat} (hs : 1 ≤ sz) (h1 : N ≤ k * sz) (h2 : ∀ j, j < k → j * sz < N) : k = npt sz N := by
  rcases Nat.lt_trichotomy k (npt sz N) with h | h | h
  · have := (npt_lt hs).1 h; omega
  · exact h
  · have := h2 _ h
    have := (npt_lt hs).2 this
    omega
theorem npt_pos {sz N : Nat} (hs : 1 ≤ sz) (h : 0 < N) : 0 < npt sz N := (npt_lt hs).2 (by omega)
theorem npt_le {sz N : Nat} (hs : 1 ≤ sz) : npt sz N ≤ N := by
  rcases Nat.lt_or_ge N (npt sz N) with h | h
  · have := (npt_lt hs).1 h
    have : N * 1 ≤ N * sz := Nat.mul_le_mul_left N hs
    omega
  · exact h
/-- Piece i. -/
def cutPc (st sq : Nat) (un : Bool) (sz : Nat) (bs : List Int) (i : Nat) : Pc := ⟨0, st, sq, un, decide (i = 0), decide (i + 1 = npt sz bs.length), (bs.drop (i * sz)).take sz⟩
def cutL (st sq : Nat) (un : Bool) (sz : Nat) (bs : List Int) : List Pc := (List.range (npt sz bs.length)).map (cutPc st sq un sz bs)
theorem cutL_len (st sq : Nat) (un : Bool) (sz : Nat) (bs : List Int) : (cutL st sq un sz bs).length = npt sz bs.length := by simp [cutL]
def CutBad (st : Nat) (sz : Int) (bs : List Int) : Prop := bs.length = 0 ∨ 8 ≤ st ∨ sz < 1 ∨ 256 < sz
def CutR (nx : Nat → Nat) (st : Nat) (un : Bool) (sz : Int) (bs : List Int) (r : Int) (l : List Pc) (nx' : Nat → Nat) : Prop :=
  (CutBad st sz bs ∧ r = 1 ∧ l = [] ∧ nx' = nx) ∨
  (¬ CutBad st sz bs ∧ 4096 < bs.length ∧ r = 4 ∧ l = [] ∧ nx' = nx) ∨
  (¬ CutBad st sz bs ∧ bs.length ≤ 4096 ∧ r = 0 ∧ l = cutL st (if un = true then 0 else nx st) un sz.toNat bs ∧ nx' = if un = true then nx else upd nx st)
theorem CutR.det {nx : Nat → Nat} {st : Nat} {un : Bool} {sz : Int} {bs : List Int} {r r' : Int} {l l' : List Pc} {nx' nx'' : Nat → Nat} (h : CutR nx st un sz bs r l nx') (h' : CutR nx st un sz bs r' l' nx'') : r = r' ∧ l = l' ∧ nx' = nx'' := by
  rcases h with ⟨h1, rfl, rfl, rfl⟩ | ⟨h1, h2, rfl, rfl, rfl⟩ | ⟨h1, h2, rfl, rfl, rfl⟩ <;> rcases h' with ⟨g1, rfl, rfl, rfl⟩ | ⟨g1, g2, rfl, rfl, rfl⟩ | ⟨g1, g2, rfl, rfl, rfl⟩
  · exact ⟨rfl, rfl, rfl⟩
  · exact absurd h1 g1
  · exact absurd h1 g1
  · exact absurd g1 h1
  · exact ⟨rfl, rfl, rfl⟩
  · omega
  · exact absurd g1 h1
  · omega
  · exact ⟨rfl, rfl, rfl⟩
/-- The pieces without their ends, of parts. -/
def bare (st sq : Nat) (un : Bool) (bs : List Int) (x : Nat × Nat) : Pc := ⟨0, st, sq, un, false, false, (bs.drop x.1).take x.2⟩
theorem bare_at (st sq : Nat) (un : Bool) (sz : Nat) (bs : List Int) (i : Nat) : bare st sq un bs (ptAt sz bs.length i) = ⟨0, st, sq, un, false, false, (bs.drop (i * sz)).take sz⟩ := by
  unfold bare ptAt
  simp only [Pc.mk.injEq, true_and]
  rw [← List.length_drop, ← List.take_eq_take_min]
theorem bare_all {st sq : Nat} {un : Bool} {bs : List Int} {sz N : Nat} {xs : List (Pt N)} (hN : bs.length = N) (hs : 1 ≤ sz) (h : InParts N sz xs) :
    xs.map (fun p => bare st sq un bs p.two) = (List.range (npt sz bs.length)).map fun i => ⟨0, st, sq, un, false, false, (bs.drop (i * sz)).take sz⟩ := by
  subst hN
  obtain ⟨k, h1, h2, h3⟩ := h
  rw [← npt_eq hs h2 h3, show (fun p : Pt bs.length => bare st sq un bs p.two) = bare st sq un bs ∘ Pt.two from rfl, ← List.map_map, h1, List.map_map]
  exact List.map_congr_left fun i _ => bare_at st sq un sz bs i
def bgT (x : PcB) : PcB := { x with p := { x.p with bg := true } }
def enT (x : PcB) : PcB := { x with p := { x.p with en := true } }
section
variable {α : Type} (f : α → List Value) (k : Nat) (hk : ∀ x, (f x).length = k)
include hk
theorem rowG_set {l : List α} {i : Nat} {x y : α} (h : l[i]? = some x) {j : Nat} {v : Value} (hj : j < k) (e : f y = (f x).set j v) : (l.flatMap f).set (i * k + j) v = (l.set i y).flatMap f := by
  induction l generalizing i with
  | nil => simp at h
  | cons z l ih =>
    have hl := hk z
    cases i with
    | zero =>
      simp at h
      subst h
      simp only [List.flatMap_cons, List.set_cons_zero, Nat.zero_mul, Nat.zero_add]
      rw [List.set_append_left _ _ (by omega), e]
    | succ i =>
      have h2 : l[i]? = some x := by simpa using h
      simp only [List.flatMap_cons, List.set_cons_succ]
      have e0 : (i + 1) * k + j = k + (i * k + j) := by rw [Nat.add_mul]; omega
      rw [e0, List.set_append_right _ _ (by omega), hl, Nat.add_sub_cancel_left, ih h2]
end
theorem ends_ok {st sq : Nat} {un : Bool} {sz : Nat} {bs : List Int} (hs : 1 ≤ sz) (hb : 0 < bs.length) {l : List PcB} (h : ps l = (List.range (npt sz bs.length)).map fun i => ⟨0, st, sq, un, false, false, (bs.drop (i * sz)).take sz⟩)
    {x y : PcB} (hx : l[0]? = some x) (hy : (l.set 0 (bgT x))[npt sz bs.length - 1]? = some y) : ps ((l.set 0 (bgT x)).set (npt sz bs.length - 1) (enT y)) = cutL st sq un sz bs := by
  have hp := npt_pos hs hb
  have hlen : l.length = npt sz bs.length := by have := congrArg List.length h; simpa [ps] using this
  have hat : ∀ i (z : PcB), l[i]? = some z → z.p = ⟨0, st, sq, un, false, false, (bs.drop (i * sz)).take sz⟩ := fun i z hz => by
    have h1 : (ps l)[i]? = some z.p := by unfold ps; rw [List.getElem?_map, hz]; rfl
    rw [h, List.getElem?_map] at h1
    have hi : i < npt sz bs.length := by have := (List.getElem?_eq_some_iff.1 hz).1; omega
    rw [List.getElem?_range hi] at h1
    exact (Option.some.inj h1).symm
  apply List.ext_getElem?
  intro i
  unfold ps cutL
  rw [List.getElem?_map, List.getElem?_map]
  rcases Nat.lt_or_ge i (npt sz bs.length) with hi | hi
  · rw [List.getElem?_range hi]
    have hil : i < l.length := by omega
    obtain ⟨z, hz⟩ : ∃ z, l[i]? = some z := ⟨_, List.getElem?_eq_getElem hil⟩
    have hzp := hat i z hz
    simp only [List.getElem?_set, List.length_set, Option.map_some]
    by_cases e1 : npt sz bs.length - 1 = i
    · rw [if_pos e1, if_pos (by omega)]
      rw [e1, List.getElem?_set] at hy
      by_cases e0 : 0 = i
      · subst e0
        rw [if_pos rfl, if_pos hil] at hy
        have hy2 := Option.some.inj hy
        have hxz : x = z := Option.some.inj (hx.symm.trans hz)
        simp only [Option.map_some, Option.some.injEq, enT, ← hy2, bgT, hxz, hzp, cutPc]
        congr 1 <;> first | (simp; done) | (simp; omega)
      · rw [if_neg e0, hz] at hy
        have hy2 := Option.some.inj hy
        simp only [Option.map_some, Option.some.injEq, enT, ← hy2, hzp, cutPc]
        congr 1 <;> first | (simp; done) | (simp; omega)
    · rw [if_neg e1]
      by_cases e0 : 0 = i
      · subst e0
        have hxz : x = z := Option.some.inj (hx.symm.trans hz)
        simp only [if_pos, hil, Option.map_some, Option.some.injEq, bgT, hxz, hzp, cutPc]
        congr 1 <;> first | (simp; done) | (simp; omega)
      · rw [if_neg e0, hz]
        simp only [Option.map_some, Option.some.injEq, hzp, cutPc]
        congr 1 <;> first | (simp; done) | (simp; omega)
  · rw [List.getElem?_eq_none (by simp; omega), List.getElem?_eq_none (by simp; omega)]
    rfl
/-- What Cut answers, and leaves. -/
def CutPost (ty : TypeId) (b : Nat) (nx : Nat → Nat) (st : Nat) (un : Bool) (sz : Int) (bs : List Int) (w : World) (e : Ending) (w' : World) : Prop :=
  ∃ r l A c nx', e = .returned (.tuple #[.slice A (l : List PcB).length c, .int .i64 r]) ∧ Hid (CutR nx st un sz bs r (ps l) nx') ∧ Hid (CutB ty w' b nx') ∧
    Hid (w'.ownsRow w.heap.size 51 7 (.slice A l.length c) l.length (l.flatMap pcc)) ∧ Hid (∀ x ∈ l, OwnI .u8 5 w.heap.size w' x.A x.p.bs.length x.c x.p.bs) ∧ Hid (Out (fun k => k = b) w w')
end Fg
end Go.Proofs.Ytgcabidhpnaoiaa
