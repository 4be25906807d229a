import Derived.Test.YtpdhgjhcjnpkeaaWhM
import Derived.Test.YtpdhgjhcjnpkeaaWhK
import Derived.Deep.DeepCutAuto
import Derived.Outline
import Derived.StillTailTactics
namespace Go.Proofs.Ytpdhgjhcjnpkeaa
open Go Go.RowKit
set_option linter.unusedVariables false
/-- Numbers as ints. -/
def nums (T : List Nat) : List Int := T.map fun (j : Nat) => (j : Int)
/-- The first i of the order T are there, at their times. -/
def Q3 (zs : List Int) (T : List Nat) (i : Nat) (L : List Tm.T) : Prop := L.length = i ∧ ∀ x, x ∈ L ↔ ∃ j t : Nat, j < i ∧ T[j]? = some t ∧ x = ((t : Int), zs.getD t 0)
theorem q3_zero (zs : List Int) (T : List Nat) : Q3 zs T 0 [] := ⟨rfl, fun x => ⟨fun h => (by cases h), fun ⟨j, t, h, _⟩ => absurd h (by omega)⟩⟩
theorem q3_succ {zs : List Int} {T : List Nat} {i t : Nat} {L : List Tm.T} (h : Q3 zs T i L) (hd : T.Nodup) (ht : T[i]? = some t) : Q3 zs T (i + 1) (Tm.set L t (zs.getD t 0)) := by
  have h0 : Tm.has L t = false := by
    rw [Bool.eq_false_iff]
    intro hh
    obtain ⟨x, hx, e⟩ := Tm.has_iff.1 hh
    obtain ⟨j, s, hj, hs, rfl⟩ := (h.2 x).1 hx
    obtain rfl : s = t := Int.ofNat.inj e
    obtain ⟨l1, e1⟩ := List.getElem?_eq_some_iff.1 hs
    obtain ⟨l2, e2⟩ := List.getElem?_eq_some_iff.1 ht
    exact List.pairwise_iff_getElem.1 (List.nodup_iff_pairwise_ne.1 hd) j i l1 l2 hj (e1.trans e2.symm)
  refine ⟨by rw [Tm.set_length_new h0, h.1], fun x => ?_⟩
  rw [Tm.mem_set, h.2]
  constructor
  · rintro (rfl | ⟨⟨j, s, hj, hs, rfl⟩, _⟩)
    · exact ⟨i, t, by omega, ht, rfl⟩
    · exact ⟨j, s, by omega, hs, rfl⟩
  · rintro ⟨j, s, hj, hs, rfl⟩
    by_cases e : j = i
    · subst e
      rw [ht] at hs
      obtain rfl : t = s := by injection hs
      exact .inl rfl
    · refine .inr ⟨⟨j, s, by omega, hs, rfl⟩, fun e2 => ?_⟩
      obtain rfl : s = t := Int.ofNat.inj e2
      have : Tm.has L s = true := Tm.has_iff.2 ⟨_, (h.2 _).2 ⟨j, s, by omega, hs, rfl⟩, rfl⟩
      rw [h0] at this; cases this
/-- In whichever order, the same in the end. -/
theorem same_end {zs : List Int} {N : Nat} {T : List Nat} {Lv Lw : List Tm.T} (hp : T.Perm (List.range N)) (hv : Q3 zs (List.range N) N Lv) (hw : Q3 zs T N Lw) (sv : Tm.Srt Lv) (sw : Tm.Srt Lw) : Lw = Lv := by
  refine Tm.srt_ext sw sv fun x => ?_
  have hl : T.length = N := by rw [hp.length_eq, List.length_range]
  have key : ∀ (U : List Nat) (L : List Tm.T), U.length = N → Q3 zs U N L → (x ∈ L ↔ ∃ t ∈ U, x = ((t : Int), zs.getD t 0)) := fun U L hU hQ => by
    rw [hQ.2]
    constructor
    · rintro ⟨j, t, _, ht, rfl⟩; exact ⟨t, List.mem_of_getElem? ht, rfl⟩
    · rintro ⟨t, ht, rfl⟩
      obtain ⟨j, hj, e⟩ := List.mem_iff_getElem.1 ht
      exact ⟨j, t, by omega, by rw [List.getElem?_eq_getElem hj, e], rfl⟩
  rw [key T Lw hl hw, key _ Lv (List.length_range) hv]
  exact ⟨fun ⟨t, ht, e⟩ => ⟨t, hp.mem_iff.1 ht, e⟩, fun ⟨t, ht, e⟩ => ⟨t, hp.mem_iff.2 ht, e⟩⟩
/-- Two numbers change places. -/
theorem swap_nums (T : List Nat) (i k a b : Nat) (ha : T[i]? = some a) (hb : T[k]? = some b) : ((nums T).set i b).set k a = nums ((T.set i b).set k a) ∧ ((T.set i b).set k a).Perm T := by
  refine ⟨by simp [nums, List.map_set], ?_⟩
  obtain ⟨l1, e1⟩ := List.getElem?_eq_some_iff.1 ha
  obtain ⟨l2, e2⟩ := List.getElem?_eq_some_iff.1 hb
  have := List.set_set_perm l1 l2
  rw [e1, e2] at this
  exact this
theorem range_store (N i : Nat) (h : i < N) : (nums (List.range i) ++ List.replicate (N - i) 0).set i (i : Int) = nums (List.range (i + 1)) ++ List.replicate (N - (i + 1)) 0 := by
  rw [List.set_append_right _ _ (by simp [nums])]
  simp only [nums, List.length_map, List.length_range, Nat.sub_self]
  rw [show N - i = (N - (i + 1)) + 1 by omega, List.replicate_succ, List.set_cons_zero, List.range_succ, List.map_append, List.append_assoc]
  rfl
section
variable {IsW : (Nat → Prop) → World → Addr → List Tm.T → Prop}
/-- Two wheels, apart, and a row of numbers. -/
def AtP (IsW : (Nat → Prop) → World → Addr → List Tm.T → Prop) (w0 : World) (pv pw : Addr) (g : Nat) (T : List Int) (Qv Qw : List Tm.T → Prop) (w : World) : Prop :=
  ∃ Sv Sw Lv Lw, IsW Sv w pv Lv ∧ IsW Sw w pw Lw ∧ From w0.heap.size Sv ∧ From w0.heap.size Sw ∧ Below w0.heap.size w0 w ∧ Qv Lv ∧ Qw Lw ∧ (∀ k, Sv k → ¬ Sw k) ∧ ¬ Sv g ∧ ¬ Sw g ∧ w.heap[g]? = some (.cells (ints .i64 T).toArray 3 (0, 0)) ∧ w0.heap.size ≤ g
theorem atP_store (C : WC IsW) {w0 w : World} {pv pw : Addr} {g j : Nat} {T : List Int} {Qv Qw : List Tm.T → Prop} (h : AtP IsW w0 pv pw g T Qv Qw w) (x : Int) : AtP IsW w0 pv pw g (T.set j x) Qv Qw (w.setCell ⟨g, j, none⟩ (.int .i64 x)) := by
  obtain ⟨Sv, Sw, Lv, Lw, h1, h2, h3, h4, h5, h6, h7, h8, h9, h10, h11, h12⟩ := h
  have ho := out_set w g j (.int .i64 x)
  exact ⟨Sv, Sw, Lv, Lw, C.out h1 ho (fun k hk e => h9 (by subst e; exact hk)), C.out h2 ho (fun k hk e => h10 (by subst e; exact hk)), h3, h4, Below.out h5 ho (fun k e => by rw [e]; exact h12) h5.size, h6, h7, h8, h9, h10, row_store h11 x, h12⟩
theorem atP_drew (C : WC IsW) {w0 w : World} {pv pw : Addr} {g : Nat} {T : List Int} {Qv Qw : List Tm.T → Prop} (h : AtP IsW w0 pv pw g T Qv Qw w) (n : Nat) : AtP IsW w0 pv pw g T Qv Qw (w.drewN n) := by
  obtain ⟨Sv, Sw, Lv, Lw, h1, h2, h3, h4, h5, h6, h7, h8, h9, h10, h11, h12⟩ := h
  exact ⟨Sv, Sw, Lv, Lw, C.up h1 (up_drewN _ _), C.up h2 (up_drewN _ _), h3, h4, h5.trans ((up_drewN w n).mono h5.size), h6, h7, h8, h9, h10, h11, h12⟩
end
end Go.Proofs.Ytpdhgjhcjnpkeaa
