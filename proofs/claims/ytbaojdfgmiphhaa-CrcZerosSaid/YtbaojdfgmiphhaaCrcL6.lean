import Derived.Test.YtbaojdfgmiphhaaCrcL5
import Derived.Test.YtbaojdfgmiphhaaFineM
import Derived.ChangeAlike
import Derived.Outline
namespace Go.Proofs.Ytbaojdfgmiphhaa
open Go Go.RowKit
set_option linter.unusedVariables false
def xorI (p q : Int) : Int := ((p.toNat ^^^ q.toNat : Nat) : Int)
theorem xorI_val {p q : Int} (hp : 0 ≤ p ∧ p < 256) (hq : 0 ≤ q ∧ q < 256) : bits .xor .u8 p q = xorI p q := by
  obtain ⟨a, rfl⟩ := Int.eq_ofNat_of_zero_le hp.1
  obtain ⟨b, rfl⟩ := Int.eq_ofNat_of_zero_le hq.1
  exact xor8_c a b (by omega) (by omega)
/-- The first i of the numbers turned. -/
def mixL (a t : List Int) (i : Nat) : List Int := (List.range a.length).map fun j => if j < i then xorI (a.getD j 0) (t.getD j 0) else a.getD j 0
theorem mixL_length (a t : List Int) (i : Nat) : (mixL a t i).length = a.length := by simp [mixL]
theorem mixL_get (a t : List Int) (i j : Nat) (hj : j < a.length) : (mixL a t i)[j]? = some (if j < i then xorI (a.getD j 0) (t.getD j 0) else a.getD j 0) := by
  simp [mixL, hj]
theorem mixL_zero (a t : List Int) : mixL a t 0 = a := by
  apply List.ext_getElem?
  intro j
  by_cases hj : j < a.length
  · rw [mixL_get a t 0 j hj]; simp [List.getD, hj]
  · rw [List.getElem?_eq_none (by rw [mixL_length]; omega), List.getElem?_eq_none (by omega)]
theorem mixL_set (a t : List Int) (i : Nat) (p q : Int) (hp : a[i]? = some p) (hq : t[i]? = some q) : (mixL a t i).set i (xorI p q) = mixL a t (i + 1) := by
  have hi : i < a.length := (List.getElem?_eq_some_iff.1 hp).1
  apply List.ext_getElem?
  intro j
  by_cases hj : j < a.length
  · rw [mixL_get a t (i + 1) j hj, List.getElem?_set]
    by_cases e : i = j
    · subst e
      rw [if_pos rfl, if_pos (by rw [mixL_length]; exact hi), if_pos (by omega)]
      simp [List.getD, hp, hq]
    · rw [if_neg e, mixL_get a t i j hj]
      congr 1
      by_cases h1 : j < i
      · rw [if_pos h1, if_pos (by omega)]
      · rw [if_neg h1, if_neg (by omega)]
  · rw [List.getElem?_eq_none (by rw [List.length_set, mixL_length]; omega), List.getElem?_eq_none (by rw [mixL_length]; omega)]
theorem mixL_all (a t : List Int) (h : a.length = t.length) : nats (mixL a t a.length) = List.zipWith (· ^^^ ·) (nats a) (nats t) := by
  apply List.ext_getElem?
  intro j
  by_cases hj : j < a.length
  · have hj2 : j < t.length := by omega
    simp only [nats, List.getElem?_map, mixL_get a t a.length j hj, if_pos hj]
    simp [List.getElem?_zipWith, hj, hj2, List.getD, xorI]
  · rw [List.getElem?_eq_none (by simp [nats, mixL_length]; omega), List.getElem?_eq_none (by simp [nats]; omega)]
theorem byt_take {xs : List Int} (h : Byt xs) (n : Nat) : Byt (xs.take n) := fun x hx => h x (List.mem_of_mem_take hx)
theorem byt_mix {a t : List Int} (ha : Byt a) (ht : Byt t) (h : a.length = t.length) (i : Nat) : Byt (mixL a t i) := by
  intro x hx
  obtain ⟨j, hj⟩ := List.mem_iff_getElem?.1 hx
  have hl : j < a.length := by have := (List.getElem?_eq_some_iff.1 hj).1; rwa [mixL_length] at this
  rw [mixL_get a t i j hl] at hj
  have h1 := ha a[j] (by simp)
  have h2 := ht (t[j]'(by omega)) (by simp)
  have e1 : a.getD j 0 = a[j] := by simp [List.getD, hl]
  have e2 : t.getD j 0 = t[j]'(by omega) := by simp [List.getD, show j < t.length by omega]
  rw [e1, e2] at hj
  split at hj
  · injection hj with hj
    subst hj
    unfold xorI
    have := Nat.xor_lt_two_pow (n := 8) (x := a[j].toNat) (y := (t[j]'(by omega)).toNat) (by omega) (by omega)
    omega
  · injection hj with hj
    subst hj
    exact h1
theorem InB.isI {w : World} {A : Option Addr} {n c : Nat} {xs : List Int} (h : InB w A n c xs) : IsI .u8 xs (.slice A n c) w := ⟨A, c, by rw [ints_length, h.len], by rw [ints_length, h.len]; exact h.cap, h.cells⟩
/-- An own row of bytes, whichever. -/
def OwnV (base n : Nat) (xs : List Int) : Value → World → Prop := fun v w => ∃ A c, v = .slice A n c ∧ OwnI .u8 5 base w A n c xs
theorem keeps_ownV (base n : Nat) (xs : List Int) : Keeps (OwnV base n xs) := fun _ _ _ ⟨A, c, e, h⟩ hu => ⟨A, c, e, h.up hu⟩
def EmpV (base : Nat) : Value → World → Prop := fun v w => ∃ A, v = .slice A 0 0 ∧ OwnI .u8 5 base w A 0 0 []
theorem keeps_empV (base : Nat) : Keeps (EmpV base) := fun _ _ _ ⟨A, e, h⟩ hu => ⟨A, e, h.up hu⟩
theorem size5 : (Try.prog.info? 5).map (·.size) = some 1 := by kernel_rfl
theorem elem22 : Try.prog.elem 22 = 5 := by simp [Program.elem, Try.underlying22]
theorem run_slice0 (a : Act) (o : Oper) (ho : o.op = .buildSlice 22 0 #[]) (W : World) : (execOp a.eval o).run Try.prog W = .ok (.value (.slice (some ⟨W.heap.size, 0, none⟩) 0 0)) (W.alloc (.cells #[] 5)) := by
  obtain ⟨i0, hi, hz0, hz1, hz2⟩ := info_parts info5
  unfold execOp
  simp only [ho]
  simp [go_sem, run_underlying Try.underlying22]
end Go.Proofs.Ytbaojdfgmiphhaa
