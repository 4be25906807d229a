import Derived.Test.YtghldkjbmfbdfaaDoorVx
namespace Go.Proofs.YtghldkjbmfbdfaaDoor
open Go Go.RowKit
set_option linter.unusedVariables false
set_option linter.unusedSimpArgs false
/-! What the tables say of a lead byte. -/
set_option maxRecDepth 100000 in
theorem and7 : ∀ X : Fin 256, bits .and .u8 ((X.val : Nat) : Int) 7 = ((X.val % 8 : Nat) : Int) := by decide
theorem lead_row : ∀ c : Fin 256, 128 ≤ c.val → (Go.Lib.firstT c.val < 256 ∧ ((Go.Lib.firstT c.val % 8 = Ut.sz (c.val : Int) ∧ (Ut.sz (c.val : Int) = 2 ∨ Ut.sz (c.val : Int) = 3 ∨ Ut.sz (c.val : Int) = 4) ∧ ((Go.Lib.accLo (Go.Lib.firstT c.val / 16) : Nat) : Int) = Ut.lo (c.val : Int) ∧ ((Go.Lib.accHi (Go.Lib.firstT c.val / 16) : Nat) : Int) = Ut.hi (c.val : Int)) ∨ (Go.Lib.firstT c.val % 8 = 1 ∧ Ut.sz (c.val : Int) = 0))) := by decide +kernel
theorem byt_cons (c : Int) (r : List Int) (j : Nat) : byt (c :: r) (j + 1) = byt r j := by simp [byt]
theorem byt_head (c : Int) (r : List Int) : byt (c :: r) 0 = c := by simp [byt]
theorem U_next {k : Nat} {l h : Int} {xs : List Int} (hx : xs ≠ []) : Ut.U (k + 1) l h xs = if byt xs 0 < l ∨ h < byt xs 0 then false else Ut.U k 128 191 (xs.drop 1) := by
  cases xs with
  | nil => exact absurd rfl hx
  | cons c r =>
    rw [byt_head]
    by_cases hc : c < l ∨ h < c
    · rw [if_pos hc, Ut.U_bad hc]
    · rw [if_neg hc, Ut.U_go hc]; rfl
/-- The next k bytes, one behind the other. -/
theorem ok_lead {xs : List Int} {s : Nat} (hx : xs ≠ []) (h : Ut.sz (byt xs 0) = s + 1) : Ut.ok xs = Ut.U s (Ut.lo (byt xs 0)) (Ut.hi (byt xs 0)) (xs.drop 1) := by
  cases xs with
  | nil => exact absurd rfl hx
  | cons c r =>
    rw [byt_head] at *
    rw [Ut.ok_cons (by omega), h]; rfl
theorem drop_ne {xs : List Int} {a : Nat} (h : a < xs.length) : xs.drop a ≠ [] := fun e => by
  have := congrArg List.length e; simp at this; omega
theorem ok_lead2 {xs : List Int} {L H : Int} (hx : xs ≠ []) (h : Ut.sz (byt xs 0) = 2) (hl : Ut.lo (byt xs 0) = L) (hh : Ut.hi (byt xs 0) = H) : Ut.ok xs = if xs.length < 2 ∨ byt xs 1 < L ∨ H < byt xs 1 then false else Ut.ok (xs.drop 2) := by
  rw [ok_lead hx h, hl, hh]
  by_cases h2 : xs.length < 2
  · rw [if_pos (.inl h2), Ut.U_short _ _ _ _ (by simp; omega)]
  · rw [U_next (drop_ne (by omega)), byt_drop, Nat.add_zero, List.drop_drop, Ut.U_ok]
    by_cases q : byt xs 1 < L ∨ H < byt xs 1
    · rw [if_pos q, if_pos (.inr q)]
    · rw [if_neg q, if_neg (by omega)]
theorem ok_lead3 {xs : List Int} {L H : Int} (hx : xs ≠ []) (h : Ut.sz (byt xs 0) = 3) (hl : Ut.lo (byt xs 0) = L) (hh : Ut.hi (byt xs 0) = H) : Ut.ok xs = if xs.length < 3 ∨ byt xs 1 < L ∨ H < byt xs 1 ∨ byt xs 2 < 128 ∨ 191 < byt xs 2 then false else Ut.ok (xs.drop 3) := by
  rw [ok_lead hx h, hl, hh]
  by_cases h2 : xs.length < 3
  · rw [if_pos (.inl h2), Ut.U_short _ _ _ _ (by simp; omega)]
  · rw [U_next (drop_ne (by omega)), byt_drop, Nat.add_zero, List.drop_drop, U_next (drop_ne (by omega)), byt_drop, Nat.add_zero, List.drop_drop, Ut.U_ok]
    by_cases q : byt xs 1 < L ∨ H < byt xs 1
    · rw [if_pos q, if_pos (by omega)]
    · rw [if_neg q]
      by_cases q2 : byt xs 2 < 128 ∨ 191 < byt xs 2
      · rw [if_pos q2, if_pos (by omega)]
      · rw [if_neg q2, if_neg (by omega)]
theorem ok_lead4 {xs : List Int} {L H : Int} (hx : xs ≠ []) (h : Ut.sz (byt xs 0) = 4) (hl : Ut.lo (byt xs 0) = L) (hh : Ut.hi (byt xs 0) = H) : Ut.ok xs = if xs.length < 4 ∨ byt xs 1 < L ∨ H < byt xs 1 ∨ byt xs 2 < 128 ∨ 191 < byt xs 2 ∨ byt xs 3 < 128 ∨ 191 < byt xs 3 then false else Ut.ok (xs.drop 4) := by
  rw [ok_lead hx h, hl, hh]
  by_cases h2 : xs.length < 4
  · rw [if_pos (.inl h2), Ut.U_short _ _ _ _ (by simp; omega)]
  · rw [U_next (drop_ne (by omega)), byt_drop, Nat.add_zero, List.drop_drop, U_next (drop_ne (by omega)), byt_drop, Nat.add_zero, List.drop_drop, U_next (drop_ne (by omega)), byt_drop, Nat.add_zero, List.drop_drop, Ut.U_ok]
    by_cases q : byt xs 1 < L ∨ H < byt xs 1
    · rw [if_pos q, if_pos (by omega)]
    · rw [if_neg q]
      by_cases q2 : byt xs 2 < 128 ∨ 191 < byt xs 2
      · rw [if_pos q2, if_pos (by omega)]
      · rw [if_neg q2]
        by_cases q3 : byt xs 3 < 128 ∨ 191 < byt xs 3
        · rw [if_pos q3, if_pos (by omega)]
        · rw [if_neg q3, if_neg (by omega)]
theorem ok_lead0 {xs : List Int} (hx : xs ≠ []) (h : Ut.sz (byt xs 0) = 0) : Ut.ok xs = false := by
  cases xs with
  | nil => exact absurd rfl hx
  | cons c r => rw [byt_head] at h; exact Ut.ok_bad h r
end Go.Proofs.YtghldkjbmfbdfaaDoor
