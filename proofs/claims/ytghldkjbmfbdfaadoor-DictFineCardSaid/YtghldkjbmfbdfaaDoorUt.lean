import Derived.Lib.Hide
namespace Ut
/-! Which bytes are UTF-8: by the bytes that are still to come, and the bounds of the next one. -/
def sz (c : Int) : Nat := if c < 128 then 1 else if c < 194 then 0 else if c < 224 then 2 else if c < 240 then 3 else if c ≤ 244 then 4 else 0
def lo (c : Int) : Int := if c = 224 then 160 else if c = 240 then 144 else 128
def hi (c : Int) : Int := if c = 237 then 159 else if c = 244 then 143 else 191
def U : Nat → Int → Int → List Int → Bool
  | 0, _, _, [] => true
  | _ + 1, _, _, [] => false
  | 0, _, _, c :: r => if sz c = 0 then false else U (sz c - 1) (lo c) (hi c) r
  | k + 1, l, h, c :: r => if c < l ∨ h < c then false else U k 128 191 r
def ok (xs : List Int) : Bool := U 0 0 0 xs
theorem U0 (l h l' h' : Int) (xs : List Int) : U 0 l h xs = U 0 l' h' xs := by cases xs <;> rfl
theorem U_ok (l h : Int) (xs : List Int) : U 0 l h xs = ok xs := U0 ..
theorem U_short : ∀ (xs : List Int) (k : Nat) (l h : Int), xs.length < k → U k l h xs = false
  | [], k + 1, _, _, _ => rfl
  | c :: r, k + 1, l, h, hk => by
    unfold U
    split
    · rfl
    · exact U_short r k 128 191 (by simp at hk; omega)
theorem ok_ascii {c : Int} (h : c < 128) (r : List Int) : ok (c :: r) = ok r := by
  have : sz c = 1 := by unfold sz; rw [if_pos h]
  show (if sz c = 0 then false else U (sz c - 1) (lo c) (hi c) r) = ok r
  rw [this]; exact U_ok ..
theorem ok_bad {c : Int} (h : sz c = 0) (r : List Int) : ok (c :: r) = false := by
  show (if sz c = 0 then false else U (sz c - 1) (lo c) (hi c) r) = false
  rw [if_pos h]
theorem ok_cons {c : Int} (h : sz c ≠ 0) (r : List Int) : ok (c :: r) = U (sz c - 1) (lo c) (hi c) r := by
  show (if sz c = 0 then false else U (sz c - 1) (lo c) (hi c) r) = _
  rw [if_neg h]
theorem U_bad {k : Nat} {l h c : Int} (hc : c < l ∨ h < c) (r : List Int) : U (k + 1) l h (c :: r) = false := by
  show (if c < l ∨ h < c then false else U k 128 191 r) = false
  rw [if_pos hc]
theorem U_go {k : Nat} {l h c : Int} (hc : ¬(c < l ∨ h < c)) (r : List Int) : U (k + 1) l h (c :: r) = U k 128 191 r := by
  show (if c < l ∨ h < c then false else U k 128 191 r) = _
  rw [if_neg hc]
theorem ok_skip : ∀ (n : Nat) (xs : List Int), (∀ x ∈ xs.take n, x < 128) → ok (xs.drop n) = ok xs
  | 0, _, _ => rfl
  | n + 1, [], _ => rfl
  | n + 1, c :: r, h => by
    rw [ok_ascii (h c (by simp)) r]
    exact ok_skip n r fun x hx => h x (by simp [hx])
/-- Eight bytes as one number. -/
def word (f : Nat → Int) (o : Nat) : Nat := (((((((f o).toNat ||| (f (o + 1)).toNat <<< 8) ||| (f (o + 2)).toNat <<< 16) ||| (f (o + 3)).toNat <<< 24) ||| (f (o + 4)).toNat <<< 32) ||| (f (o + 5)).toNat <<< 40) ||| (f (o + 6)).toNat <<< 48) ||| (f (o + 7)).toNat <<< 56
set_option maxRecDepth 100000 in
theorem low7 : ∀ n : Fin 256, n.val &&& 128 = 0 → n.val < 128 := by decide
theorem and0_of_sub {a h s : Nat} (hs : s &&& h = s) (e : a &&& h = 0) : a &&& s = 0 := by
  rw [← hs, Nat.and_comm s h, ← Nat.and_assoc, e, Nat.zero_and]
theorem byte_low {b : Int} (k : Nat) (hb : 0 ≤ b ∧ b < 256) (hk : (128 <<< k) &&& 9259542123273814144 = 128 <<< k) (e : b.toNat <<< k &&& 9259542123273814144 = 0) : b < 128 := by
  have e1 := and0_of_sub hk e
  rw [← Nat.shiftLeft_and_distrib] at e1
  have e2 : b.toNat &&& 128 = 0 := by
    rw [Nat.shiftLeft_eq] at e1
    rcases Nat.mul_eq_zero.1 e1 with h | h
    · exact h
    · exact absurd h (by have := Nat.two_pow_pos k; omega)
  have := low7 ⟨b.toNat, by omega⟩ e2
  simp at this
  omega
theorem word_low {f : Nat → Int} {o : Nat} (hf : ∀ j, 0 ≤ f j ∧ f j < 256) (e : word f o &&& 9259542123273814144 = 0) : ∀ j, j < 8 → f (o + j) < 128 := by
  unfold word at e
  simp only [Nat.and_or_distrib_right, Nat.or_eq_zero_iff] at e
  obtain ⟨⟨⟨⟨⟨⟨⟨e0, e1⟩, e2⟩, e3⟩, e4⟩, e5⟩, e6⟩, e7⟩ := e
  intro j hj
  have : j = 0 ∨ j = 1 ∨ j = 2 ∨ j = 3 ∨ j = 4 ∨ j = 5 ∨ j = 6 ∨ j = 7 := by omega
  rcases this with rfl | rfl | rfl | rfl | rfl | rfl | rfl | rfl
  · exact byte_low 0 (hf _) (by decide) (by rw [Nat.shiftLeft_zero]; exact e0)
  · exact byte_low 8 (hf _) (by decide) e1
  · exact byte_low 16 (hf _) (by decide) e2
  · exact byte_low 24 (hf _) (by decide) e3
  · exact byte_low 32 (hf _) (by decide) e4
  · exact byte_low 40 (hf _) (by decide) e5
  · exact byte_low 48 (hf _) (by decide) e6
  · exact byte_low 56 (hf _) (by decide) e7
end Ut
