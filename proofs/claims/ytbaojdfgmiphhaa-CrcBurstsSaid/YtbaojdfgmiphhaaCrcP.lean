import Derived.Test.YtbaojdfgmiphhaaCrcM
namespace Go.Proofs.Ytbaojdfgmiphhaa
namespace Crc
/-- What n bits through the register make of bit i alone. -/
def col (n i : Nat) : Nat := shN n (2 ^ i)
theorem col_lt {n i : Nat} (h : i < 32) : col n i < 4294967296 := shN_lt (by
  have : 2 ^ i < 2 ^ 32 := Nat.pow_lt_pow_right (by omega) h
  omega)
/-- The bits of c below the k-th, through. -/
theorem of_step (n c k : Nat) : shN n (c % 2 ^ (k + 1)) = shN n (c % 2 ^ k) ^^^ (if c / 2 ^ k % 2 = 1 then col n k else 0) := by
  rw [low_bits, shN_xor]
  congr 1
  split
  · rfl
  · exact shN_of_zero n
theorem of_start (n c : Nat) : shN n (c % 2 ^ 0) = 0 := by rw [Nat.pow_zero, Nat.mod_one, shN_of_zero]
theorem of_end {n c : Nat} (h : c < 4294967296) : shN n (c % 2 ^ 32) = shN n c := by rw [Nat.mod_eq_of_lt (by omega)]
theorem col_twice (n i : Nat) : shN n (col n i) = col (2 * n) i := by unfold col; rw [← shN_add]; congr 1; omega
theorem sh_one : sh 1 = poly := by decide
/-- The bit that goes out with the last step. -/
theorem col_last (n i : Nat) (h : i < n) : col n (n - 1 - i) = shN i poly := by
  unfold col
  rw [show n = (n - 1 - i) + (i + 1) by omega, shN_add, show n - 1 - i + (i + 1) - 1 - i = n - 1 - i by omega, shN_pow]
  show shN i (sh 1) = _
  rw [sh_one]
theorem shN_shift (j v : Nat) : shN j (2 ^ j * v) = v := by
  induction j generalizing v with
  | zero => simp [shN]
  | succ j ih =>
    show shN j (sh (2 ^ (j + 1) * v)) = v
    have : sh (2 ^ (j + 1) * v) = 2 ^ j * v := by
      unfold sh
      rw [Nat.pow_succ, show 2 ^ j * 2 * v = 2 ^ j * v * 2 by ac_rfl, Nat.mul_mod_left]
      simp
    rw [this, ih]
theorem col_move (n i : Nat) : col n (n + i) = 2 ^ i := by unfold col; rw [Nat.pow_add, shN_shift]
theorem split_xor (b m : Nat) (h : b < 256) : b + 256 * m = b ^^^ 256 * m := by
  apply Nat.eq_of_testBit_eq
  intro i
  rw [Nat.testBit_xor, show 256 * m = 2 ^ 8 * m by rfl, Nat.testBit_two_pow_mul]
  rw [show b + 2 ^ 8 * m = 2 ^ 8 * m + b by omega, Nat.testBit_two_pow_mul_add m h]
  by_cases h8 : i < 8
  · simp [h8, show ¬ 8 ≤ i by omega]
  · have : b.testBit i = false := Nat.testBit_lt_two_pow (Nat.lt_of_lt_of_le h (by
      have : 2 ^ 8 ≤ 2 ^ i := Nat.pow_le_pow_right (by omega) (by omega)
      omega))
    simp [h8, show 8 ≤ i by omega, this]
/-- One byte, and what stands above it. -/
theorem byte_above (c b m n : Nat) (h : b < 256) : shN (8 + n) (c ^^^ (b + 256 * m)) = shN n (byt c b ^^^ m) := by
  rw [split_xor b m h, shN_add, ← Nat.xor_assoc, shN_xor, show 256 * m = 2 ^ 8 * m by rfl, shN_shift]
  rfl
/-- Four bytes at once. -/
def four (a b c d : Nat) : Nat := a + 256 * (b + 256 * (c + 256 * d))
theorem four_reg (r a b c d : Nat) (ha : a < 256) (hb : b < 256) (hc : c < 256) : shN 32 (r ^^^ four a b c d) = reg r [a, b, c, d] := by
  unfold four
  rw [show 32 = 8 + 24 by rfl, byte_above r a _ _ ha, show 24 = 8 + 16 by rfl, byte_above _ b _ _ hb, show 16 = 8 + 8 by rfl, byte_above _ c _ _ hc]
  rfl
theorem four_lt {a b c d : Nat} (ha : a < 256) (hb : b < 256) (hc : c < 256) (hd : d < 256) : four a b c d < 4294967296 := by unfold four; omega
/-- The walk along the bits of n. -/
theorem zeros_odd (r m n : Nat) (h : n % 2 = 1) : shN (m * n) r = shN (2 * m * (n / 2)) (shN m r) := by
  rw [← shN_add]
  congr 1
  have : n = 2 * (n / 2) + 1 := by omega
  conv => lhs; rw [this, Nat.mul_add, ← Nat.mul_assoc]
  rw [Nat.mul_one, Nat.add_comm, Nat.mul_comm m 2]
theorem zeros_even (r m n : Nat) (h : ¬ n % 2 = 1) : shN (m * n) r = shN (2 * m * (n / 2)) r := by
  congr 1
  have : n = 2 * (n / 2) := by omega
  conv => lhs; rw [this, ← Nat.mul_assoc]
  rw [Nat.mul_comm m 2]
end Crc
end Go.Proofs.Ytbaojdfgmiphhaa
