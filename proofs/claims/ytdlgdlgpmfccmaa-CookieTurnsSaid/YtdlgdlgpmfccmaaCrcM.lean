import Derived.WalkKit
namespace Go.Proofs.Ytdlgdlgpmfccmaa
namespace Crc
/-- The polynomial, lowest bits first. -/
def poly : Nat := 2197175160
/-- One bit of the register's walk. -/
def sh (c : Nat) : Nat := c / 2 ^^^ (if c % 2 = 1 then poly else 0)
def shN : Nat → Nat → Nat
  | 0, c => c
  | n + 1, c => shN n (sh c)
theorem mod2_cases (x : Nat) : x % 2 = 0 ∨ x % 2 = 1 := by omega
theorem xor_mod2 (x y : Nat) : (x ^^^ y) % 2 = (x % 2 + y % 2) % 2 := by
  have := Nat.xor_mod_two_pow (a := x) (b := y) (n := 1)
  rw [Nat.pow_one] at this
  rw [this]
  rcases mod2_cases x with h | h <;> rcases mod2_cases y with k | k <;> rw [h, k] <;> rfl
theorem xor_div2 (x y : Nat) : (x ^^^ y) / 2 = x / 2 ^^^ y / 2 := by
  have := Nat.shiftRight_xor_distrib (a := x) (b := y) (i := 1)
  simpa [Nat.shiftRight_eq_div_pow] using this
theorem xor_swap4 (a b c d : Nat) : (a ^^^ b) ^^^ (c ^^^ d) = (a ^^^ c) ^^^ (b ^^^ d) := by ac_rfl
theorem sh_xor (x y : Nat) : sh (x ^^^ y) = sh x ^^^ sh y := by
  unfold sh
  rw [xor_div2, xor_mod2, xor_swap4]
  congr 1
  rcases mod2_cases x with h | h <;> rcases mod2_cases y with k | k <;> rw [h, k] <;> simp
theorem sh_lt {c : Nat} (h : c < 4294967296) : sh c < 4294967296 := by
  unfold sh
  exact Nat.xor_lt_two_pow (n := 32) (by omega) (by unfold poly; split <;> omega)
theorem xor_eq_zero {a b : Nat} (h : a ^^^ b = 0) : a = b := by
  have : (a ^^^ b) ^^^ b = b := by rw [h]; simp
  rwa [Nat.xor_assoc, Nat.xor_self, Nat.xor_zero] at this
theorem sh_zero {c : Nat} (h : c < 4294967296) (hz : sh c = 0) : c = 0 := by
  unfold sh at hz
  have := xor_eq_zero hz
  unfold poly at this
  split at this <;> omega
theorem shN_xor (n x y : Nat) : shN n (x ^^^ y) = shN n x ^^^ shN n y := by
  induction n generalizing x y with
  | zero => rfl
  | succ n ih => show shN n (sh _) = shN n (sh x) ^^^ shN n (sh y); rw [sh_xor, ih]
theorem shN_lt {n c : Nat} (h : c < 4294967296) : shN n c < 4294967296 := by
  induction n generalizing c with
  | zero => exact h
  | succ n ih => exact ih (sh_lt h)
theorem shN_zero {n c : Nat} (h : c < 4294967296) (hz : shN n c = 0) : c = 0 := by
  induction n generalizing c with
  | zero => exact hz
  | succ n ih => exact sh_zero h (ih (sh_lt h) hz)
theorem shN_of_zero (n : Nat) : shN n 0 = 0 := by
  induction n with
  | zero => rfl
  | succ n ih => exact ih
theorem shN_add (m n c : Nat) : shN (m + n) c = shN n (shN m c) := by
  induction m generalizing c with
  | zero => rw [Nat.zero_add]; rfl
  | succ m ih => rw [Nat.succ_add]; exact ih (sh c)
theorem shN_succ (n c : Nat) : shN (n + 1) c = sh (shN n c) := by rw [shN_add]; rfl
/-- Bits that are not lost come down. -/
theorem shN_pow (j : Nat) : shN j (2 ^ j) = 1 := by
  induction j with
  | zero => rfl
  | succ j ih =>
    show shN j (sh (2 ^ (j + 1))) = 1
    have : sh (2 ^ (j + 1)) = 2 ^ j := by
      unfold sh
      rw [Nat.pow_succ, Nat.mul_mod_left]
      simp
    rw [this, ih]
/-- One byte. -/
def byt (c b : Nat) : Nat := shN 8 (c ^^^ b)
/-- Bytes. -/
def reg (c : Nat) (bs : List Nat) : Nat := bs.foldl byt c
theorem byt_lt {c b : Nat} (hc : c < 4294967296) (hb : b < 256) : byt c b < 4294967296 := shN_lt (Nat.xor_lt_two_pow (n := 32) (by omega) (by omega))
theorem reg_lt {bs : List Nat} : ∀ {c : Nat}, c < 4294967296 → (∀ b ∈ bs, b < 256) → reg c bs < 4294967296 := by
  induction bs with
  | nil => intro c hc _; exact hc
  | cons b bs ih => intro c hc hb; exact ih (byt_lt hc (hb b (by simp))) fun x hx => hb x (by simp [hx])
theorem reg_append (c : Nat) (xs ys : List Nat) : reg c (xs ++ ys) = reg (reg c xs) ys := List.foldl_append
theorem reg_snoc (c : Nat) (xs : List Nat) (y : Nat) : reg c (xs ++ [y]) = byt (reg c xs) y := reg_append c xs [y]
theorem reg_xor : ∀ (xs es : List Nat) (c d : Nat), xs.length = es.length → reg (c ^^^ d) (List.zipWith (· ^^^ ·) xs es) = reg c xs ^^^ reg d es := by
  intro xs
  induction xs with
  | nil => intro es c d h; cases es with
    | nil => rfl
    | cons e es => cases h
  | cons x xs ih => intro es c d h; cases es with
    | nil => cases h
    | cons e es =>
      show reg (byt (c ^^^ d) (x ^^^ e)) _ = reg (byt c x) xs ^^^ reg (byt d e) es
      have : byt (c ^^^ d) (x ^^^ e) = byt c x ^^^ byt d e := by unfold byt; rw [xor_swap4, shN_xor]
      rw [this]
      exact ih es _ _ (by simpa using h)
/-- The register alone parts by what is beside it. -/
theorem reg_part (c d : Nat) (xs : List Nat) : reg (c ^^^ d) xs = reg c xs ^^^ shN (8 * xs.length) d := by
  induction xs generalizing c d with
  | nil => rfl
  | cons x xs ih =>
    show reg (byt (c ^^^ d) x) xs = reg (byt c x) xs ^^^ _
    have : byt (c ^^^ d) x = byt c x ^^^ shN 8 d := by
      unfold byt
      rw [show c ^^^ d ^^^ x = (c ^^^ x) ^^^ d by ac_rfl, shN_xor]
    rw [this, ih]
    congr 1
/-- A bit that turns in a byte. -/
theorem reg_flip (c : Nat) (xs : List Nat) (i j : Nat) (x : Nat) (hx : xs[i]? = some x) (hj : j ≤ 8) :
    reg c (xs.set i (x ^^^ 2 ^ j)) = reg c xs ^^^ shN (8 * (xs.length - i) - j) 1 := by
  induction xs generalizing c i with
  | nil => simp at hx
  | cons y xs ih =>
    cases i with
    | zero =>
      simp at hx
      subst hx
      show reg (byt c (y ^^^ 2 ^ j)) xs = reg (byt c y) xs ^^^ _
      have : byt c (y ^^^ 2 ^ j) = byt c y ^^^ shN (8 - j) 1 := by
        unfold byt
        rw [← Nat.xor_assoc, shN_xor]
        congr 1
        conv => lhs; rw [show 8 = j + (8 - j) by omega, shN_add, shN_pow]
      rw [this, reg_part]
      congr 1
      rw [← shN_add, List.length_cons]
      congr 1
      omega
    | succ i =>
      simp at hx
      show reg (byt c y) (xs.set i _) = reg (byt c y) xs ^^^ _
      rw [ih _ i hx]
      congr 2
      rw [List.length_cons]; omega
theorem reg_zeros (n c : Nat) : reg c (List.replicate n 0) = shN (8 * n) c := by
  induction n generalizing c with
  | zero => rfl
  | succ n ih =>
    show reg (byt c 0) (List.replicate n 0) = _
    rw [ih]
    unfold byt
    rw [Nat.xor_zero, ← shN_add]
    congr 1; omega

/-- Inverted. -/
def inv (x : Nat) : Nat := x ^^^ 4294967295
theorem inv_inv (x : Nat) : inv (inv x) = x := by unfold inv; rw [Nat.xor_assoc, Nat.xor_self, Nat.xor_zero]
theorem inv_lt {x : Nat} (h : x < 4294967296) : inv x < 4294967296 := Nat.xor_lt_two_pow (n := 32) (by omega) (by omega)
theorem inv_sub {x : Nat} (h : x < 4294967296) : inv x = 4294967295 - x := by
  unfold inv
  have h1 : (BitVec.ofNat 32 x ^^^ BitVec.allOnes 32).toNat = x ^^^ 4294967295 := by
    rw [BitVec.toNat_xor, BitVec.toNat_ofNat, BitVec.toNat_allOnes]
    rw [Nat.mod_eq_of_lt (by omega)]
  rw [BitVec.xor_allOnes, BitVec.toNat_not, BitVec.toNat_ofNat, Nat.mod_eq_of_lt (by omega)] at h1
  omega
theorem inv_xor (x y : Nat) : inv x ^^^ inv y = x ^^^ y := by
  unfold inv
  rw [xor_swap4, Nat.xor_self, Nat.xor_zero]
/-- The sum of bytes behind a sum. -/
def more (s : Nat) (bs : List Nat) : Nat := inv (reg (inv s) bs)
def zeros (s n : Nat) : Nat := inv (shN (8 * n) (inv s))
theorem more_lt {s : Nat} {bs : List Nat} (hs : s < 4294967296) (hb : ∀ b ∈ bs, b < 256) : more s bs < 4294967296 := inv_lt (reg_lt (inv_lt hs) hb)
theorem more_more (s : Nat) (xs ys : List Nat) : more (more s xs) ys = more s (xs ++ ys) := by unfold more; rw [inv_inv, reg_append]
theorem more_zero (s n : Nat) : more (zeros s n) [0] = zeros s (n + 1) := by
  unfold more zeros
  rw [inv_inv]
  have := reg_zeros 1 (shN (8 * n) (inv s))
  rw [show List.replicate 1 0 = [0] from rfl] at this
  rw [this, ← shN_add]
  congr 2
theorem zeros_zero (s : Nat) : zeros s 0 = s := inv_inv s
theorem zeros_lt {s n : Nat} (hs : s < 4294967296) : zeros s n < 4294967296 := inv_lt (shN_lt (inv_lt hs))
theorem zeros_xor (x y n : Nat) : zeros x n ^^^ zeros y n = shN (8 * n) (x ^^^ y) := by
  unfold zeros
  rw [inv_xor, ← shN_xor, inv_xor]
theorem zeros_apart (x y z n : Nat) : zeros (x ^^^ z) n ^^^ zeros (y ^^^ z) n = zeros x n ^^^ zeros y n := by
  rw [zeros_xor, zeros_xor, xor_swap4, Nat.xor_self, Nat.xor_zero]
theorem zeros_same {x y n : Nat} (hx : x < 4294967296) (hy : y < 4294967296) : (zeros x n ^^^ zeros y n == 0) = (x == y) := by
  rw [zeros_xor, Bool.eq_iff_iff, beq_iff_eq, beq_iff_eq]
  constructor
  · intro h; exact xor_eq_zero (shN_zero (Nat.xor_lt_two_pow (n := 32) (by omega) (by omega)) h)
  · rintro rfl; rw [Nat.xor_self, shN_of_zero]
theorem zeros_add (x m n : Nat) : zeros (zeros x m) n = zeros x (m + n) := by
  unfold zeros; rw [inv_inv, ← shN_add, Nat.mul_add]
theorem zeros_comm (x m n : Nat) : zeros (zeros x m) n = zeros (zeros x n) m := by rw [zeros_add, zeros_add, Nat.add_comm]
theorem parts (x y t : List Nat) (hx : x.length = t.length) (hy : y.length = t.length) :
    more 0 x ^^^ more 0 (List.zipWith (· ^^^ ·) x t) = more 0 y ^^^ more 0 (List.zipWith (· ^^^ ·) y t) := by
  unfold more
  rw [inv_xor, inv_xor]
  have h1 := reg_xor x t (inv 0) 0 hx
  have h2 := reg_xor y t (inv 0) 0 hy
  rw [Nat.xor_zero] at h1 h2
  rw [h1, h2, ← Nat.xor_assoc, ← Nat.xor_assoc, Nat.xor_self, Nat.xor_self]
/-- One bit of a byte into the register: the way that takes the bits one by one. -/
def bit1 (v c : Nat) : Nat := c / 2 ^^^ (if (v ^^^ c) % 2 = 1 then poly else 0)
theorem bit1_step (v c : Nat) : sh (c ^^^ v) = bit1 v c ^^^ v / 2 := by
  unfold sh bit1
  rw [xor_div2, Nat.xor_comm v c]
  ac_rfl
theorem bit1_lt {v c : Nat} (h : c < 4294967296) : bit1 v c < 4294967296 := by
  unfold bit1
  exact Nat.xor_lt_two_pow (n := 32) (by omega) (by unfold poly; split <;> omega)
/-- Bits of a burst, as far as the k-th. -/
theorem low_bits (u k : Nat) : u % 2 ^ (k + 1) = u % 2 ^ k ^^^ (if u / 2 ^ k % 2 = 1 then 2 ^ k else 0) := by
  apply Nat.eq_of_testBit_eq
  intro i
  rw [Nat.testBit_xor, Nat.testBit_mod_two_pow, Nat.testBit_mod_two_pow]
  have hk : u.testBit k = decide (u / 2 ^ k % 2 = 1) := Nat.testBit_eq_decide_div_mod_eq
  by_cases h : u / 2 ^ k % 2 = 1
  · rw [if_pos h, Nat.testBit_two_pow]
    by_cases e : k = i
    · subst e; simp [hk, h]
    · have : (i < k + 1) = (i < k) := by apply propext; omega
      simp [e, this]
  · rw [if_neg h]
    by_cases e : k = i
    · subst e; simp [hk, h]
    · have : (i < k + 1) = (i < k) := by apply propext; omega
      simp [this]
/-- How far a burst has come. -/
def Burst (c0 : Nat) (bs : List Nat) (from_ u k : Nat) (cs : List Nat) : Prop :=
  cs.length = bs.length ∧ (∀ b ∈ cs, b < 256) ∧ reg c0 cs = reg c0 bs ^^^ shN (8 * bs.length - from_) (u % 2 ^ k)
theorem burst_start (c0 : Nat) (bs : List Nat) (from_ u : Nat) (hb : ∀ b ∈ bs, b < 256) : Burst c0 bs from_ u 0 bs := by
  refine ⟨rfl, hb, ?_⟩
  rw [Nat.pow_zero, Nat.mod_one, shN_of_zero, Nat.xor_zero]
theorem burst_skip {c0 : Nat} {bs cs : List Nat} {from_ u k : Nat} (h : Burst c0 bs from_ u k cs) (hu : ¬ u / 2 ^ k % 2 = 1) : Burst c0 bs from_ u (k + 1) cs := by
  refine ⟨h.1, h.2.1, ?_⟩
  rw [h.2.2, low_bits, if_neg hu, Nat.xor_zero]
theorem burst_turn {c0 : Nat} {bs cs : List Nat} {from_ u k x : Nat} (h : Burst c0 bs from_ u k cs) (hu : u / 2 ^ k % 2 = 1) (hk : k < 32) (hf : from_ + 32 ≤ 8 * bs.length) (hx : cs[(from_ + k) / 8]? = some x) :
    Burst c0 bs from_ u (k + 1) (cs.set ((from_ + k) / 8) (x ^^^ 2 ^ ((from_ + k) % 8))) := by
  refine ⟨by rw [List.length_set]; exact h.1, fun b hb => ?_, ?_⟩
  · have h8 : (from_ + k) % 8 < 8 := by omega
    have hx' : x < 256 := h.2.1 x (List.mem_of_getElem? hx)
    rcases List.mem_or_eq_of_mem_set hb with hm | rfl
    · exact h.2.1 b hm
    · have : 2 ^ ((from_ + k) % 8) < 2 ^ 8 := Nat.pow_lt_pow_right (by omega) h8
      exact Nat.xor_lt_two_pow (n := 8) (by omega) this
  · rw [reg_flip c0 cs _ _ x hx (by omega), h.2.2, low_bits, if_pos hu, Nat.xor_assoc, shN_xor]
    congr 2
    have e : 8 * bs.length - from_ = k + (8 * bs.length - from_ - k) := by omega
    conv => rhs; rw [e, shN_add, shN_pow]
    congr 1
    have hl := h.1
    rw [hl]
    omega
theorem burst_end {bs cs : List Nat} {from_ u : Nat} (h : Burst (inv 0) bs from_ u 32 cs) (hu : u < 4294967296) (h0 : u ≠ 0) : (more 0 cs == more 0 bs) = false := by
  rw [beq_eq_false_iff_ne]
  intro e
  unfold more at e
  have e2 : reg (inv 0) cs = reg (inv 0) bs := by rw [← inv_inv (reg (inv 0) cs), e, inv_inv]
  rw [h.2.2, Nat.mod_eq_of_lt (by omega)] at e2
  have e3 : shN (8 * bs.length - from_) u = 0 := by
    have := congrArg (fun z => reg (inv 0) bs ^^^ z) e2
    simpa [← Nat.xor_assoc] using this
  exact h0 (shN_zero hu e3)
end Crc
end Go.Proofs.Ytdlgdlgpmfccmaa
namespace Go.Proofs.Ytdlgdlgpmfccmaa
namespace Crc
/-- What n bits through the register make of bit i alone. -/
def col (n i : Nat) : Nat := shN n (2 ^ i)
theorem col_lt {n i : Nat} (h : i < 32) : col n i < 4294967296 := shN_lt (by
  have : 2 ^ i < 2 ^ 32 := Nat.pow_lt_pow_right (by omega) h
  omega)
/-- The bits of c below the k-th, through. -/
theorem of_step (n c k : Nat) : shN n (c % 2 ^ (k + 1)) = shN n (c % 2 ^ k) ^^^ (if c / 2 ^ k % 2 = 1 then col n k else 0) := by
  rw [low_bits, shN_xor]
  congr 1
  split
  · rfl
  · exact shN_of_zero n
theorem of_start (n c : Nat) : shN n (c % 2 ^ 0) = 0 := by rw [Nat.pow_zero, Nat.mod_one, shN_of_zero]
theorem of_end {n c : Nat} (h : c < 4294967296) : shN n (c % 2 ^ 32) = shN n c := by rw [Nat.mod_eq_of_lt (by omega)]
theorem sh_one : sh 1 = poly := by decide
/-- The bit that goes out with the last step. -/
theorem col_last (n i : Nat) (h : i < n) : col n (n - 1 - i) = shN i poly := by
  unfold col
  rw [show n = (n - 1 - i) + (i + 1) by omega, shN_add, show n - 1 - i + (i + 1) - 1 - i = n - 1 - i by omega, shN_pow]
  show shN i (sh 1) = _
  rw [sh_one]
theorem shN_shift (j v : Nat) : shN j (2 ^ j * v) = v := by
  induction j generalizing v with
  | zero => simp [shN]
  | succ j ih =>
    show shN j (sh (2 ^ (j + 1) * v)) = v
    have : sh (2 ^ (j + 1) * v) = 2 ^ j * v := by
      unfold sh
      rw [Nat.pow_succ, show 2 ^ j * 2 * v = 2 ^ j * v * 2 by ac_rfl, Nat.mul_mod_left]
      simp
    rw [this, ih]
theorem col_move (n i : Nat) : col n (n + i) = 2 ^ i := by unfold col; rw [Nat.pow_add, shN_shift]
theorem split_xor (b m : Nat) (h : b < 256) : b + 256 * m = b ^^^ 256 * m := by
  apply Nat.eq_of_testBit_eq
  intro i
  rw [Nat.testBit_xor, show 256 * m = 2 ^ 8 * m by rfl, Nat.testBit_two_pow_mul]
  rw [show b + 2 ^ 8 * m = 2 ^ 8 * m + b by omega, Nat.testBit_two_pow_mul_add m h]
  by_cases h8 : i < 8
  · simp [h8, show ¬ 8 ≤ i by omega]
  · have : b.testBit i = false := Nat.testBit_lt_two_pow (Nat.lt_of_lt_of_le h (by
      have : 2 ^ 8 ≤ 2 ^ i := Nat.pow_le_pow_right (by omega) (by omega)
      omega))
    simp [h8, show 8 ≤ i by omega, this]
/-- One byte, and what stands above it. -/
theorem byte_above (c b m n : Nat) (h : b < 256) : shN (8 + n) (c ^^^ (b + 256 * m)) = shN n (byt c b ^^^ m) := by
  rw [split_xor b m h, shN_add, ← Nat.xor_assoc, shN_xor, show 256 * m = 2 ^ 8 * m by rfl, shN_shift]
  rfl
/-- Four bytes at once. -/
def four (a b c d : Nat) : Nat := a + 256 * (b + 256 * (c + 256 * d))
theorem four_reg (r a b c d : Nat) (ha : a < 256) (hb : b < 256) (hc : c < 256) : shN 32 (r ^^^ four a b c d) = reg r [a, b, c, d] := by
  unfold four
  rw [show 32 = 8 + 24 by rfl, byte_above r a _ _ ha, show 24 = 8 + 16 by rfl, byte_above _ b _ _ hb, show 16 = 8 + 8 by rfl, byte_above _ c _ _ hc]
  rfl
theorem four_lt {a b c d : Nat} (ha : a < 256) (hb : b < 256) (hc : c < 256) (hd : d < 256) : four a b c d < 4294967296 := by unfold four; omega
end Crc
end Go.Proofs.Ytdlgdlgpmfccmaa
