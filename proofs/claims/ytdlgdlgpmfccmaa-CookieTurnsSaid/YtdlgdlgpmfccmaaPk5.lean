import Derived.Test.YtdlgdlgpmfccmaaBytes
import Derived.Test.YtdlgdlgpmfccmaaCrcC6
import Derived.Laws.BitsAllLaws
namespace Go.Proofs.Ytdlgdlgpmfccmaa
open Go Go.RowKit
set_option linter.unusedVariables false
set_option linter.unusedSimpArgs false
/-! The lowest byte first. -/
/-- The four bytes of a sum, the lowest first. -/
def le4 (s : Nat) : List Int := [((s % 256 : Nat) : Int), ((s / 256 % 256 : Nat) : Int), ((s / 65536 % 256 : Nat) : Int), ((s / 16777216 % 256 : Nat) : Int)]
theorem byt_le4 (s : Nat) : Byt (le4 s) := by
  intro x hx
  simp only [le4, List.mem_cons, List.mem_nil_iff, or_false] at hx
  rcases hx with rfl | rfl | rfl | rfl <;> omega
end Go.Proofs.Ytdlgdlgpmfccmaa
namespace Go.Proofs.Ytdlgdlgpmfccmaa
open Go Go.RowKit
set_option linter.unusedVariables false
set_option linter.unusedSimpArgs false
/-! Turned bits are told: mathematics. -/
theorem xor8_c (a b : Nat) (ha : a < 256) (hb : b < 256) : bits .xor .u8 (a : Int) (b : Int) = ((a ^^^ b : Nat) : Int) := by
  have h := Nat.xor_lt_two_pow (n := 8) (x := a) (y := b) (by omega) (by omega)
  show IntKind.u8.wrap ((BitVec.ofInt 8 (a : Int) ^^^ BitVec.ofInt 8 (b : Int)).toNat : Int) = _
  rw [BitVec.toNat_xor, BitVec.ofInt_natCast, BitVec.ofInt_natCast, BitVec.toNat_ofNat, BitVec.toNat_ofNat, Nat.mod_eq_of_lt (show a < 2 ^ 8 by omega), Nat.mod_eq_of_lt (show b < 2 ^ 8 by omega)]
  simp [IntKind.wrap, IntKind.bits, IntKind.signed]
  omega
def xorI (p q : Int) : Int := ((p.toNat ^^^ q.toNat : Nat) : Int)
theorem xorI_val {p q : Int} (hp : 0 ≤ p ∧ p < 256) (hq : 0 ≤ q ∧ q < 256) : bits .xor .u8 p q = xorI p q := by
  obtain ⟨a, rfl⟩ := Int.eq_ofNat_of_zero_le hp.1
  obtain ⟨b, rfl⟩ := Int.eq_ofNat_of_zero_le hq.1
  exact xor8_c a b (by omega) (by omega)
namespace Crc
/-- Four bytes that are turned, wherever they stand. -/
theorem reg_turn (c : Nat) (a p t r : List Nat) (hl : p.length = t.length) : reg c (a ++ (List.zipWith (· ^^^ ·) p t ++ r)) = reg c (a ++ (p ++ r)) ^^^ shN (8 * r.length) (reg 0 t) := by
  rw [reg_append, reg_append, reg_append c a, reg_append _ p]
  have h := reg_xor p t (reg c a) 0 hl
  rw [Nat.xor_zero] at h
  rw [h, reg_part]
theorem reg_four {a b c d : Nat} (ha : a < 256) (hb : b < 256) (hc : c < 256) : reg 0 [a, b, c, d] = shN 32 (four a b c d) := by
  have := four_reg 0 a b c d ha hb hc
  rw [Nat.zero_xor] at this
  exact this.symm
theorem more_turn (a p r : List Nat) (t0 t1 t2 t3 : Nat) (hp : p.length = 4) (h0 : t0 < 256) (h1 : t1 < 256) (h2 : t2 < 256) (h3 : t3 < 256) (hne : four t0 t1 t2 t3 ≠ 0) : more 0 (a ++ (List.zipWith (· ^^^ ·) p [t0, t1, t2, t3] ++ r)) ≠ more 0 (a ++ (p ++ r)) := by
  intro e
  unfold more at e
  have e2 : reg (inv 0) (a ++ (List.zipWith (· ^^^ ·) p [t0, t1, t2, t3] ++ r)) = reg (inv 0) (a ++ (p ++ r)) := by rw [← inv_inv (reg (inv 0) (a ++ (List.zipWith (· ^^^ ·) p [t0, t1, t2, t3] ++ r))), e, inv_inv]
  rw [reg_turn _ a p _ r (by rw [hp]; rfl), reg_four h0 h1 h2, ← shN_add] at e2
  have e3 := congrArg (fun z => reg (inv 0) (a ++ (p ++ r)) ^^^ z) e2
  simp only [← Nat.xor_assoc, Nat.xor_self, Nat.zero_xor] at e3
  exact hne (shN_zero (four_lt h0 h1 h2 h3) e3)
end Crc
theorem four_le4 (S : Nat) (h : S < 4294967296) : Crc.four (S % 256) (S / 256 % 256) (S / 65536 % 256) (S / 16777216 % 256) = S := by unfold Crc.four; omega
/-- Four bytes turned. -/
def turn4 (p : List Int) (S : Nat) : List Int := List.zipWith xorI p (le4 S)
theorem turn4_length {p : List Int} (S : Nat) (h : p.length = 4) : (turn4 p S).length = 4 := by simp [turn4, le4, h]
theorem nats_turn4 (p : List Int) (S : Nat) : nats (turn4 p S) = List.zipWith (· ^^^ ·) (nats p) [S % 256, S / 256 % 256, S / 65536 % 256, S / 16777216 % 256] := by
  unfold turn4 le4
  match p with
  | [] => rfl
  | [a] => rfl
  | [a, b] => rfl
  | [a, b, c] => rfl
  | [a, b, c, d] => rfl
  | a :: b :: c :: d :: e :: l => rfl
theorem turn4_sum (a p r : List Int) (S : Nat) (hp : p.length = 4) (hS : S < 4294967296) (h0 : S ≠ 0) : Crc.more 0 (nats (a ++ (turn4 p S ++ r))) ≠ Crc.more 0 (nats (a ++ (p ++ r))) := by
  rw [nats_append, nats_append, nats_append a, nats_append p, nats_turn4]
  exact Crc.more_turn (nats a) (nats p) (nats r) _ _ _ _ (by simp [nats, hp]) (by omega) (by omega) (by omega) (by omega) (by rw [four_le4 S hS]; exact h0)
theorem turn4_ne {p : List Int} {S : Nat} (hp : p.length = 4) (hb : Byt p) (hS : S < 4294967296) (h0 : S ≠ 0) : turn4 p S ≠ p := by
  intro e
  have h1 := turn4_sum [] p [] S hp hS h0
  rw [e] at h1
  exact h1 rfl
theorem byt_turn4 {p : List Int} {S : Nat} (hb : Byt p) : Byt (turn4 p S) := by
  intro x hx
  unfold turn4 at hx
  rw [List.mem_iff_getElem?] at hx
  obtain ⟨i, hi⟩ := hx
  rw [List.getElem?_zipWith] at hi
  cases h1 : p[i]? with
  | none => rw [h1] at hi; simp at hi
  | some y =>
    cases h2 : (le4 S)[i]? with
    | none => rw [h1, h2] at hi; simp at hi
    | some z =>
      rw [h1, h2] at hi
      simp only [Option.some.injEq] at hi
      subst hi
      have hy := hb y (List.mem_of_getElem? h1)
      have hz := byt_le4 S z (List.mem_of_getElem? h2)
      unfold xorI
      have := Nat.xor_lt_two_pow (n := 8) (x := y.toNat) (y := z.toNat) (by omega) (by omega)
      omega
theorem byt_of_app {a b : List Int} (h : Byt (a ++ b)) : Byt a ∧ Byt b := ⟨fun x hx => h x (by simp [hx]), fun x hx => h x (by simp [hx])⟩
end Go.Proofs.Ytdlgdlgpmfccmaa
