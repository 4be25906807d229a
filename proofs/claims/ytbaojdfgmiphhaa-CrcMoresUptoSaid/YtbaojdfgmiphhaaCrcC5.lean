import Derived.Test.YtbaojdfgmiphhaaCrcC2
namespace Go.Proofs.Ytbaojdfgmiphhaa
open Go Go.RowKit
set_option linter.unusedVariables false
/-- The lowest k of four bytes. -/
def lfs (a b c d : Nat) : Nat → Nat
  | 0 => 0
  | 1 => a
  | 2 => a + 256 * b
  | 3 => a + 256 * (b + 256 * c)
  | _ => Crc.four a b c d
theorem or_c (j a y : Nat) (A B : Int) (n : Nat) (ha : a < 2 ^ j) (hA : A = (a : Int)) (hB : B = ((2 ^ j * y : Nat) : Int)) (h1 : a < 4294967296) (h2 : 2 ^ j * y < 4294967296) (hn : 2 ^ j * y + a = n) : bits .or .u32 A B = (n : Int) := by
  subst hA; subst hB
  rw [u32_or_nat _ _ h1 h2, Nat.or_comm, ← Nat.two_pow_add_eq_or_of_lt ha, hn]
set_option maxHeartbeats 400000 in
theorem lowest_c (b o n cap : Nat) (x0 x1 x2 x3 : Nat) (w : World) (h0 : x0 < 256) (h1 : x1 < 256) (h2 : x2 < 256) (h3 : x3 < 256) (hn : 4 ≤ n)
    (c0 : w.cell? ⟨b, o, none⟩ = some (.int .u8 (x0 : Int))) (c1 : w.cell? ⟨b, o + 1, none⟩ = some (.int .u8 (x1 : Int))) (c2 : w.cell? ⟨b, o + 2, none⟩ = some (.int .u8 (x2 : Int))) (c3 : w.cell? ⟨b, o + 3, none⟩ = some (.int .u8 (x3 : Int))) :
    Calls Try.prog 18 #[.slice (some ⟨b, o, none⟩) n cap] w fun e w' => e = .returned (.int .u32 ((Crc.four x0 x1 x2 x3 : Nat) : Int)) ∧ w = w' := by
  go_enter Try.func18, Try.ntmps18
  go_wp2_with fail
  go_loop [3, 5] (fun r i => ∃ k : Nat, k ≤ 4 ∧ i = .int .i64 k ∧ r = .int .u32 ((lfs x0 x1 x2 x3 k : Nat) : Int)) (fun _ i => 4 - (intOf i).toNat)
  case atStart => exact ⟨0, by omega, rfl, rfl⟩
  case round =>
    obtain ⟨k, hk, rfl, rfl⟩ := hrel
    obtain rfl | rfl | rfl | rfl | rfl : k = 0 ∨ k = 1 ∨ k = 2 ∨ k = 3 ∨ k = 4 := by omega
    all_goals simp only [lfs]
    · go_wp2_with fail
      go_round
      case rel => exact ⟨1, by omega, rfl, u32_eq (or_c 0 0 x0 _ _ _ (by decide) rfl (by omega) (by omega) (by omega) (by simp))⟩
      case measure => simp [intOf]
    · go_wp2_with fail
      go_round
      case rel => exact ⟨2, by omega, rfl, u32_eq (or_c 8 x0 x1 _ _ _ (by omega) rfl (by omega) (by omega) (by omega) (by simp; omega))⟩
      case measure => simp [intOf]
    · go_wp2_with fail
      go_round
      case rel => exact ⟨3, by omega, rfl, u32_eq (or_c 16 (x0 + 256 * x1) x2 _ _ _ (by omega) (by omega) (by omega) (by omega) (by omega) (by simp; omega))⟩
      case measure => simp [intOf]
    · go_wp2_with fail
      go_round
      case rel => exact ⟨4, by omega, rfl, u32_eq (or_c 24 (x0 + 256 * (x1 + 256 * x2)) x3 _ _ _ (by omega) (by omega) (by omega) (by omega) (by omega) (by simp [Crc.four]; omega))⟩
      case measure => simp [intOf]
    · go_wp2_with fail
      go_ret
      exact ⟨rfl, rfl⟩
end Go.Proofs.Ytbaojdfgmiphhaa
