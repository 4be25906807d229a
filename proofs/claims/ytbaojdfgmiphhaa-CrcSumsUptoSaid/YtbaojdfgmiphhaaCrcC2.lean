import Derived.Test.YtbaojdfgmiphhaaCrcC1
import Derived.WalkSmall
namespace Go.Proofs.Ytbaojdfgmiphhaa
open Go Go.RowKit
set_option linter.unusedVariables false
theorem mask_c (a x s : Nat) (X : Int) (ha : a < 4294967296) (hs : s < 4294967296) (hX : X = (x : Int)) :
    bits .xor .u32 (a : Int) (bits .and .u32 (s : Int) (-(X % 2) % 4294967296)) = ((a ^^^ (if x % 2 = 1 then s else 0) : Nat) : Int) := by
  subst hX
  rcases Crc.mod2_cases x with h | h
  · have e : (-((x : Int) % 2) % 4294967296) = ((0 : Nat) : Int) := by omega
    rw [e, u32_and_nat s 0 hs (by omega), Nat.and_zero, h]
    exact u32_xor_nat a 0 ha (by omega)
  · have e : (-((x : Int) % 2) % 4294967296) = ((4294967295 : Nat) : Int) := by omega
    have e2 : s &&& 4294967295 = s := by
      have := Nat.and_two_pow_sub_one_eq_mod s 32
      rw [show 2 ^ 32 - 1 = 4294967295 by rfl] at this
      rw [this]; omega
    rw [e, u32_and_nat s _ hs (by omega), e2, h]
    exact u32_xor_nat a s ha hs
theorem u32_eq {a b : Int} (h : a = b) : Value.int .u32 a = .int .u32 b := by rw [h]
set_option maxHeartbeats 400000 in
theorem of_c (n c g : Nat) (w : World) (hc : c < 4294967296) (hg : w.heap[g]? = some (.cells (arr (Crc.col n)) 37 (0, 0))) :
    Calls Try.prog 17 #[.pointer (some ⟨g, 0, none⟩), .int .u32 (c : Int)] w fun e w' => e = .returned (.int .u32 ((Crc.shN n c : Nat) : Int)) ∧ Up w w' := by
  have hlt : g < w.heap.size := (Array.getElem?_eq_some_iff.1 hg).1
  have HC : Hid (∀ k wr, k < 32 → Up w wr → wr.cell? ⟨g, k, none⟩ = some (.int .u32 ((Crc.col n k : Nat) : Int))) := by
    intro k wr hk hu
    rw [hu.cell (p := ⟨g, k, none⟩) hlt, cell_of_row _ _ _ _ _ _ hg, arr_get _ hk]
  clear hg
  go_enter Try.func17, Try.ntmps17
  go_wp2_with fail
  go_loopw [5, 7] (fun r i wr => ∃ k : Nat, k ≤ 32 ∧ i = .int .i64 k ∧ r = .int .u32 ((Crc.shN n (c % 2 ^ k) : Nat) : Int) ∧ Up w wr) (fun _ i _ => 32 - (intOf i).toNat)
  case atStart => exact ⟨0, by omega, rfl, by rw [Crc.of_start]; rfl, Up.refl _⟩
  case round =>
    obtain ⟨k, hk, rfl, rfl, hu⟩ := hrel
    by_cases hlt : k < 32
    · have hcell := HC.out k wr hlt hu
      have HU := Lib.hid hu
      clear hu
      have hb := and1_c (c / 2 ^ k) ((c : Int) / 2 ^ k) (Nat.lt_of_le_of_lt (Nat.div_le_self _ _) hc) (by simp)
      go_wp2_with fail
      go_quiet (fail)
      go_wp2_with fail
      go_roundw
      case rel =>
        refine ⟨k + 1, by omega, by go_num, u32_eq ?_, below_drewN HU.out nq⟩
        rw [mask_c _ (c / 2 ^ k) _ _ (Crc.shN_lt (Nat.lt_of_le_of_lt (Nat.mod_le _ _) hc)) (Crc.col_lt hlt) (by simp), Crc.of_step]
      case measure => simp [intOf]; omega
    · obtain rfl : k = 32 := by omega
      go_wp2_with fail
      go_ret
      exact ⟨ret_i (by rw [Crc.of_end hc]), hu⟩
end Go.Proofs.Ytbaojdfgmiphhaa
