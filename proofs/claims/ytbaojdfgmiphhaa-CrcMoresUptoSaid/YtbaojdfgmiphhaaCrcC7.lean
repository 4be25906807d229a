import Derived.Test.YtbaojdfgmiphhaaCrcC6
namespace Go.Proofs.Ytbaojdfgmiphhaa
open Go Go.RowKit
set_option linter.unusedVariables false
theorem sum_c : CSum := by
  intro A n cap xs w hin hl
  have HIN := Lib.hid hin
  have HM := Lib.hid more_c
  clear hin
  go_enter Try.func10, Try.ntmps10
  go_wp2_with fail
  refine (HM.out A n cap xs 0 w (by omega) HIN.out hl).mono ?_
  rintro e w1 ⟨rfl, u1⟩
  have U1 := Lib.hid u1
  clear u1
  go_wp2_with fail
  go_ret
  exact ⟨rfl, U1.out⟩
theorem and1_i64 (n : Nat) (h : n < 9223372036854775808) : bits .and .i64 (n : Int) 1 = ((n % 2 : Nat) : Int) := by
  have h1 : (BitVec.ofInt 64 1).toNat = 2 ^ 1 - 1 := by decide
  have key : (BitVec.ofInt 64 (n : Int) &&& BitVec.ofInt 64 1).toNat = ((n : Int) % ((2 ^ 64 : Nat) : Int)).toNat % 2 ^ 1 := by
    rw [BitVec.toNat_and, BitVec.toNat_ofInt, h1, Nat.and_two_pow_sub_one_eq_mod]
  show IntKind.i64.wrap ((BitVec.ofInt 64 (n : Int) &&& BitVec.ofInt 64 1).toNat : Nat) = _
  rw [key, IntKind.wrap_i64]
  omega
/-- The map of the call's own. -/
structure Map1 (w0 w : World) (g a : Nat) : Prop where
  up : Up w0 w
  low : w0.heap.size ≤ g
  m1 : w.heap[g]? = some (.cells (arr (Crc.col a)) 37 (0, 0))
theorem Map1.up' {w0 w w' : World} {g a : Nat} (m : Map1 w0 w g a) (hu : Up w w') : Map1 w0 w' g a :=
  ⟨m.up.trans hu, m.low, (hu.block _ (Array.getElem?_eq_some_iff.1 m.m1).1).trans m.m1⟩
set_option maxHeartbeats 1000000 in
theorem zeros_c : CZeros := by
  intro s n w hs hn1 hn2
  have hil := Crc.inv_lt hs
  have hr : n ≤ 0 ∨ ∃ N : Nat, n = (N : Int) ∧ 0 < N := by
    by_cases h : n ≤ 0
    · exact .inl h
    · exact .inr ⟨n.toNat, by omega, by omega⟩
  go_enter Try.func14, Try.ntmps14
  go_wp2_with fail
  refine (through_c 8 _ (by omega) (by omega)).mono ?_
  rintro e w1 ⟨rfl, u1⟩
  have U1 := Lib.hid u1
  clear u1
  go_wp2_with (refine wpList_store_row rfl 37 (.tmp 6) (.tmp 9) rfl w1.heap.size (arr (Crc.col 8)) rfl rfl 37 _ (heap_alloc_new _ _) (by rw [arr_size]; kernel_rfl) (by rw [arr_size]; rfl) (arr_one _) ?_)
  have hM : Map1 w ((w1.alloc (.cells (arr fun _ => 0) 37)).setRow w1.heap.size (arr (Crc.col 8))) w1.heap.size 8 :=
    ⟨below_setRow (U1.out.alloc U1.out.size _) U1.out.size _, U1.out.size, setRow_heap _ _ _ _ _ _ (heap_alloc_new _ _)⟩
  simp only [arr_zero]
  generalize (w1.alloc (.cells (arr fun _ => 0) 37)).setRow w1.heap.size (arr (Crc.col 8)) = w3 at hM ⊢
  generalize w1.heap.size = g at hM ⊢
  have HM := Lib.hid hM
  clear hM
  go_simp
  rw [inv_c hs]
  have fin : ∀ r0 : Nat, r0 < 4294967296 → r0 = Crc.shN (8 * n.toNat) (Crc.inv s) → Hid (bits .xor .u32 IntKind.u32.max (r0 : Int) = ((Crc.zeros s n.toNat : Nat) : Int)) := fun r0 hr0 e => by
    show _ = _
    rw [inv_c hr0, e]
    rfl
  rcases hr with h0 | ⟨N, rfl, hN⟩
  · have HF := fin _ hil (by rw [show n.toNat = 0 by omega]; rfl)
    clear fin
    go_loopw [1, 5] (fun b r wr => b = .int .i64 n ∧ r = .int .u32 ((Crc.inv s : Nat) : Int) ∧ Up w wr) (fun b _ _ => 0)
    case atStart => exact ⟨rfl, rfl, HM.out.up⟩
    case round =>
      obtain ⟨rfl, rfl, hu⟩ := hrel
      go_wp2_with fail
      go_ret
      exact ⟨ret_i HF.out, hu⟩
  · have HFIN := Lib.hid fin
    clear fin
    rw [Int.toNat_natCast] at HFIN ⊢
    go_loopw [1, 5] (fun b r wr => ∃ (k q a : Nat), k < 9223372036854775808 ∧ b = .int .i64 (k : Int) ∧ r = .int .u32 (q : Int) ∧ q < 4294967296 ∧ Hid (Crc.shN (a * k) q = Crc.shN (8 * N) (Crc.inv s)) ∧ Hid (Map1 w wr g a)) (fun b _ _ => (intOf b).toNat)
    case atStart => exact ⟨N, _, 8, by omega, rfl, rfl, hil, rfl, HM.out⟩
    case round =>
      obtain ⟨k, q, a, hk, rfl, rfl, hq, HQ, HW⟩ := hrel
      by_cases h0 : 0 < k
      · have ha := and1_i64 k hk
        have HT := Lib.hid fun W (hu : Up wr W) => twice_c a g W (HW.out.up' hu).m1
        rcases Crc.mod2_cases k with h2 | h2
        · rw [h2] at ha
          have HQ2 := Lib.hid ((Crc.zeros_even q a k (by omega)).symm.trans HQ.out)
          clear HQ h2
          go_wp2_with fail
          refine (HT.out wr (Up.refl _)).mono ?_
          rintro e w4 ⟨rfl, u4⟩
          have HW4 := Lib.hid (HW.out.up' u4)
          clear u4
          have hrow := HW4.out.m1
          go_wp2_with (refine wpList_store_row rfl 37 (.tmp 6) (.tmp 19) rfl g (arr (Crc.col (2 * a))) rfl rfl 37 _ hrow (by rw [arr_size]; kernel_rfl) (by rw [arr_size, arr_size]) (arr_one _) ?_)
          go_roundw
          case rel => exact ⟨k / 2, q, 2 * a, by omega, by rw [Int.natCast_ediv]; rfl, rfl, hq, HQ2, Lib.hid ⟨below_setRow HW4.out.up HW4.out.low _, HW4.out.low, setRow_heap _ _ _ _ _ _ HW4.out.m1⟩⟩
          case measure => simp [intOf]; omega
        · rw [h2] at ha
          have HQ2 := Lib.hid ((Crc.zeros_odd q a k h2).symm.trans HQ.out)
          have hq' : Crc.shN a q < 4294967296 := Crc.shN_lt hq
          clear HQ h2
          go_wp2_with fail
          refine (of_c a q g wr hq HW.out.m1).mono ?_
          rintro e w5 ⟨rfl, u5⟩
          have U5 := Lib.hid u5
          clear u5
          go_wp2_with fail
          refine (HT.out w5 U5.out).mono ?_
          rintro e w4 ⟨rfl, u4⟩
          have HW4 := Lib.hid ((HW.out.up' U5.out).up' u4)
          clear u4
          have hrow := HW4.out.m1
          go_wp2_with (refine wpList_store_row rfl 37 (.tmp 6) (.tmp 19) rfl g (arr (Crc.col (2 * a))) rfl rfl 37 _ hrow (by rw [arr_size]; kernel_rfl) (by rw [arr_size, arr_size]) (arr_one _) ?_)
          go_roundw
          case rel => exact ⟨k / 2, Crc.shN a q, 2 * a, by omega, by rw [Int.natCast_ediv]; rfl, rfl, hq', HQ2, Lib.hid ⟨below_setRow HW4.out.up HW4.out.low _, HW4.out.low, setRow_heap _ _ _ _ _ _ HW4.out.m1⟩⟩
          case measure => simp [intOf]; omega
      · obtain rfl : k = 0 := by omega
        have HF := HFIN.out q hq (by rw [← HQ.out, Nat.mul_zero]; rfl)
        go_wp2_with fail
        go_ret
        exact ⟨ret_i HF.out, HW.out.up⟩
end Go.Proofs.Ytbaojdfgmiphhaa
