import Derived.Test.YtbaojdfgmiphhaaCrcL3
namespace Go.Proofs.Ytbaojdfgmiphhaa
open Go Go.RowKit
set_option linter.unusedVariables false
theorem xor8_c (a b : Nat) (ha : a < 256) (hb : b < 256) : bits .xor .u8 (a : Int) (b : Int) = ((a ^^^ b : Nat) : Int) := by
  have h := Nat.xor_lt_two_pow (n := 8) (x := a) (y := b) (by omega) (by omega)
  show IntKind.u8.wrap ((BitVec.ofInt 8 (a : Int) ^^^ BitVec.ofInt 8 (b : Int)).toNat : Int) = _
  rw [BitVec.toNat_xor, BitVec.ofInt_natCast, BitVec.ofInt_natCast, BitVec.toNat_ofNat, BitVec.toNat_ofNat, Nat.mod_eq_of_lt (show a < 2 ^ 8 by omega), Nat.mod_eq_of_lt (show b < 2 ^ 8 by omega)]
  simp [IntKind.wrap, IntKind.bits, IntKind.signed]
  omega
theorem flip_val (x t : Nat) (hx : x < 256) (ht : t < 8) : bits .xor .u8 (x : Int) (2 ^ t % 256) = ((x ^^^ 2 ^ t : Nat) : Int) := by
  have h : 2 ^ t < 2 ^ 8 := Nat.pow_lt_pow_right (by omega) ht
  have e : ((2 : Int) ^ t % 256) = ((2 ^ t : Nat) : Int) := by
    have e0 : ((2 ^ t : Nat) : Int) = (2 : Int) ^ t := by push_cast; rfl
    rw [← e0]
    exact Int.emod_eq_of_lt (Int.natCast_nonneg _) (Int.ofNat_lt.2 (show 2 ^ t < 256 from h))
  rw [e]
  exact xor8_c x (2 ^ t) hx (by omega)
theorem nats_set (cs : List Int) (j y : Nat) : nats (cs.set j (y : Int)) = (nats cs).set j y := by simp [nats, List.map_set]
set_option maxHeartbeats 1000000 in
theorem burst_none (hS : CSum) (A : Option Addr) (n ca bit : Nat) (u : Nat) (w : World) (hn : n ≤ 140737488355328) (h : n < 5 ∨ u = 0) :
    Calls Try.prog 7 #[.slice A n ca, .int .u16 (bit : Int), .int .u32 (u : Int)] w (True2 w) := by
  have HS := Lib.hid hS
  clear hS
  by_cases h5 : n < 5
  · have h5i : (n : Int) < 5 := by omega
    clear h
    go_enter Try.func7, Try.ntmps7
    go_wp2_with fail
    refine (crc_ans HS.out _).mono ?_
    rintro e w1 ⟨rfl, u1⟩
    go_wp2_with fail
    refine (crc_ans HS.out _).mono ?_
    rintro e w2 ⟨rfl, u2⟩
    go_wp2_with fail
    go_ret
    exact ⟨rfl, u1.trans u2⟩
  · have h5i : (5 : Int) ≤ n := by omega
    obtain rfl : u = 0 := by omega
    clear h h5
    go_enter Try.func7, Try.ntmps7
    go_wp2_with fail
    refine (crc_ans HS.out _).mono ?_
    rintro e w1 ⟨rfl, u1⟩
    go_wp2_with fail
    refine (crc_ans HS.out _).mono ?_
    rintro e w2 ⟨rfl, u2⟩
    go_wp2_with fail
    go_ret
    exact ⟨rfl, u1.trans u2⟩
set_option maxHeartbeats 1000000 in
theorem burst_some (hS : CSum) (A : Option Addr) (n ca bit : Nat) (u : Nat) (xs : List Int) (w : World) (ha : InB w A n ca xs) (hn : n ≤ 140737488355328) (h5 : 5 ≤ n) (hb : bit < 65536) (hu : 0 < u) (hu' : u < 4294967296) :
    Calls Try.prog 7 #[.slice A n ca, .int .u16 (bit : Int), .int .u32 (u : Int)] w (True2 w) := by
  have HS := Lib.hid hS
  have HA := Lib.hid ha
  clear hS ha
  have h5i : (5 : Int) ≤ n := by omega
  have hui : (0 : Int) < u := by omega
  have hun : ((u : Int) == 0) = false := by rw [beq_eq_false_iff_ne]; omega
  have hmod : (8 * (n : Int) - 31 == 0) = false := by rw [beq_eq_false_iff_ne]; omega
  go_enter Try.func7, Try.ntmps7
  go_wp2_with fail
  refine (crc_ans HS.out _).mono ?_
  rintro e w1 ⟨rfl, u1⟩
  have U1 := Lib.hid u1
  clear u1
  go_wp2_with (at_builtin; refine wpList_appendI rfl (.tmp 29) (.tmp 30) 22 rfl .u8 w1.heap.size 5 1 Try.underlying22 info5 (some ⟨w1.heap.size, 0, none⟩) 0 0 [] rfl (ownI_new _ _ _) A n ca xs rfl HA.out.len ((HA.out.up U1.out).cells.alloc _) (by omega) (by omega) (by simp) ((Below.refl _ _).alloc (Nat.le_refl _) _) ?_; intro A' N c' w5 HN HW HL hsz)
  obtain ⟨g, rfl, hg1, hg2⟩ := HW.out.at_ (by have := HN.out; omega)
  obtain ⟨f, hf, hf2⟩ : ∃ f : Nat, (bit : Int) % (8 * (n : Int) - 31) = f ∧ f + 32 ≤ 8 * n := ⟨bit % (8 * n - 31), by rw [Int.natCast_emod]; congr 1; omega, by have := Nat.mod_lt bit (show 0 < 8 * n - 31 by omega); omega⟩
  rw [hf]
  clear hf
  have hN : N = n := by have := HN.out; omega
  have HNN := Lib.hid hN
  clear hN HN
  have hfi : (f : Int) + 32 ≤ 8 * n := by omega
  have hNi : (N : Int) = n := by have := HNN.out; omega
  have HNI := Lib.hid hNi
  have hNl : (n : Int) ≤ N := by omega
  clear hNi
  go_loopw [9] (fun i wr => ∃ (k : Nat) (cs : List Int), k ≤ 32 ∧ i = .int .i64 k ∧ Hid (OwnI .u8 5 w1.heap.size wr (some ⟨g, 0, none⟩) N c' cs) ∧ Hid (Crc.Burst (Crc.inv 0) (nats xs) f u k (nats cs)) ∧ Hid (Byt cs) ∧ Hid (Below w1.heap.size w1 wr)) (fun i _ => 32 - (intOf i).toNat)
  case atStart => exact ⟨0, xs, by omega, rfl, Lib.hid (by have := HW.out; simpa using this), Crc.burst_start _ _ _ _ (nats_lt HA.out.byt), HA.out.byt, HL⟩
  case round =>
    obtain ⟨k, cs, hk, rfl, HO, HBu, HBy, HBl⟩ := hrel
    by_cases hlt : k < 32
    · have hk32 : (k : Int) < 32 := by omega
      have hbit : bits .and .u32 ((u : Int) / 2 ^ k) 1 = ((u / 2 ^ k % 2 : Nat) : Int) := and1_c (u / 2 ^ k) _ (Nat.lt_of_le_of_lt (Nat.div_le_self _ _) hu') (by push_cast; rfl)
      by_cases hone : u / 2 ^ k % 2 = 1
      · rw [hone] at hbit
        have hj : (f + k) / 8 < N := by have := HNN.out; omega
        obtain ⟨x, hx⟩ : ∃ x, cs[(f + k) / 8]? = some x := ⟨cs[(f + k) / 8]'(by have := HO.out.len; omega), by simp⟩
        have hxb := HBy.out x (List.mem_of_getElem? hx)
        obtain ⟨x, rfl⟩ := Int.eq_ofNat_of_zero_le hxb.1
        have hx8 : x < 256 := by omega
        have hcell := HO.out.cellAt hx
        have hfr := HO.out.frozenAt ((f + k) / 8)
        have hxor := flip_val x ((f + k) % 8) hx8 (by omega)
        have HX := Lib.hid hx
        clear hx hxb
        go_wp2_with fail
        go_roundw
        case rel =>
          refine ⟨k + 1, cs.set ((f + k) / 8) ((x ^^^ 2 ^ ((f + k) % 8) : Nat) : Int), by omega, by go_num, Lib.hid (HO.out.stored _ _), ?_, ?_, Lib.hid (HBl.out.setCell hg1 _)⟩
          · show Crc.Burst _ _ _ _ _ _
            rw [nats_set]
            exact Crc.burst_turn HBu.out hone hlt (by have := HA.out.len; simp [nats]; omega) (by simp [nats, HX.out])
          · show Byt _
            intro y hy
            rcases List.mem_or_eq_of_mem_set hy with hm | rfl
            · exact HBy.out y hm
            · have h8 : 2 ^ ((f + k) % 8) < 2 ^ 8 := Nat.pow_lt_pow_right (by omega) (by omega)
              have := Nat.xor_lt_two_pow (n := 8) (x := x) (y := 2 ^ ((f + k) % 8)) (by omega) h8
              omega
        case measure => simp [intOf]; omega
      · have hz : u / 2 ^ k % 2 = 0 := by omega
        rw [hz] at hbit
        go_wp2_with fail
        go_roundw
        case rel => exact ⟨k + 1, cs, by omega, by go_num, HO, Lib.hid (Crc.burst_skip HBu.out hone), HBy, HBl⟩
        case measure => simp [intOf]; omega
    · obtain rfl : k = 32 := by omega
      have hne := Crc.burst_end HBu.out hu' (by omega)
      have hnei : (((Crc.more 0 (nats cs) : Nat) : Int) != ((Crc.more 0 (nats xs) : Nat) : Int)) = true := by
        rw [beq_eq_false_iff_ne] at hne; rw [bne_iff_ne]; omega
      clear hne
      go_wp2_with fail
      refine (HS.out (some ⟨g, 0, none⟩) N c' cs _ (own_inB HO.out HBy.out) (by have := HNN.out; omega)).mono ?_
      rintro e w7 ⟨rfl, u7⟩
      go_wp2_with fail
      refine (HS.out A n ca xs _ (((HA.out.up U1.out).up HBl.out).up u7) hn).mono ?_
      rintro e w8 ⟨rfl, u8⟩
      go_wp2_with fail
      go_ret
      exact ⟨rfl, (U1.out.trans HBl.out).trans (u7.trans u8)⟩
end Go.Proofs.Ytbaojdfgmiphhaa
