import Derived.Test.YtbaojdfgmiphhaaCrcL
namespace Go.Proofs.Ytbaojdfgmiphhaa
open Go Go.RowKit
set_option linter.unusedVariables false
set_option maxHeartbeats 800000 in
theorem law_mores (hS : CSum) (hM : CMore) (s : Nat) (A B : Option Addr) (na ca nb cb : Nat) (xs ys : List Int) (w : World) (hs : s < 4294967296) (ha : InB w A na ca xs) (hb : InB w B nb cb ys) (hl : na ≤ 1048576) (hl' : nb ≤ 1048576) :
    Calls Try.prog 4 #[.int .u32 (s : Int), .slice A na ca, .slice B nb cb] w (True2 w) := by
  have HS := Lib.hid hS
  have HM := Lib.hid hM
  have HA := Lib.hid ha
  have HB := Lib.hid hb
  clear hS hM ha hb
  have ml := Crc.more_lt hs (nats_lt HA.out.byt)
  have LX := Lib.hid (Crc.more_more s (nats xs) (nats ys))
  go_enter Try.func4, Try.ntmps4
  go_wp2_with (first
   | (at_builtin; refine wpList_appendI rfl (.tmp 8) (.tmp 9) 22 rfl .u8 w.heap.size 5 1 Try.underlying22 info5 (some ⟨w.heap.size, 0, none⟩) 0 0 [] rfl (ownI_new _ _ _) A na ca xs rfl HA.out.len (HA.out.cells.alloc _) (by omega) (by omega) (by simp) ((Below.refl _ _).alloc (Nat.le_refl _) _) ?_; intro A' N c' w5 HN HW HL hsz)
   | (at_builtin; refine wpList_appendI rfl (.tmp 10) (.tmp 11) 22 rfl .u8 w.heap.size 5 1 Try.underlying22 info5 A' N c' ([] ++ xs) rfl HW.out B nb cb ys rfl HB.out.len ((HB.out.up HL.out).cells) (by have := HN.out; omega) (by have := HN.out; omega) hsz HL.out ?_; intro A2 N2 c2 w6 HN2 HW2 HL2 hsz2))
  have HI := Lib.hid (own_inB HW2.out (HA.out.byt.append HB.out.byt))
  have hN2 : N2 ≤ 2097152 := by have := HN.out; have := HN2.out; omega
  have U0 : Hid (Up w w6) := HL2
  refine (crc_ans HS.out _).mono ?_
  rintro e w1 ⟨rfl, u1⟩
  have U1 := Lib.hid u1
  clear u1
  go_wp2_with fail
  refine (HM.out A na ca xs s _ hs ((HA.out.up U0.out).up U1.out) (by omega)).mono ?_
  rintro e w2 ⟨rfl, u2⟩
  have U2 := Lib.hid (U1.out.trans u2)
  clear u2
  go_wp2_with fail
  refine (rmoreB hs ((HA.out.up U0.out).up U2.out) (by omega)).mono ?_
  rintro e w3 ⟨rfl, rfl⟩
  go_wp2_with fail
  refine (HM.out A na ca xs s _ hs ((HA.out.up U0.out).up U2.out) (by omega)).mono ?_
  rintro e w3 ⟨rfl, u3⟩
  have U3 := Lib.hid (U2.out.trans u3)
  clear u3
  go_wp2_with fail
  refine (HM.out B nb cb ys _ _ ml ((HB.out.up U0.out).up U3.out) (by omega)).mono ?_
  rintro e w4 ⟨rfl, u4⟩
  have U4 := Lib.hid (U3.out.trans u4)
  clear u4
  go_wp2_with fail
  refine (HM.out A2 N2 c2 ([] ++ xs ++ ys) s _ hs (HI.out.up U4.out) (by omega)).mono ?_
  rintro e w7 ⟨rfl, u7⟩
  have e7 : Crc.more s (nats ([] ++ xs ++ ys)) = Crc.more (Crc.more s (nats xs)) (nats ys) := by rw [LX.out, List.nil_append, nats_append]
  rw [e7]
  clear e7
  go_wp2_with fail
  go_ret
  exact ⟨rfl, (U0.out.trans U4.out).trans u7⟩
set_option maxHeartbeats 800000 in
theorem law_zeros (hS : CSum) (hZ : CZeros) (s n : Nat) (m : Int) (w : World) (hs : s < 4294967296) (hn : n < 65536) (hm1 : -9223372036854775808 ≤ m) (hm2 : m ≤ 9223372036854775807) :
    Calls Try.prog 5 #[.int .u32 (s : Int), .int .u16 (n : Int), .int .i64 m] w (True2 w) := by
  have HS := Lib.hid hS
  have HZ := Lib.hid hZ
  clear hS hZ
  have hn3 : n % 3000 < 3000 := by omega
  have c1 : ∀ W, Calls Try.prog 14 #[.int .u32 (s : Int), .int .i64 ((n : Int) % 3000)] W (U32 (Crc.zeros s (n % 3000)) W) := fun W =>
    (HZ.out s ((n : Int) % 3000) W hs (by omega) (by omega)).mono fun _ _ h => h.to (by congr 1)
  have c2 : ∀ W, Calls Try.prog 15 #[.int .u32 (s : Int), .int .i64 ((n : Int) % 3000)] W (U32 (Crc.zeros s (n % 3000)) W) := fun W => by
    have := rzeros s (n % 3000) W hs (by omega)
    rwa [show ((n % 3000 : Nat) : Int) = (n : Int) % 3000 by omega] at this
  have C1 := Lib.hid c1
  have C2 := Lib.hid c2
  clear c1 c2
  by_cases hm : 0 < m
  · go_enter Try.func5, Try.ntmps5
    go_wp2_with fail
    refine (crc_ans HS.out _).mono ?_
    rintro e w1 ⟨rfl, u1⟩
    go_wp2_with fail
    refine (C1.out _).mono ?_
    rintro e w2 ⟨rfl, u2⟩
    go_wp2_with fail
    refine (C2.out _).mono ?_
    rintro e w3 ⟨rfl, u3⟩
    go_wp2_with fail
    go_ret
    exact ⟨rfl, (u1.trans u2).trans u3⟩
  · have hm' : m ≤ 0 := by omega
    have c3 : ∀ W, Calls Try.prog 14 #[.int .u32 (s : Int), .int .i64 m] W (U32 s W) := fun W =>
      (HZ.out s m W hs hm1 hm2).mono fun _ _ h => h.to (by rw [show m.toNat = 0 by omega]; exact Crc.zeros_zero s)
    have C3 := Lib.hid c3
    clear c3 hm
    go_enter Try.func5, Try.ntmps5
    go_wp2_with fail
    refine (crc_ans HS.out _).mono ?_
    rintro e w1 ⟨rfl, u1⟩
    go_wp2_with fail
    refine (C1.out _).mono ?_
    rintro e w2 ⟨rfl, u2⟩
    go_wp2_with fail
    refine (C2.out _).mono ?_
    rintro e w3 ⟨rfl, u3⟩
    go_wp2_with fail
    refine (C3.out _).mono ?_
    rintro e w4 ⟨rfl, u4⟩
    go_wp2_with fail
    go_ret
    exact ⟨rfl, ((u1.trans u2).trans u3).trans u4⟩
end Go.Proofs.Ytbaojdfgmiphhaa
