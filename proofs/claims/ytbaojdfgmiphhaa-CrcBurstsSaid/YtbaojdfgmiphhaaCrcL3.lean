import Derived.Test.YtbaojdfgmiphhaaCrcL2
namespace Go.Proofs.Ytbaojdfgmiphhaa
open Go Go.RowKit
set_option linter.unusedVariables false
set_option maxHeartbeats 2000000 in
/-- The law behind the two tests, for whatever numbers it has then. -/
theorem law_long (hS : CSum) (hZ : CZeros) (x y z : Nat) (a b : Int) (w : World) (hx : x < 4294967296) (hy : y < 4294967296) (hz : z < 4294967296) :
    Calls Try.prog 6 #[.int .u32 (x : Int), .int .u32 (y : Int), .int .u32 (z : Int), .int .i64 a, .int .i64 b] w (True2 w) := by
  have HS := Lib.hid hS
  have HZ := Lib.hid hZ
  clear hS hZ
  have key : ∀ (M N S : Int) (p q : Nat), M.toNat = p → N.toNat = q → S = M + N → 0 ≤ M → M ≤ 2305843009213693952 → 0 ≤ N → N ≤ 2305843009213693952 →
      Hid ((∀ (s : Nat) W, s < 4294967296 → Calls Try.prog 14 #[.int .u32 (s : Int), .int .i64 M] W (U32 (Crc.zeros s p) W)) ∧ (∀ (s : Nat) W, s < 4294967296 → Calls Try.prog 14 #[.int .u32 (s : Int), .int .i64 N] W (U32 (Crc.zeros s q) W))
       ∧ (∀ W, Calls Try.prog 14 #[.int .u32 ((Crc.zeros x q : Nat) : Int), .int .i64 M] W (U32 (Crc.zeros (Crc.zeros x p) q) W))
       ∧ (∀ W, Calls Try.prog 14 #[.int .u32 (x : Int), .int .i64 S] W (U32 (Crc.zeros (Crc.zeros x p) q) W))
       ∧ bits .xor .u32 ((Crc.zeros x p : Nat) : Int) ((Crc.zeros y p : Nat) : Int) = ((Crc.zeros x p ^^^ Crc.zeros y p : Nat) : Int)
       ∧ bits .xor .u32 ((Crc.zeros (x ^^^ z) p : Nat) : Int) ((Crc.zeros (y ^^^ z) p : Nat) : Int) = ((Crc.zeros x p ^^^ Crc.zeros y p : Nat) : Int)
       ∧ (((Crc.zeros x p ^^^ Crc.zeros y p : Nat) : Int) == 0) = ((x : Int) == (y : Int))) := by
    rintro M N S p q rfl rfl rfl m0 m1 n0 n1
    refine ⟨fun s W hs => HZ.out s M W hs (by omega) (by omega), fun s W hs => HZ.out s N W hs (by omega) (by omega), fun W => (HZ.out _ M W (Crc.zeros_lt hx) (by omega) (by omega)).mono fun _ _ h => h.to (Crc.zeros_comm _ _ _),
      fun W => (HZ.out x (M + N) W hx (by omega) (by omega)).mono fun _ _ h => h.to (by rw [Crc.zeros_add]; congr 1; omega), xor_c _ _ _ _ (Crc.zeros_lt hx) (Crc.zeros_lt hy) rfl rfl, ?_, ?_⟩
    · rw [← Crc.zeros_apart x y z]
      exact xor_c _ _ _ _ (Crc.zeros_lt (Nat.xor_lt_two_pow (n := 32) (by omega) (by omega))) (Crc.zeros_lt (Nat.xor_lt_two_pow (n := 32) (by omega) (by omega))) rfl rfl
    · have h1 := Crc.zeros_same (n := M.toNat) hx hy
      rw [Bool.eq_iff_iff, beq_iff_eq, beq_iff_eq] at h1 ⊢
      omega
  have KEY := Lib.hid key
  clear key
  have xz := xor_c x z x z hx hz rfl rfl
  have yz := xor_c y z y z hy hz rfl rfl
  have lxz : x ^^^ z < 4294967296 := Nat.xor_lt_two_pow (n := 32) (by omega) (by omega)
  have lyz : y ^^^ z < 4294967296 := Nat.xor_lt_two_pow (n := 32) (by omega) (by omega)
  have hA : a < 0 ∨ (0 ≤ a ∧ 2305843009213693952 < a) ∨ (0 ≤ a ∧ a ≤ 2305843009213693952) := by omega
  have hB : b < 0 ∨ (0 ≤ b ∧ 2305843009213693952 < b) ∨ (0 ≤ b ∧ b ≤ 2305843009213693952) := by omega
  rcases hA with ha | ⟨ha0, ha⟩ | ⟨ha0, ha⟩
  · rcases hB with hb | ⟨hb0, hb⟩ | ⟨hb0, hb⟩
    · have K := KEY.out 5 7 12 5 7 rfl rfl rfl (by omega) (by omega) (by omega) (by omega)
      clear KEY
      obtain ⟨c1, c2, c3, c4, e1, e2, e3⟩ := K.out
      have C1 := Lib.hid c1
      have C2 := Lib.hid c2
      have C3 := Lib.hid c3
      have C4 := Lib.hid c4
      clear c1 c2 c3 c4 K
      go_enter Try.func6, Try.ntmps6
      go_wp2_with fail
      refine (C1.out x _ hx).mono ?_
      rintro e w1 ⟨rfl, u1⟩
      go_wp2_with fail
      refine (C1.out y _ hy).mono ?_
      rintro e w2 ⟨rfl, u2⟩
      have U2 := Lib.hid (u1.trans u2)
      clear u1 u2
      go_wp2_with fail
      refine (C1.out (x ^^^ z) _ lxz).mono ?_
      rintro e w3 ⟨rfl, u3⟩
      go_wp2_with fail
      refine (C1.out (y ^^^ z) _ lyz).mono ?_
      rintro e w4 ⟨rfl, u4⟩
      have U4 := Lib.hid (U2.out.trans (u3.trans u4))
      clear u3 u4
      go_wp2_with fail
      refine (C1.out x _ hx).mono ?_
      rintro e w5 ⟨rfl, u5⟩
      go_wp2_with fail
      refine (C2.out _ _ (Crc.zeros_lt hx)).mono ?_
      rintro e w6 ⟨rfl, u6⟩
      have U6 := Lib.hid (U4.out.trans (u5.trans u6))
      clear u5 u6
      go_wp2_with fail
      refine (crc_ans HS.out _).mono ?_
      rintro e w7 ⟨rfl, u7⟩
      go_wp2_with fail
      refine (C2.out x _ hx).mono ?_
      rintro e w8 ⟨rfl, u8⟩
      have U8 := Lib.hid (U6.out.trans (u7.trans u8))
      clear u7 u8
      go_wp2_with fail
      refine (C3.out _).mono ?_
      rintro e w9 ⟨rfl, u9⟩
      go_wp2_with fail
      refine (C4.out _).mono ?_
      rintro e w10 ⟨rfl, u10⟩
      go_wp2_with fail
      go_ret
      exact ⟨rfl, U8.out.trans (u9.trans u10)⟩
    · have K := KEY.out 5 7 12 5 7 rfl rfl rfl (by omega) (by omega) (by omega) (by omega)
      clear KEY
      obtain ⟨c1, c2, c3, c4, e1, e2, e3⟩ := K.out
      have C1 := Lib.hid c1
      have C2 := Lib.hid c2
      have C3 := Lib.hid c3
      have C4 := Lib.hid c4
      clear c1 c2 c3 c4 K
      go_enter Try.func6, Try.ntmps6
      go_wp2_with fail
      refine (C1.out x _ hx).mono ?_
      rintro e w1 ⟨rfl, u1⟩
      go_wp2_with fail
      refine (C1.out y _ hy).mono ?_
      rintro e w2 ⟨rfl, u2⟩
      have U2 := Lib.hid (u1.trans u2)
      clear u1 u2
      go_wp2_with fail
      refine (C1.out (x ^^^ z) _ lxz).mono ?_
      rintro e w3 ⟨rfl, u3⟩
      go_wp2_with fail
      refine (C1.out (y ^^^ z) _ lyz).mono ?_
      rintro e w4 ⟨rfl, u4⟩
      have U4 := Lib.hid (U2.out.trans (u3.trans u4))
      clear u3 u4
      go_wp2_with fail
      refine (C1.out x _ hx).mono ?_
      rintro e w5 ⟨rfl, u5⟩
      go_wp2_with fail
      refine (C2.out _ _ (Crc.zeros_lt hx)).mono ?_
      rintro e w6 ⟨rfl, u6⟩
      have U6 := Lib.hid (U4.out.trans (u5.trans u6))
      clear u5 u6
      go_wp2_with fail
      refine (crc_ans HS.out _).mono ?_
      rintro e w7 ⟨rfl, u7⟩
      go_wp2_with fail
      refine (C2.out x _ hx).mono ?_
      rintro e w8 ⟨rfl, u8⟩
      have U8 := Lib.hid (U6.out.trans (u7.trans u8))
      clear u7 u8
      go_wp2_with fail
      refine (C3.out _).mono ?_
      rintro e w9 ⟨rfl, u9⟩
      go_wp2_with fail
      refine (C4.out _).mono ?_
      rintro e w10 ⟨rfl, u10⟩
      go_wp2_with fail
      go_ret
      exact ⟨rfl, U8.out.trans (u9.trans u10)⟩
    · have K := KEY.out 5 b (5 + b) 5 b.toNat rfl rfl rfl (by omega) (by omega) (by omega) (by omega)
      clear KEY
      obtain ⟨c1, c2, c3, c4, e1, e2, e3⟩ := K.out
      have C1 := Lib.hid c1
      have C2 := Lib.hid c2
      have C3 := Lib.hid c3
      have C4 := Lib.hid c4
      clear c1 c2 c3 c4 K
      go_enter Try.func6, Try.ntmps6
      go_wp2_with fail
      refine (C1.out x _ hx).mono ?_
      rintro e w1 ⟨rfl, u1⟩
      go_wp2_with fail
      refine (C1.out y _ hy).mono ?_
      rintro e w2 ⟨rfl, u2⟩
      have U2 := Lib.hid (u1.trans u2)
      clear u1 u2
      go_wp2_with fail
      refine (C1.out (x ^^^ z) _ lxz).mono ?_
      rintro e w3 ⟨rfl, u3⟩
      go_wp2_with fail
      refine (C1.out (y ^^^ z) _ lyz).mono ?_
      rintro e w4 ⟨rfl, u4⟩
      have U4 := Lib.hid (U2.out.trans (u3.trans u4))
      clear u3 u4
      go_wp2_with fail
      refine (C1.out x _ hx).mono ?_
      rintro e w5 ⟨rfl, u5⟩
      go_wp2_with fail
      refine (C2.out _ _ (Crc.zeros_lt hx)).mono ?_
      rintro e w6 ⟨rfl, u6⟩
      have U6 := Lib.hid (U4.out.trans (u5.trans u6))
      clear u5 u6
      go_wp2_with fail
      refine (crc_ans HS.out _).mono ?_
      rintro e w7 ⟨rfl, u7⟩
      go_wp2_with fail
      refine (C2.out x _ hx).mono ?_
      rintro e w8 ⟨rfl, u8⟩
      have U8 := Lib.hid (U6.out.trans (u7.trans u8))
      clear u7 u8
      go_wp2_with fail
      refine (C3.out _).mono ?_
      rintro e w9 ⟨rfl, u9⟩
      go_wp2_with fail
      refine (C4.out _).mono ?_
      rintro e w10 ⟨rfl, u10⟩
      go_wp2_with fail
      go_ret
      exact ⟨rfl, U8.out.trans (u9.trans u10)⟩
  · rcases hB with hb | ⟨hb0, hb⟩ | ⟨hb0, hb⟩
    · have K := KEY.out 5 7 12 5 7 rfl rfl rfl (by omega) (by omega) (by omega) (by omega)
      clear KEY
      obtain ⟨c1, c2, c3, c4, e1, e2, e3⟩ := K.out
      have C1 := Lib.hid c1
      have C2 := Lib.hid c2
      have C3 := Lib.hid c3
      have C4 := Lib.hid c4
      clear c1 c2 c3 c4 K
      go_enter Try.func6, Try.ntmps6
      go_wp2_with fail
      refine (C1.out x _ hx).mono ?_
      rintro e w1 ⟨rfl, u1⟩
      go_wp2_with fail
      refine (C1.out y _ hy).mono ?_
      rintro e w2 ⟨rfl, u2⟩
      have U2 := Lib.hid (u1.trans u2)
      clear u1 u2
      go_wp2_with fail
      refine (C1.out (x ^^^ z) _ lxz).mono ?_
      rintro e w3 ⟨rfl, u3⟩
      go_wp2_with fail
      refine (C1.out (y ^^^ z) _ lyz).mono ?_
      rintro e w4 ⟨rfl, u4⟩
      have U4 := Lib.hid (U2.out.trans (u3.trans u4))
      clear u3 u4
      go_wp2_with fail
      refine (C1.out x _ hx).mono ?_
      rintro e w5 ⟨rfl, u5⟩
      go_wp2_with fail
      refine (C2.out _ _ (Crc.zeros_lt hx)).mono ?_
      rintro e w6 ⟨rfl, u6⟩
      have U6 := Lib.hid (U4.out.trans (u5.trans u6))
      clear u5 u6
      go_wp2_with fail
      refine (crc_ans HS.out _).mono ?_
      rintro e w7 ⟨rfl, u7⟩
      go_wp2_with fail
      refine (C2.out x _ hx).mono ?_
      rintro e w8 ⟨rfl, u8⟩
      have U8 := Lib.hid (U6.out.trans (u7.trans u8))
      clear u7 u8
      go_wp2_with fail
      refine (C3.out _).mono ?_
      rintro e w9 ⟨rfl, u9⟩
      go_wp2_with fail
      refine (C4.out _).mono ?_
      rintro e w10 ⟨rfl, u10⟩
      go_wp2_with fail
      go_ret
      exact ⟨rfl, U8.out.trans (u9.trans u10)⟩
    · have K := KEY.out 5 7 12 5 7 rfl rfl rfl (by omega) (by omega) (by omega) (by omega)
      clear KEY
      obtain ⟨c1, c2, c3, c4, e1, e2, e3⟩ := K.out
      have C1 := Lib.hid c1
      have C2 := Lib.hid c2
      have C3 := Lib.hid c3
      have C4 := Lib.hid c4
      clear c1 c2 c3 c4 K
      go_enter Try.func6, Try.ntmps6
      go_wp2_with fail
      refine (C1.out x _ hx).mono ?_
      rintro e w1 ⟨rfl, u1⟩
      go_wp2_with fail
      refine (C1.out y _ hy).mono ?_
      rintro e w2 ⟨rfl, u2⟩
      have U2 := Lib.hid (u1.trans u2)
      clear u1 u2
      go_wp2_with fail
      refine (C1.out (x ^^^ z) _ lxz).mono ?_
      rintro e w3 ⟨rfl, u3⟩
      go_wp2_with fail
      refine (C1.out (y ^^^ z) _ lyz).mono ?_
      rintro e w4 ⟨rfl, u4⟩
      have U4 := Lib.hid (U2.out.trans (u3.trans u4))
      clear u3 u4
      go_wp2_with fail
      refine (C1.out x _ hx).mono ?_
      rintro e w5 ⟨rfl, u5⟩
      go_wp2_with fail
      refine (C2.out _ _ (Crc.zeros_lt hx)).mono ?_
      rintro e w6 ⟨rfl, u6⟩
      have U6 := Lib.hid (U4.out.trans (u5.trans u6))
      clear u5 u6
      go_wp2_with fail
      refine (crc_ans HS.out _).mono ?_
      rintro e w7 ⟨rfl, u7⟩
      go_wp2_with fail
      refine (C2.out x _ hx).mono ?_
      rintro e w8 ⟨rfl, u8⟩
      have U8 := Lib.hid (U6.out.trans (u7.trans u8))
      clear u7 u8
      go_wp2_with fail
      refine (C3.out _).mono ?_
      rintro e w9 ⟨rfl, u9⟩
      go_wp2_with fail
      refine (C4.out _).mono ?_
      rintro e w10 ⟨rfl, u10⟩
      go_wp2_with fail
      go_ret
      exact ⟨rfl, U8.out.trans (u9.trans u10)⟩
    · have K := KEY.out 5 b (5 + b) 5 b.toNat rfl rfl rfl (by omega) (by omega) (by omega) (by omega)
      clear KEY
      obtain ⟨c1, c2, c3, c4, e1, e2, e3⟩ := K.out
      have C1 := Lib.hid c1
      have C2 := Lib.hid c2
      have C3 := Lib.hid c3
      have C4 := Lib.hid c4
      clear c1 c2 c3 c4 K
      go_enter Try.func6, Try.ntmps6
      go_wp2_with fail
      refine (C1.out x _ hx).mono ?_
      rintro e w1 ⟨rfl, u1⟩
      go_wp2_with fail
      refine (C1.out y _ hy).mono ?_
      rintro e w2 ⟨rfl, u2⟩
      have U2 := Lib.hid (u1.trans u2)
      clear u1 u2
      go_wp2_with fail
      refine (C1.out (x ^^^ z) _ lxz).mono ?_
      rintro e w3 ⟨rfl, u3⟩
      go_wp2_with fail
      refine (C1.out (y ^^^ z) _ lyz).mono ?_
      rintro e w4 ⟨rfl, u4⟩
      have U4 := Lib.hid (U2.out.trans (u3.trans u4))
      clear u3 u4
      go_wp2_with fail
      refine (C1.out x _ hx).mono ?_
      rintro e w5 ⟨rfl, u5⟩
      go_wp2_with fail
      refine (C2.out _ _ (Crc.zeros_lt hx)).mono ?_
      rintro e w6 ⟨rfl, u6⟩
      have U6 := Lib.hid (U4.out.trans (u5.trans u6))
      clear u5 u6
      go_wp2_with fail
      refine (crc_ans HS.out _).mono ?_
      rintro e w7 ⟨rfl, u7⟩
      go_wp2_with fail
      refine (C2.out x _ hx).mono ?_
      rintro e w8 ⟨rfl, u8⟩
      have U8 := Lib.hid (U6.out.trans (u7.trans u8))
      clear u7 u8
      go_wp2_with fail
      refine (C3.out _).mono ?_
      rintro e w9 ⟨rfl, u9⟩
      go_wp2_with fail
      refine (C4.out _).mono ?_
      rintro e w10 ⟨rfl, u10⟩
      go_wp2_with fail
      go_ret
      exact ⟨rfl, U8.out.trans (u9.trans u10)⟩
  · rcases hB with hb | ⟨hb0, hb⟩ | ⟨hb0, hb⟩
    · have K := KEY.out a 7 (a + 7) a.toNat 7 rfl rfl rfl (by omega) (by omega) (by omega) (by omega)
      clear KEY
      obtain ⟨c1, c2, c3, c4, e1, e2, e3⟩ := K.out
      have C1 := Lib.hid c1
      have C2 := Lib.hid c2
      have C3 := Lib.hid c3
      have C4 := Lib.hid c4
      clear c1 c2 c3 c4 K
      go_enter Try.func6, Try.ntmps6
      go_wp2_with fail
      refine (C1.out x _ hx).mono ?_
      rintro e w1 ⟨rfl, u1⟩
      go_wp2_with fail
      refine (C1.out y _ hy).mono ?_
      rintro e w2 ⟨rfl, u2⟩
      have U2 := Lib.hid (u1.trans u2)
      clear u1 u2
      go_wp2_with fail
      refine (C1.out (x ^^^ z) _ lxz).mono ?_
      rintro e w3 ⟨rfl, u3⟩
      go_wp2_with fail
      refine (C1.out (y ^^^ z) _ lyz).mono ?_
      rintro e w4 ⟨rfl, u4⟩
      have U4 := Lib.hid (U2.out.trans (u3.trans u4))
      clear u3 u4
      go_wp2_with fail
      refine (C1.out x _ hx).mono ?_
      rintro e w5 ⟨rfl, u5⟩
      go_wp2_with fail
      refine (C2.out _ _ (Crc.zeros_lt hx)).mono ?_
      rintro e w6 ⟨rfl, u6⟩
      have U6 := Lib.hid (U4.out.trans (u5.trans u6))
      clear u5 u6
      go_wp2_with fail
      refine (crc_ans HS.out _).mono ?_
      rintro e w7 ⟨rfl, u7⟩
      go_wp2_with fail
      refine (C2.out x _ hx).mono ?_
      rintro e w8 ⟨rfl, u8⟩
      have U8 := Lib.hid (U6.out.trans (u7.trans u8))
      clear u7 u8
      go_wp2_with fail
      refine (C3.out _).mono ?_
      rintro e w9 ⟨rfl, u9⟩
      go_wp2_with fail
      refine (C4.out _).mono ?_
      rintro e w10 ⟨rfl, u10⟩
      go_wp2_with fail
      go_ret
      exact ⟨rfl, U8.out.trans (u9.trans u10)⟩
    · have K := KEY.out a 7 (a + 7) a.toNat 7 rfl rfl rfl (by omega) (by omega) (by omega) (by omega)
      clear KEY
      obtain ⟨c1, c2, c3, c4, e1, e2, e3⟩ := K.out
      have C1 := Lib.hid c1
      have C2 := Lib.hid c2
      have C3 := Lib.hid c3
      have C4 := Lib.hid c4
      clear c1 c2 c3 c4 K
      go_enter Try.func6, Try.ntmps6
      go_wp2_with fail
      refine (C1.out x _ hx).mono ?_
      rintro e w1 ⟨rfl, u1⟩
      go_wp2_with fail
      refine (C1.out y _ hy).mono ?_
      rintro e w2 ⟨rfl, u2⟩
      have U2 := Lib.hid (u1.trans u2)
      clear u1 u2
      go_wp2_with fail
      refine (C1.out (x ^^^ z) _ lxz).mono ?_
      rintro e w3 ⟨rfl, u3⟩
      go_wp2_with fail
      refine (C1.out (y ^^^ z) _ lyz).mono ?_
      rintro e w4 ⟨rfl, u4⟩
      have U4 := Lib.hid (U2.out.trans (u3.trans u4))
      clear u3 u4
      go_wp2_with fail
      refine (C1.out x _ hx).mono ?_
      rintro e w5 ⟨rfl, u5⟩
      go_wp2_with fail
      refine (C2.out _ _ (Crc.zeros_lt hx)).mono ?_
      rintro e w6 ⟨rfl, u6⟩
      have U6 := Lib.hid (U4.out.trans (u5.trans u6))
      clear u5 u6
      go_wp2_with fail
      refine (crc_ans HS.out _).mono ?_
      rintro e w7 ⟨rfl, u7⟩
      go_wp2_with fail
      refine (C2.out x _ hx).mono ?_
      rintro e w8 ⟨rfl, u8⟩
      have U8 := Lib.hid (U6.out.trans (u7.trans u8))
      clear u7 u8
      go_wp2_with fail
      refine (C3.out _).mono ?_
      rintro e w9 ⟨rfl, u9⟩
      go_wp2_with fail
      refine (C4.out _).mono ?_
      rintro e w10 ⟨rfl, u10⟩
      go_wp2_with fail
      go_ret
      exact ⟨rfl, U8.out.trans (u9.trans u10)⟩
    · have K := KEY.out a b (a + b) a.toNat b.toNat rfl rfl rfl (by omega) (by omega) (by omega) (by omega)
      clear KEY
      obtain ⟨c1, c2, c3, c4, e1, e2, e3⟩ := K.out
      have C1 := Lib.hid c1
      have C2 := Lib.hid c2
      have C3 := Lib.hid c3
      have C4 := Lib.hid c4
      clear c1 c2 c3 c4 K
      go_enter Try.func6, Try.ntmps6
      go_wp2_with fail
      refine (C1.out x _ hx).mono ?_
      rintro e w1 ⟨rfl, u1⟩
      go_wp2_with fail
      refine (C1.out y _ hy).mono ?_
      rintro e w2 ⟨rfl, u2⟩
      have U2 := Lib.hid (u1.trans u2)
      clear u1 u2
      go_wp2_with fail
      refine (C1.out (x ^^^ z) _ lxz).mono ?_
      rintro e w3 ⟨rfl, u3⟩
      go_wp2_with fail
      refine (C1.out (y ^^^ z) _ lyz).mono ?_
      rintro e w4 ⟨rfl, u4⟩
      have U4 := Lib.hid (U2.out.trans (u3.trans u4))
      clear u3 u4
      go_wp2_with fail
      refine (C1.out x _ hx).mono ?_
      rintro e w5 ⟨rfl, u5⟩
      go_wp2_with fail
      refine (C2.out _ _ (Crc.zeros_lt hx)).mono ?_
      rintro e w6 ⟨rfl, u6⟩
      have U6 := Lib.hid (U4.out.trans (u5.trans u6))
      clear u5 u6
      go_wp2_with fail
      refine (crc_ans HS.out _).mono ?_
      rintro e w7 ⟨rfl, u7⟩
      go_wp2_with fail
      refine (C2.out x _ hx).mono ?_
      rintro e w8 ⟨rfl, u8⟩
      have U8 := Lib.hid (U6.out.trans (u7.trans u8))
      clear u7 u8
      go_wp2_with fail
      refine (C3.out _).mono ?_
      rintro e w9 ⟨rfl, u9⟩
      go_wp2_with fail
      refine (C4.out _).mono ?_
      rintro e w10 ⟨rfl, u10⟩
      go_wp2_with fail
      go_ret
      exact ⟨rfl, U8.out.trans (u9.trans u10)⟩
end Go.Proofs.Ytbaojdfgmiphhaa
