import Derived.Test.YtgikgcepeniekaaCk12
import Derived.Test.YtgikgcepeniekaaCk31
namespace Go.Proofs.Ytgikgcepeniekaa
open Go Go.RowKit
set_option linter.unusedVariables false
set_option linter.unusedSimpArgs false
/-! The reference's ToHello. -/
def NumPost (k : Nat) (v : Int) (w : World) (e : Ending) (w' : World) : Prop := e = .returned (.int .i64 v) ∧ Hid (Up w w')
/-- What is read at a place. -/
def nmA (xs : List Int) (a s : Nat) : Int := num 0 ((xs.drop a).take s)
theorem nmA_bd {xs : List Int} {a s : Nat} (hb : Byt xs) (h : a + s ≤ xs.length) : 0 ≤ nmA xs a s ∧ nmA xs a s < 256 ^ s := by
  have := num_bd ((xs.drop a).take s) ((hb.drop _).take _)
  rwa [show ((xs.drop a).take s).length = s by simp; omega] at this
theorem rnumI (A : Option Addr) (m c a s : Nat) (xs : List Int) (w : World) (h : InB w A m c xs) (hk : m ≤ 140737488355328) (ha : a + s ≤ m) (hs1 : 1 ≤ s) (hs8 : s ≤ 7) :
    Calls Try.prog 42 #[.slice A m c, .int .i64 (a : Int), .int .i64 (s : Int)] w fun e w' => ∃ v, e = .returned (.int .i64 v) ∧ Hid (v = nmA xs a s) ∧ Hid (0 ≤ v ∧ v < 256 ^ s) ∧ Hid (Up w w') :=
  (rnum_ok A m c a s xs w h hk ha hs1 hs8).mono fun e w' ⟨he, hu⟩ => ⟨_, he, Lib.hid rfl, Lib.hid (nmA_bd h.byt (by rw [h.len]; exact ha)), Lib.hid hu⟩
theorem nmA_fwd {xs : List Int} {a s : Nat} (hb : Byt xs) (h : a + s ≤ xs.length) : xs.drop a = be (nmA xs a s) s ++ xs.drop (a + s) := by
  have hl : ((xs.drop a).take s).length = s := by simp; omega
  have := be_num ((xs.drop a).take s) ((hb.drop _).take _)
  rw [hl] at this
  unfold nmA
  rw [this, ← List.drop_drop, List.take_append_drop]
theorem nmA_bwd {xs l : List Int} {a s : Nat} {n : Int} (hx : xs.drop a = be n s ++ l) (hn : 0 ≤ n ∧ n < 256 ^ s) : nmA xs a s = n ∧ xs.drop (a + s) = l := by
  unfold nmA
  refine ⟨by rw [hx, List.take_left' (be_length _ _), num_be_eq hn.1 hn.2], by rw [← List.drop_drop, hx, List.drop_left' (be_length _ _)]⟩
/-- What stands at the head. -/
def hdH (xs ck : List Int) : Ck.Hel := ⟨nmA xs 0 4, nmA xs 4 4, nmA xs 8 2, nmA xs 10 2, nmA xs 12 4, ck⟩
theorem hdH_back {xs l : List Int} {h : Ck.Hel} (ho : Ck.HelOk h) (hx : xs = encH0 h ++ l) : (nmA xs 0 4 = h.tag ∧ nmA xs 4 4 = h.win ∧ nmA xs 8 2 = h.out ∧ nmA xs 10 2 = h.inn ∧ nmA xs 12 4 = h.tsn) ∧ xs.drop 16 = l ∧ 16 + l.length = xs.length := by
  have p4 : (256 : Int) ^ 4 = 4294967296 := by decide
  have p2 : (256 : Int) ^ 2 = 65536 := by decide
  have hx0 : xs.drop 0 = be h.tag 4 ++ (be h.win 4 ++ (be h.out 2 ++ (be h.inn 2 ++ (be h.tsn 4 ++ l)))) := by
    rw [List.drop_zero]
    conv => lhs; rw [hx]
    simp [encH0]
  obtain ⟨v1, d1⟩ := nmA_bwd hx0 (by rw [p4]; exact ho.tag)
  obtain ⟨v2, d2⟩ := nmA_bwd d1 (by rw [p4]; exact ho.win)
  obtain ⟨v3, d3⟩ := nmA_bwd d2 (by rw [p2]; exact ho.out)
  obtain ⟨v4, d4⟩ := nmA_bwd d3 (by rw [p2]; exact ho.inn)
  obtain ⟨v5, d5⟩ := nmA_bwd d4 (by rw [p4]; exact ho.tsn)
  refine ⟨⟨v1, v2, v3, v4, v5⟩, d5, ?_⟩
  have := congrArg List.length hx
  simp [encH0, be_length] at this
  omega
theorem hdH_ok {xs ck : List Int} (hb : Byt xs) (h : 16 ≤ xs.length) : Ck.HelOk (hdH xs ck) := by
  have p4 : (256 : Int) ^ 4 = 4294967296 := by decide
  have p2 : (256 : Int) ^ 2 = 65536 := by decide
  exact ⟨p4 ▸ nmA_bd hb (by omega), p4 ▸ nmA_bd hb (by omega), p2 ▸ nmA_bd hb (by omega), p2 ▸ nmA_bd hb (by omega), p4 ▸ nmA_bd hb (by omega)⟩
/-- An Init says what stands at its head. -/
theorem rH_f {fl : Int} {xs : List Int} {h : Ck.Hel} {ack : Bool} (ho : HelloOK 1 fl xs h ack) : h = hdH xs [] ∧ ack = false ∧ 16 ≤ xs.length := by
  obtain ⟨a1, a2, a3, a4, a5, a6⟩ := ho
  obtain rfl : ack = false := by cases ack; rfl; exact absurd a1 (by decide)
  obtain ⟨⟨v1, v2, v3, v4, v5⟩, d, l⟩ := hdH_back (xs := xs) (l := []) a4 (by rw [a6]; simp [encH])
  have hn := (chkH_len a3).2 rfl
  obtain ⟨t1, t2, t3, t4, t5, t6⟩ := h
  simp only at v1 v2 v3 v4 v5 hn
  refine ⟨?_, rfl, by omega⟩
  unfold hdH
  rw [v1, v2, v3, v4, v5, hn]
/-- An InitAck: its cookie stands behind the head. -/
theorem rH_t {fl : Int} {xs : List Int} {h : Ck.Hel} {ack : Bool} (ho : HelloOK 2 fl xs h ack) : ack = true ∧ 20 ≤ xs.length ∧ nmA xs 18 2 = 4 + (h.ck.length : Int) ∧ 20 + h.ck.length ≤ xs.length ∧ h = hdH xs ((xs.drop 20).take h.ck.length) := by
  obtain ⟨a1, a2, a3, a4, a5, a6⟩ := ho
  obtain rfl : ack = true := by cases ack; exact absurd a1 (by decide); rfl
  have hl := (chkH_len a3).1
  obtain ⟨⟨v1, v2, v3, v4, v5⟩, d, l⟩ := hdH_back (xs := xs) (l := be 7 2 ++ (be (4 + (h.ck.length : Int)) 2 ++ padL h.ck)) a4 (by rw [a6]; simp [encH])
  have p2 : (256 : Int) ^ 2 = 65536 := by decide
  obtain ⟨v6, d6⟩ := nmA_bwd d (by decide)
  obtain ⟨v7, d7⟩ := nmA_bwd d6 (by omega)
  simp only [List.length_append, be_length, padL_length] at l
  have e20 : (xs.drop 20).take h.ck.length = h.ck := by
    show (xs.drop (16 + 2 + 2)).take _ = _
    rw [d7]; unfold padL; exact List.take_left' rfl
  refine ⟨rfl, by omega, v7, by omega, ?_⟩
  rw [e20]
  obtain ⟨t1, t2, t3, t4, t5, t6⟩ := h
  simp only at v1 v2 v3 v4 v5
  unfold hdH
  rw [v1, v2, v3, v4, v5]
set_option maxRecDepth 100000 in
theorem rtoH_e1 (A : Option Addr) (m c : Nat) (ty fl : Int) (w : World) (h1 : (ty != 1) = true) (h2 : (ty != 2) = true) : Calls Try.prog 22 #[chV ty fl (.slice A m c)] w (HNo w) := by
  obtain ⟨W, hW⟩ : ∃ W, W = (w.alloc (.cells #[.int .u8 ty, .int .u8 fl, .slice A m c] 41)).alloc (.cells #[.int .u32 0, .int .u32 0, .int .u16 0, .int .u16 0, .int .u32 0, .slice none 0 0] 39) := ⟨_, rfl⟩
  have u1 := up_alloc w (.cells #[.int .u8 ty, .int .u8 fl, .slice A m c] 41)
  have a1 := new_at w (.cells #[.int .u8 ty, .int .u8 fl, .slice A m c] 41)
  have u2 := up_alloc (w.alloc (.cells #[.int .u8 ty, .int .u8 fl, .slice A m c] 41)) (.cells #[.int .u32 0, .int .u32 0, .int .u16 0, .int .u16 0, .int .u32 0, .slice none 0 0] 39)
  have a2 := new_at (w.alloc (.cells #[.int .u8 ty, .int .u8 fl, .slice A m c] 41)) (.cells #[.int .u32 0, .int .u32 0, .int .u16 0, .int .u16 0, .int .u32 0, .slice none 0 0] 39)
  have b1 := (u2.block _ (lt_of_blk a1)).trans a1
  have s1 : (w.alloc (.cells #[.int .u8 ty, .int .u8 fl, .slice A m c] 41)).heap.size = w.heap.size + 1 := by simp
  rw [s1] at a2
  have HS := Lib.hid (show ((w.alloc (.cells #[.int .u8 ty, .int .u8 fl, .slice A m c] 41)).alloc (.cells #[.int .u32 0, .int .u32 0, .int .u16 0, .int .u16 0, .int .u32 0, .slice none 0 0] 39)).heap.size = w.heap.size + 1 + 1 by simp)
  have HU := Lib.hid (u1.trans u2)
  rw [← hW] at a2 b1 HU HS
  have HW := Lib.hid hW
  have HQ := Lib.hid a2
  have HB := Lib.hid b1
  have c0 := cell_of b1 (j := 0) rfl
  have c1 := cell_of b1 (j := 1) rfl
  have c2 := cell_of b1 (j := 2) rfl
  clear u1 a1 u2 a2 b1 s1 hW
  unfold chV
  go_enter Try.func22, Try.ntmps22
  go_upto_region 1 with (fail)
  rw [← HW.out]
  have e0 := cell_of HQ.out (j := 0) rfl
  have f0 := frozen_at (j := 0) HQ.out
  have e1 := cell_of HQ.out (j := 1) rfl
  have f1 := frozen_at (j := 1) HQ.out
  have e2 := cell_of HQ.out (j := 2) rfl
  have f2 := frozen_at (j := 2) HQ.out
  have e3 := cell_of HQ.out (j := 3) rfl
  have f3 := frozen_at (j := 3) HQ.out
  have e4 := cell_of HQ.out (j := 4) rfl
  have f4 := frozen_at (j := 4) HQ.out
  have e5 := cell_of HQ.out (j := 5) rfl
  have f5 := frozen_at (j := 5) HQ.out
  go_wp2_with fail
  have hs := set6 (a := .int .u32 0) (b := .int .u32 0) (c := .int .u16 0) (d := .int .u16 0) (e := .int .u32 0) (f := .slice none 0 0) HQ.out rfl
  exact bodyPost_ret (results_row_tmp (fn := Try.f22) (p := 2) (u := 3) (ty := 39) rfl _ _ (w.heap.size + 1) 39 _ (0, 0) _ rfl hs.1 Try.underlying39 rfl rfl) rfl ⟨rfl, Lib.hid (Below.out HU.out hs.2 (fun k hk => by rw [hk]; omega) HU.out.size)⟩
set_option maxRecDepth 100000 in
theorem rtoH_e2 (A : Option Addr) (m c : Nat) (fl : Int) (w : World) (h1 : m < 16) : Calls Try.prog 22 #[chV 1 fl (.slice A m c)] w (HNo w) := by
  obtain ⟨W, hW⟩ : ∃ W, W = (w.alloc (.cells #[.int .u8 1, .int .u8 fl, .slice A m c] 41)).alloc (.cells #[.int .u32 0, .int .u32 0, .int .u16 0, .int .u16 0, .int .u32 0, .slice none 0 0] 39) := ⟨_, rfl⟩
  have u1 := up_alloc w (.cells #[.int .u8 1, .int .u8 fl, .slice A m c] 41)
  have a1 := new_at w (.cells #[.int .u8 1, .int .u8 fl, .slice A m c] 41)
  have u2 := up_alloc (w.alloc (.cells #[.int .u8 1, .int .u8 fl, .slice A m c] 41)) (.cells #[.int .u32 0, .int .u32 0, .int .u16 0, .int .u16 0, .int .u32 0, .slice none 0 0] 39)
  have a2 := new_at (w.alloc (.cells #[.int .u8 1, .int .u8 fl, .slice A m c] 41)) (.cells #[.int .u32 0, .int .u32 0, .int .u16 0, .int .u16 0, .int .u32 0, .slice none 0 0] 39)
  have b1 := (u2.block _ (lt_of_blk a1)).trans a1
  have s1 : (w.alloc (.cells #[.int .u8 1, .int .u8 fl, .slice A m c] 41)).heap.size = w.heap.size + 1 := by simp
  rw [s1] at a2
  have HS := Lib.hid (show ((w.alloc (.cells #[.int .u8 1, .int .u8 fl, .slice A m c] 41)).alloc (.cells #[.int .u32 0, .int .u32 0, .int .u16 0, .int .u16 0, .int .u32 0, .slice none 0 0] 39)).heap.size = w.heap.size + 1 + 1 by simp)
  have HU := Lib.hid (u1.trans u2)
  rw [← hW] at a2 b1 HU HS
  have HW := Lib.hid hW
  have HQ := Lib.hid a2
  have HB := Lib.hid b1
  have c0 := cell_of b1 (j := 0) rfl
  have c1 := cell_of b1 (j := 1) rfl
  have c2 := cell_of b1 (j := 2) rfl
  clear u1 a1 u2 a2 b1 s1 hW
  unfold chV
  go_enter Try.func22, Try.ntmps22
  go_upto_region 1 with (fail)
  rw [← HW.out]
  have e0 := cell_of HQ.out (j := 0) rfl
  have f0 := frozen_at (j := 0) HQ.out
  have e1 := cell_of HQ.out (j := 1) rfl
  have f1 := frozen_at (j := 1) HQ.out
  have e2 := cell_of HQ.out (j := 2) rfl
  have f2 := frozen_at (j := 2) HQ.out
  have e3 := cell_of HQ.out (j := 3) rfl
  have f3 := frozen_at (j := 3) HQ.out
  have e4 := cell_of HQ.out (j := 4) rfl
  have f4 := frozen_at (j := 4) HQ.out
  have e5 := cell_of HQ.out (j := 5) rfl
  have f5 := frozen_at (j := 5) HQ.out
  go_wp2_with fail
  have hs := set6 (a := .int .u32 0) (b := .int .u32 0) (c := .int .u16 0) (d := .int .u16 0) (e := .int .u32 0) (f := .slice none 0 0) HQ.out rfl
  exact bodyPost_ret (results_row_tmp (fn := Try.f22) (p := 2) (u := 3) (ty := 39) rfl _ _ (w.heap.size + 1) 39 _ (0, 0) _ rfl hs.1 Try.underlying39 rfl rfl) rfl ⟨rfl, Lib.hid (Below.out HU.out hs.2 (fun k hk => by rw [hk]; omega) HU.out.size)⟩
set_option maxRecDepth 100000 in
theorem rtoH_e3 (A : Option Addr) (m c : Nat) (fl : Int) (w : World) (h1 : m < 16) : Calls Try.prog 22 #[chV 2 fl (.slice A m c)] w (HNo w) := by
  obtain ⟨W, hW⟩ : ∃ W, W = (w.alloc (.cells #[.int .u8 2, .int .u8 fl, .slice A m c] 41)).alloc (.cells #[.int .u32 0, .int .u32 0, .int .u16 0, .int .u16 0, .int .u32 0, .slice none 0 0] 39) := ⟨_, rfl⟩
  have u1 := up_alloc w (.cells #[.int .u8 2, .int .u8 fl, .slice A m c] 41)
  have a1 := new_at w (.cells #[.int .u8 2, .int .u8 fl, .slice A m c] 41)
  have u2 := up_alloc (w.alloc (.cells #[.int .u8 2, .int .u8 fl, .slice A m c] 41)) (.cells #[.int .u32 0, .int .u32 0, .int .u16 0, .int .u16 0, .int .u32 0, .slice none 0 0] 39)
  have a2 := new_at (w.alloc (.cells #[.int .u8 2, .int .u8 fl, .slice A m c] 41)) (.cells #[.int .u32 0, .int .u32 0, .int .u16 0, .int .u16 0, .int .u32 0, .slice none 0 0] 39)
  have b1 := (u2.block _ (lt_of_blk a1)).trans a1
  have s1 : (w.alloc (.cells #[.int .u8 2, .int .u8 fl, .slice A m c] 41)).heap.size = w.heap.size + 1 := by simp
  rw [s1] at a2
  have HS := Lib.hid (show ((w.alloc (.cells #[.int .u8 2, .int .u8 fl, .slice A m c] 41)).alloc (.cells #[.int .u32 0, .int .u32 0, .int .u16 0, .int .u16 0, .int .u32 0, .slice none 0 0] 39)).heap.size = w.heap.size + 1 + 1 by simp)
  have HU := Lib.hid (u1.trans u2)
  rw [← hW] at a2 b1 HU HS
  have HW := Lib.hid hW
  have HQ := Lib.hid a2
  have HB := Lib.hid b1
  have c0 := cell_of b1 (j := 0) rfl
  have c1 := cell_of b1 (j := 1) rfl
  have c2 := cell_of b1 (j := 2) rfl
  clear u1 a1 u2 a2 b1 s1 hW
  unfold chV
  go_enter Try.func22, Try.ntmps22
  go_upto_region 1 with (fail)
  rw [← HW.out]
  have e0 := cell_of HQ.out (j := 0) rfl
  have f0 := frozen_at (j := 0) HQ.out
  have e1 := cell_of HQ.out (j := 1) rfl
  have f1 := frozen_at (j := 1) HQ.out
  have e2 := cell_of HQ.out (j := 2) rfl
  have f2 := frozen_at (j := 2) HQ.out
  have e3 := cell_of HQ.out (j := 3) rfl
  have f3 := frozen_at (j := 3) HQ.out
  have e4 := cell_of HQ.out (j := 4) rfl
  have f4 := frozen_at (j := 4) HQ.out
  have e5 := cell_of HQ.out (j := 5) rfl
  have f5 := frozen_at (j := 5) HQ.out
  go_wp2_with fail
  have hs := set6 (a := .int .u32 0) (b := .int .u32 0) (c := .int .u16 0) (d := .int .u16 0) (e := .int .u32 0) (f := .slice none 0 0) HQ.out rfl
  exact bodyPost_ret (results_row_tmp (fn := Try.f22) (p := 2) (u := 3) (ty := 39) rfl _ _ (w.heap.size + 1) 39 _ (0, 0) _ rfl hs.1 Try.underlying39 rfl rfl) rfl ⟨rfl, Lib.hid (Below.out HU.out hs.2 (fun k hk => by rw [hk]; omega) HU.out.size)⟩
theorem chkH_val (h : Ck.Hel) (ack : Bool) : Ck.chkH h ack = 0 ∨ Ck.chkH h ack = 2 ∨ Ck.chkH h ack = 4 := by
  unfold Ck.chkH; split
  · exact .inr (.inl rfl)
  · split
    · exact .inr (.inr rfl)
    · exact .inl rfl
theorem byt_encH {h : Ck.Hel} {ack : Bool} (hb : Byt h.ck) : Byt (encH h ack) := by
  have h0 : Byt (encH0 h) := ((((be_byt _ _).append (be_byt _ _)).append (be_byt _ _)).append (be_byt _ _)).append (be_byt _ _)
  unfold encH
  split
  · exact ((h0.append (be_byt _ _)).append (be_byt _ _)).append (byt_padL hb)
  · exact h0
set_option maxRecDepth 1000000 in
set_option maxHeartbeats 4000000 in
theorem rtoH_f (A : Option Addr) (m c : Nat) (fl : Int) (xs : List Int) (w : World) (hin : InB w A m c xs) (hm : m ≤ 140737488351232) (h16 : 16 ≤ m) : Calls Try.prog 22 #[chV 1 fl (.slice A m c)] w (ToHPost 1 fl xs w) := by
  obtain ⟨W, hW⟩ : ∃ W, W = (w.alloc (.cells #[.int .u8 1, .int .u8 fl, .slice A m c] 41)).alloc (.cells #[.int .u32 0, .int .u32 0, .int .u16 0, .int .u16 0, .int .u32 0, .slice none 0 0] 39) := ⟨_, rfl⟩
  have u1 := up_alloc w (.cells #[.int .u8 1, .int .u8 fl, .slice A m c] 41)
  have a1 := new_at w (.cells #[.int .u8 1, .int .u8 fl, .slice A m c] 41)
  have u2 := up_alloc (w.alloc (.cells #[.int .u8 1, .int .u8 fl, .slice A m c] 41)) (.cells #[.int .u32 0, .int .u32 0, .int .u16 0, .int .u16 0, .int .u32 0, .slice none 0 0] 39)
  have a2 := new_at (w.alloc (.cells #[.int .u8 1, .int .u8 fl, .slice A m c] 41)) (.cells #[.int .u32 0, .int .u32 0, .int .u16 0, .int .u16 0, .int .u32 0, .slice none 0 0] 39)
  have b1 := (u2.block _ (lt_of_blk a1)).trans a1
  have s1 : (w.alloc (.cells #[.int .u8 1, .int .u8 fl, .slice A m c] 41)).heap.size = w.heap.size + 1 := by simp
  rw [s1] at a2
  have HS := Lib.hid (show ((w.alloc (.cells #[.int .u8 1, .int .u8 fl, .slice A m c] 41)).alloc (.cells #[.int .u32 0, .int .u32 0, .int .u16 0, .int .u16 0, .int .u32 0, .slice none 0 0] 39)).heap.size = w.heap.size + 1 + 1 by simp)
  have HU := Lib.hid (u1.trans u2)
  rw [← hW] at a2 b1 HU HS
  have HW := Lib.hid hW
  have HQ := Lib.hid a2
  have HB := Lib.hid b1
  have c0 := cell_of b1 (j := 0) rfl
  have c1 := cell_of b1 (j := 1) rfl
  have c2 := cell_of b1 (j := 2) rfl
  clear u1 a1 u2 a2 b1 s1 hW
  have HI := Lib.hid hin
  have hcap := hin.cap
  have HIW := Lib.hid (hin.up HU.out)
  clear hin
  unfold chV
  go_enter Try.func22, Try.ntmps22
  go_upto_region 4 with (fail)
  rw [← HW.out]
  clear c0 c1 c2
  have V0 := Lib.hid (show Up W W from Up.refl W)
  go_wp2_with fail
  refine (rnumI A m c 0 4 xs W (HIW.out.up V0.out) (by omega) (by omega) (by omega) (by omega)).mono ?_
  rintro e v1 ⟨t1, rfl, e1, b1, u1⟩
  have V1 := Lib.hid (V0.out.trans u1.out)
  have l1 := b1.out.1
  have g1 : t1 < 4294967296 := by have := b1.out.2; simpa using this
  clear V0 u1
  go_wp2_with fail
  refine (rnumI A m c 4 4 xs v1 (HIW.out.up V1.out) (by omega) (by omega) (by omega) (by omega)).mono ?_
  rintro e v2 ⟨t2, rfl, e2, b2, u2⟩
  have V2 := Lib.hid (V1.out.trans u2.out)
  have l2 := b2.out.1
  have g2 : t2 < 4294967296 := by have := b2.out.2; simpa using this
  clear V1 u2
  go_wp2_with fail
  refine (rnumI A m c 8 2 xs v2 (HIW.out.up V2.out) (by omega) (by omega) (by omega) (by omega)).mono ?_
  rintro e v3 ⟨t3, rfl, e3, b3, u3⟩
  have V3 := Lib.hid (V2.out.trans u3.out)
  have l3 := b3.out.1
  have g3 : t3 < 65536 := by have := b3.out.2; simpa using this
  clear V2 u3
  go_wp2_with fail
  refine (rnumI A m c 10 2 xs v3 (HIW.out.up V3.out) (by omega) (by omega) (by omega) (by omega)).mono ?_
  rintro e v4 ⟨t4, rfl, e4, b4, u4⟩
  have V4 := Lib.hid (V3.out.trans u4.out)
  have l4 := b4.out.1
  have g4 : t4 < 65536 := by have := b4.out.2; simpa using this
  clear V3 u4
  go_wp2_with fail
  refine (rnumI A m c 12 4 xs v4 (HIW.out.up V4.out) (by omega) (by omega) (by omega) (by omega)).mono ?_
  rintro e v5 ⟨t5, rfl, e5, b5, u5⟩
  have V5 := Lib.hid (V4.out.trans u5.out)
  have l5 := b5.out.1
  have g5 : t5 < 4294967296 := by have := b5.out.2; simpa using this
  clear V4 u5
  go_upto_region 5 with (fail)
  have HHB := Lib.hid (new_at v5 (.cells #[.int .u32 t1, .int .u32 t2, .int .u16 t3, .int .u16 t4, .int .u32 t5, .slice none 0 0] 39))
  have V6 := Lib.hid (V5.out.trans (up_alloc v5 (.cells #[.int .u32 t1, .int .u32 t2, .int .u16 t3, .int .u16 t4, .int .u32 t5, .slice none 0 0] 39)))
  have HBW := Lib.hid (show W.heap.size ≤ v5.heap.size from V5.out.size)
  generalize v5.alloc (.cells #[.int .u32 t1, .int .u32 t2, .int .u16 t3, .int .u16 t4, .int .u32 t5, .slice none 0 0] 39) = v6 at HHB V6 ⊢
  generalize v5.heap.size = hb at HHB HBW ⊢
  clear V5
  have b0 := cell_up (cell_of HB.out (j := 0) rfl) V6.out
  have h0 := cell_of HHB.out (j := 0) rfl
  have h1 := cell_of HHB.out (j := 1) rfl
  have h2 := cell_of HHB.out (j := 2) rfl
  have h3 := cell_of HHB.out (j := 3) rfl
  have h4 := cell_of HHB.out (j := 4) rfl
  have h5 := cell_of HHB.out (j := 5) rfl
  have HH := Lib.hid (show (⟨t1, t2, t3, t4, t5, []⟩ : Ck.Hel) = hdH xs [] by rw [e1.out, e2.out, e3.out, e4.out, e5.out]; rfl)
  have HCI := Lib.hid (inB_nil v6)
  have HCO := Lib.hid (show OwnI .u8 5 w.heap.size v6 none 0 0 [] from ownI_nil _ _ _ _)
  have HCB := Lib.hid (show ∀ k, blk? (none : Option Addr) = some k → w.heap.size + 1 < k from fun k hk => by cases hk)
  have HLEN := Lib.hid (show 16 ≤ xs.length by rw [HI.out.len]; exact h16)
  have HONLY := Lib.hid (show ∀ h' ack', HelloOK 1 fl xs h' ack' → h' = ⟨t1, t2, t3, t4, t5, []⟩ ∧ ack' = false from fun h' ack' ho => ⟨by rw [HH.out]; exact (rH_f ho).1, (rH_f ho).2.1⟩)
  have HOK := Lib.hid (show Ck.HelOk ⟨t1, t2, t3, t4, t5, []⟩ by rw [HH.out]; exact hdH_ok HI.out.byt HLEN.out)
  have V7 := V6
  have HH7 := HHB
  have HU7 := Lib.hid (show Up W v6 from V6.out)
  by_cases hk0 : Ck.chkH ⟨t1, t2, t3, t4, t5, []⟩ false = 0
  · have HK := Lib.hid hk0
    clear hk0
    go_wp2_with fail
    refine (rfromH_ok ⟨t1, t2, t3, t4, t5, []⟩ none 0 0 false v6 HCI.out HK.out HOK.out).mono ?_
    rintro e v8 ⟨A9, N9, c9, rfl, hN9, hO9, hu9⟩
    have V8 := Lib.hid (HU7.out.trans hu9.out)
    have HH8 := Lib.hid ((hu9.out.block _ (lt_of_blk HH7.out)).trans HH7.out)
    clear b0 h0 h1 h2 h3 h4 h5
    unfold chV
    go_upto_region 13 with (fail)
    have V9 := Lib.hid (V8.out.trans (up_alloc v8 (.cells #[.int .u8 1, .int .u8 0, .slice A9 N9 c9] 41)))
    have HH9 := Lib.hid (((up_alloc v8 (.cells #[.int .u8 1, .int .u8 0, .slice A9 N9 c9] 41)).block _ (lt_of_blk HH8.out)).trans HH8.out)
    have HX9 := Lib.hid (new_at v8 (.cells #[.int .u8 1, .int .u8 0, .slice A9 N9 c9] 41))
    have HO9 := Lib.hid (show OwnI .u8 5 v6.heap.size _ A9 N9 c9 (encH ⟨t1, t2, t3, t4, t5, []⟩ false) from own_up hO9.out (up_alloc v8 (.cells #[.int .u8 1, .int .u8 0, .slice A9 N9 c9] 41)))
    have HC9 := Lib.hid (show OwnI .u8 5 w.heap.size _ none 0 0 [] from own_up (own_up HCO.out hu9.out) (up_alloc v8 (.cells #[.int .u8 1, .int .u8 0, .slice A9 N9 c9] 41)))
    generalize v8.alloc (.cells #[.int .u8 1, .int .u8 0, .slice A9 N9 c9] 41) = v9 at V9 HH9 HX9 HO9 HC9 ⊢
    generalize v8.heap.size = xb at HX9 ⊢
    have x0 := cell_of HX9.out (j := 0) rfl
    have x1 := cell_of HX9.out (j := 1) rfl
    have x2 := cell_of HX9.out (j := 2) rfl
    have HB9 := Lib.hid ((V9.out.block _ (lt_of_blk HB.out)).trans HB.out)
    have p0 := cell_of HB9.out (j := 0) rfl
    have p1 := cell_of HB9.out (j := 1) rfl
    have p2 := cell_of HB9.out (j := 2) rfl
    clear hO9 hu9 V8 HH8
    go_wp2_with fail
    refine (sameC ⟨1, 0, encH ⟨t1, t2, t3, t4, t5, []⟩ false⟩ ⟨1, fl, xs⟩ A9 _ N9 m c9 c v9 (own_inB HO9.out (show Byt (encH ⟨t1, t2, t3, t4, t5, []⟩ false) from byt_encH HCI.out.byt)) (HIW.out.up V9.out)).mono ?_
    rintro e y0 ⟨rfl, hu0⟩
    have HUY := Lib.hid ((HU.out.trans V9.out).trans hu0.out)
    have HQY := Lib.hid (((V9.out.trans hu0.out).block _ (lt_of_blk HQ.out)).trans HQ.out)
    have HHY := Lib.hid ((hu0.out.block _ (lt_of_blk HH9.out)).trans HH9.out)
    have HCY9 := Lib.hid (show OwnI .u8 5 w.heap.size _ none 0 0 [] from own_up HC9.out hu0.out)
    clear x0 x1 x2 p0 p1 p2 V9 HH9 HX9 HO9 HC9 HB9
    have e0 := cell_of HQY.out (j := 0) rfl
    have f0 := frozen_at (j := 0) HQY.out
    have e1 := cell_of HQY.out (j := 1) rfl
    have f1 := frozen_at (j := 1) HQY.out
    have e2 := cell_of HQY.out (j := 2) rfl
    have f2 := frozen_at (j := 2) HQY.out
    have e3 := cell_of HQY.out (j := 3) rfl
    have f3 := frozen_at (j := 3) HQY.out
    have e4 := cell_of HQY.out (j := 4) rfl
    have f4 := frozen_at (j := 4) HQY.out
    have e5 := cell_of HQY.out (j := 5) rfl
    have f5 := frozen_at (j := 5) HQY.out
    by_cases hsm : (⟨1, 0, encH ⟨t1, t2, t3, t4, t5, []⟩ false⟩ : Ck.Chk) = ⟨1, fl, xs⟩
    · have HSM := Lib.hid hsm
      rw [decide_eq_true hsm]
      clear hsm
      have h0 := cell_of HHY.out (j := 0) rfl
      have h1 := cell_of HHY.out (j := 1) rfl
      have h2 := cell_of HHY.out (j := 2) rfl
      have h3 := cell_of HHY.out (j := 3) rfl
      have h4 := cell_of HHY.out (j := 4) rfl
      have h5 := cell_of HHY.out (j := 5) rfl
      go_wp2_with fail
      have hs := set6 (a := .int .u32 t1) (b := .int .u32 t2) (c := .int .u16 t3) (d := .int .u16 t4) (e := .int .u32 t5) (f := .slice none 0 0) HQY.out rfl
      refine bodyPost_ret (results_row_tmp (fn := Try.f22) (p := 2) (u := 3) (ty := 39) rfl _ _ (w.heap.size + 1) 39 _ (0, 0) _ rfl hs.1 Try.underlying39 rfl rfl) rfl ⟨⟨t1, t2, t3, t4, t5, []⟩, 0, _, _, _, rfl, Lib.hid (.inl ⟨rfl, false, rfl, ?_, HK.out, HOK.out, HCI.out.byt, ?_⟩), Lib.hid HCI.out.len.symm, Lib.hid ?_, Lib.hid HCI.out.byt, HOK, Lib.hid (Below.out HUY.out hs.2 (fun k hk => by rw [hk]; omega) HUY.out.size)⟩
      · have := HSM.out; injection this with q1 q2 q3; exact q2.symm
      · have := HSM.out; injection this with q1 q2 q3; exact q3.symm
      · exact hs.2.own HCY9.out (fun q hq9 e => by have := HCB.out q (by rwa [ownBlock_slice] at hq9); have e1 : q = w.heap.size + 1 := e; omega)
    · have HSM := Lib.hid hsm
      rw [decide_eq_false hsm]
      clear hsm
      go_wp2_with fail
      have hs := set6 (a := .int .u32 0) (b := .int .u32 0) (c := .int .u16 0) (d := .int .u16 0) (e := .int .u32 0) (f := .slice none 0 0) HQY.out rfl
      exact bodyPost_ret (results_row_tmp (fn := Try.f22) (p := 2) (u := 3) (ty := 39) rfl _ _ (w.heap.size + 1) 39 _ (0, 0) _ rfl hs.1 Try.underlying39 rfl rfl) rfl (HNo.post ⟨rfl, Lib.hid (Below.out HUY.out hs.2 (fun k hk => by rw [hk]; omega) HUY.out.size)⟩ (fun h' ack' ho => by have h1 := HONLY.out h' ack' ho; have h2 := ho.2.2.2.2.2; rw [h1.1, h1.2] at h2; exact HSM.out (by rw [← h2, ho.2.1])))
  · have HK := Lib.hid hk0
    have hk2 := chkH_val ⟨t1, t2, t3, t4, t5, []⟩ false
    clear hk0
    go_wp2_with fail
    refine (rfromH_err ⟨t1, t2, t3, t4, t5, []⟩ none 0 0 false (Ck.chkH ⟨t1, t2, t3, t4, t5, []⟩ false) v6 HCI.out.len.symm rfl (hk2.resolve_left HK.out)).mono ?_
    rintro e v8 ⟨rfl, hu9⟩
    have hkb : (Ck.chkH ⟨t1, t2, t3, t4, t5, []⟩ false != 0) = true := by simp [HK.out]
    clear hk2 b0 h0 h1 h2 h3 h4 h5
    have HNOK := Lib.hid (show ∀ h' ack', ¬ HelloOK 1 fl xs h' ack' from fun h' ack' ho => by have h1 := HONLY.out h' ack' ho; have h2 := ho.2.2.1; rw [h1.1, h1.2] at h2; exact HK.out h2)
    clear HK
    generalize Ck.chkH ⟨t1, t2, t3, t4, t5, []⟩ false = kk at hkb ⊢
    have V9 := Lib.hid ((HU7.out.trans hu9.out).trans (up_alloc v8 (.cells #[.int .u8 0, .int .u8 0, .slice none 0 0] 41)))
    unfold chV
    go_upto_region 13 with (fail)
    generalize v8.alloc (.cells #[.int .u8 0, .int .u8 0, .slice none 0 0] 41) = v9 at V9 ⊢
    have HUY := Lib.hid (HU.out.trans V9.out)
    have HQY := Lib.hid ((V9.out.block _ (lt_of_blk HQ.out)).trans HQ.out)
    have e0 := cell_of HQY.out (j := 0) rfl
    have f0 := frozen_at (j := 0) HQY.out
    have e1 := cell_of HQY.out (j := 1) rfl
    have f1 := frozen_at (j := 1) HQY.out
    have e2 := cell_of HQY.out (j := 2) rfl
    have f2 := frozen_at (j := 2) HQY.out
    have e3 := cell_of HQY.out (j := 3) rfl
    have f3 := frozen_at (j := 3) HQY.out
    have e4 := cell_of HQY.out (j := 4) rfl
    have f4 := frozen_at (j := 4) HQY.out
    have e5 := cell_of HQY.out (j := 5) rfl
    have f5 := frozen_at (j := 5) HQY.out
    go_wp2_with fail
    have hs := set6 (a := .int .u32 0) (b := .int .u32 0) (c := .int .u16 0) (d := .int .u16 0) (e := .int .u32 0) (f := .slice none 0 0) HQY.out rfl
    exact bodyPost_ret (results_row_tmp (fn := Try.f22) (p := 2) (u := 3) (ty := 39) rfl _ _ (w.heap.size + 1) 39 _ (0, 0) _ rfl hs.1 Try.underlying39 rfl rfl) rfl (HNo.post ⟨rfl, Lib.hid (Below.out HUY.out hs.2 (fun k hk => by rw [hk]; omega) HUY.out.size)⟩ HNOK.out)
end Go.Proofs.Ytgikgcepeniekaa
namespace Go.Proofs.Ytgikgcepeniekaa
open Go Go.RowKit
set_option linter.unusedVariables false
set_option linter.unusedSimpArgs false
set_option maxRecDepth 1000000 in
set_option maxHeartbeats 4000000 in
theorem rtoH_t (A : Option Addr) (m c : Nat) (fl : Int) (xs : List Int) (w : World) (hin : InB w A m c xs) (hm : m ≤ 140737488351232) (h16 : 16 ≤ m) : Calls Try.prog 22 #[chV 2 fl (.slice A m c)] w (ToHPost 2 fl xs w) := by
  obtain ⟨W, hW⟩ : ∃ W, W = (w.alloc (.cells #[.int .u8 2, .int .u8 fl, .slice A m c] 41)).alloc (.cells #[.int .u32 0, .int .u32 0, .int .u16 0, .int .u16 0, .int .u32 0, .slice none 0 0] 39) := ⟨_, rfl⟩
  have u1 := up_alloc w (.cells #[.int .u8 2, .int .u8 fl, .slice A m c] 41)
  have a1 := new_at w (.cells #[.int .u8 2, .int .u8 fl, .slice A m c] 41)
  have u2 := up_alloc (w.alloc (.cells #[.int .u8 2, .int .u8 fl, .slice A m c] 41)) (.cells #[.int .u32 0, .int .u32 0, .int .u16 0, .int .u16 0, .int .u32 0, .slice none 0 0] 39)
  have a2 := new_at (w.alloc (.cells #[.int .u8 2, .int .u8 fl, .slice A m c] 41)) (.cells #[.int .u32 0, .int .u32 0, .int .u16 0, .int .u16 0, .int .u32 0, .slice none 0 0] 39)
  have b1 := (u2.block _ (lt_of_blk a1)).trans a1
  have s1 : (w.alloc (.cells #[.int .u8 2, .int .u8 fl, .slice A m c] 41)).heap.size = w.heap.size + 1 := by simp
  rw [s1] at a2
  have HS := Lib.hid (show ((w.alloc (.cells #[.int .u8 2, .int .u8 fl, .slice A m c] 41)).alloc (.cells #[.int .u32 0, .int .u32 0, .int .u16 0, .int .u16 0, .int .u32 0, .slice none 0 0] 39)).heap.size = w.heap.size + 1 + 1 by simp)
  have HU := Lib.hid (u1.trans u2)
  rw [← hW] at a2 b1 HU HS
  have HW := Lib.hid hW
  have HQ := Lib.hid a2
  have HB := Lib.hid b1
  have c0 := cell_of b1 (j := 0) rfl
  have c1 := cell_of b1 (j := 1) rfl
  have c2 := cell_of b1 (j := 2) rfl
  clear u1 a1 u2 a2 b1 s1 hW
  have HI := Lib.hid hin
  have hcap := hin.cap
  have HIW := Lib.hid (hin.up HU.out)
  clear hin
  unfold chV
  go_enter Try.func22, Try.ntmps22
  go_upto_region 4 with (fail)
  rw [← HW.out]
  clear c0 c1 c2
  have V0 := Lib.hid (show Up W W from Up.refl W)
  go_wp2_with fail
  refine (rnumI A m c 0 4 xs W (HIW.out.up V0.out) (by omega) (by omega) (by omega) (by omega)).mono ?_
  rintro e v1 ⟨t1, rfl, e1, b1, u1⟩
  have V1 := Lib.hid (V0.out.trans u1.out)
  have l1 := b1.out.1
  have g1 : t1 < 4294967296 := by have := b1.out.2; simpa using this
  clear V0 u1
  go_wp2_with fail
  refine (rnumI A m c 4 4 xs v1 (HIW.out.up V1.out) (by omega) (by omega) (by omega) (by omega)).mono ?_
  rintro e v2 ⟨t2, rfl, e2, b2, u2⟩
  have V2 := Lib.hid (V1.out.trans u2.out)
  have l2 := b2.out.1
  have g2 : t2 < 4294967296 := by have := b2.out.2; simpa using this
  clear V1 u2
  go_wp2_with fail
  refine (rnumI A m c 8 2 xs v2 (HIW.out.up V2.out) (by omega) (by omega) (by omega) (by omega)).mono ?_
  rintro e v3 ⟨t3, rfl, e3, b3, u3⟩
  have V3 := Lib.hid (V2.out.trans u3.out)
  have l3 := b3.out.1
  have g3 : t3 < 65536 := by have := b3.out.2; simpa using this
  clear V2 u3
  go_wp2_with fail
  refine (rnumI A m c 10 2 xs v3 (HIW.out.up V3.out) (by omega) (by omega) (by omega) (by omega)).mono ?_
  rintro e v4 ⟨t4, rfl, e4, b4, u4⟩
  have V4 := Lib.hid (V3.out.trans u4.out)
  have l4 := b4.out.1
  have g4 : t4 < 65536 := by have := b4.out.2; simpa using this
  clear V3 u4
  go_wp2_with fail
  refine (rnumI A m c 12 4 xs v4 (HIW.out.up V4.out) (by omega) (by omega) (by omega) (by omega)).mono ?_
  rintro e v5 ⟨t5, rfl, e5, b5, u5⟩
  have V5 := Lib.hid (V4.out.trans u5.out)
  have l5 := b5.out.1
  have g5 : t5 < 4294967296 := by have := b5.out.2; simpa using this
  clear V4 u5
  go_upto_region 5 with (fail)
  have HHB := Lib.hid (new_at v5 (.cells #[.int .u32 t1, .int .u32 t2, .int .u16 t3, .int .u16 t4, .int .u32 t5, .slice none 0 0] 39))
  have V6 := Lib.hid (V5.out.trans (up_alloc v5 (.cells #[.int .u32 t1, .int .u32 t2, .int .u16 t3, .int .u16 t4, .int .u32 t5, .slice none 0 0] 39)))
  have HBW := Lib.hid (show W.heap.size ≤ v5.heap.size from V5.out.size)
  generalize v5.alloc (.cells #[.int .u32 t1, .int .u32 t2, .int .u16 t3, .int .u16 t4, .int .u32 t5, .slice none 0 0] 39) = v6 at HHB V6 ⊢
  generalize v5.heap.size = hb at HHB HBW ⊢
  clear V5
  have b0 := cell_up (cell_of HB.out (j := 0) rfl) V6.out
  have HQ6 := Lib.hid ((V6.out.block _ (lt_of_blk HQ.out)).trans HQ.out)
  have HU6 := Lib.hid (HU.out.trans V6.out)
  by_cases h20 : m < 20
  · have d1 : decide ((m : Int) < 20) = true := by simp; omega
    have e0 := cell_of HQ6.out (j := 0) rfl
    have f0 := frozen_at (j := 0) HQ6.out
    have e1 := cell_of HQ6.out (j := 1) rfl
    have f1 := frozen_at (j := 1) HQ6.out
    have e2 := cell_of HQ6.out (j := 2) rfl
    have f2 := frozen_at (j := 2) HQ6.out
    have e3 := cell_of HQ6.out (j := 3) rfl
    have f3 := frozen_at (j := 3) HQ6.out
    have e4 := cell_of HQ6.out (j := 4) rfl
    have f4 := frozen_at (j := 4) HQ6.out
    have e5 := cell_of HQ6.out (j := 5) rfl
    have f5 := frozen_at (j := 5) HQ6.out
    go_wp2_with fail
    have hs := set6 (a := .int .u32 0) (b := .int .u32 0) (c := .int .u16 0) (d := .int .u16 0) (e := .int .u32 0) (f := .slice none 0 0) HQ6.out rfl
    exact bodyPost_ret (results_row_tmp (fn := Try.f22) (p := 2) (u := 3) (ty := 39) rfl _ _ (w.heap.size + 1) 39 _ (0, 0) _ rfl hs.1 Try.underlying39 rfl rfl) rfl (HNo.post ⟨rfl, Lib.hid (Below.out HU6.out hs.2 (fun k hk => by rw [hk]; omega) HU6.out.size)⟩ (fun h' ack' ho => by have h1 := (rH_t ho).2.1; rw [HI.out.len] at h1; omega))
  have d1 : decide ((m : Int) < 20) = false := by simp; omega
  go_wp2_with fail
  refine (rnumI A m c 18 2 xs v6 (HIW.out.up V6.out) (by omega) (by omega) (by omega) (by omega)).mono ?_
  rintro e v7 ⟨t6, rfl, e6, b6, u6⟩
  have V7 := Lib.hid (V6.out.trans u6.out)
  have HQ7 := Lib.hid ((u6.out.block _ (lt_of_blk HQ6.out)).trans HQ6.out)
  have HU7 := Lib.hid (HU6.out.trans u6.out)
  have HH7 := Lib.hid ((u6.out.block _ (lt_of_blk HHB.out)).trans HHB.out)
  have l6 := b6.out.1
  have g6 : t6 < 65536 := by have := b6.out.2; simpa using this
  clear b0 d1 V6 HQ6 HU6 HHB u6
  have hmi : (m : Int) ≤ 140737488351232 := by omega
  have hmi20 : (20 : Int) ≤ (m : Int) := by omega
  by_cases hneg : t6 < 4
  · have d2 : decide (t6 - 4 < 0) = true := by simp; omega
    have e0 := cell_of HQ7.out (j := 0) rfl
    have f0 := frozen_at (j := 0) HQ7.out
    have e1 := cell_of HQ7.out (j := 1) rfl
    have f1 := frozen_at (j := 1) HQ7.out
    have e2 := cell_of HQ7.out (j := 2) rfl
    have f2 := frozen_at (j := 2) HQ7.out
    have e3 := cell_of HQ7.out (j := 3) rfl
    have f3 := frozen_at (j := 3) HQ7.out
    have e4 := cell_of HQ7.out (j := 4) rfl
    have f4 := frozen_at (j := 4) HQ7.out
    have e5 := cell_of HQ7.out (j := 5) rfl
    have f5 := frozen_at (j := 5) HQ7.out
    go_wp2_with fail
    have hs := set6 (a := .int .u32 0) (b := .int .u32 0) (c := .int .u16 0) (d := .int .u16 0) (e := .int .u32 0) (f := .slice none 0 0) HQ7.out rfl
    exact bodyPost_ret (results_row_tmp (fn := Try.f22) (p := 2) (u := 3) (ty := 39) rfl _ _ (w.heap.size + 1) 39 _ (0, 0) _ rfl hs.1 Try.underlying39 rfl rfl) rfl (HNo.post ⟨rfl, Lib.hid (Below.out HU7.out hs.2 (fun k hk => by rw [hk]; omega) HU7.out.size)⟩ (fun h' ack' ho => by have h1 := (rH_t ho).2.2.1; rw [← e6.out] at h1; omega))
  have d2 : decide (t6 - 4 < 0) = false := by simp; omega
  by_cases hbig : (m : Int) - 20 < t6 - 4
  · have d3 : decide ((m : Int) - 20 < t6 - 4) = true := by simp; omega
    have e0 := cell_of HQ7.out (j := 0) rfl
    have f0 := frozen_at (j := 0) HQ7.out
    have e1 := cell_of HQ7.out (j := 1) rfl
    have f1 := frozen_at (j := 1) HQ7.out
    have e2 := cell_of HQ7.out (j := 2) rfl
    have f2 := frozen_at (j := 2) HQ7.out
    have e3 := cell_of HQ7.out (j := 3) rfl
    have f3 := frozen_at (j := 3) HQ7.out
    have e4 := cell_of HQ7.out (j := 4) rfl
    have f4 := frozen_at (j := 4) HQ7.out
    have e5 := cell_of HQ7.out (j := 5) rfl
    have f5 := frozen_at (j := 5) HQ7.out
    go_wp2_with fail
    have hs := set6 (a := .int .u32 0) (b := .int .u32 0) (c := .int .u16 0) (d := .int .u16 0) (e := .int .u32 0) (f := .slice none 0 0) HQ7.out rfl
    exact bodyPost_ret (results_row_tmp (fn := Try.f22) (p := 2) (u := 3) (ty := 39) rfl _ _ (w.heap.size + 1) 39 _ (0, 0) _ rfl hs.1 Try.underlying39 rfl rfl) rfl (HNo.post ⟨rfl, Lib.hid (Below.out HU7.out hs.2 (fun k hk => by rw [hk]; omega) HU7.out.size)⟩ (fun h' ack' ho => by have h1 := (rH_t ho).2.2.1; have h2 := (rH_t ho).2.2.2.1; rw [HI.out.len] at h2; rw [← e6.out] at h1; omega))
  have d3 : decide ((m : Int) - 20 < t6 - 4) = false := by simp; omega
  obtain ⟨n, hn⟩ : ∃ n : Nat, t6 - 4 = (n : Int) := ⟨(t6 - 4).toNat, by omega⟩
  have hnm : 20 + n ≤ m := by omega
  have HNE := Lib.hid hn
  obtain ⟨ga, go, rfl, -, -⟩ := HIW.out.cells (by intro e; have := congrArg List.length e; rw [ints_length, HI.out.len] at this; simp at this; omega)
  have HC := Lib.hid (show Cells v7 (some ⟨ga, go + 20, none⟩) (ints .u8 ((xs.drop 20).take n)) by have := (HIW.out.up V7.out).cells.cut 20 n; rw [Option.map_some, add_flat] at this; simpa [ints, List.map_take, List.map_drop] using this)
  have HL := Lib.hid (show ((xs.drop 20).take n).length = n by have := HI.out.len; simp; omega)
  have HCY := Lib.hid (show Byt ((xs.drop 20).take n) from (HI.out.byt.drop _).take _)
  clear hn
  go_upto_region 11 with (fail)
  rw [HNE.out]
  have k5 := cell_of HH7.out (j := 5) rfl
  have y5 := frozen_at (j := 5) HH7.out
  clear d2 d3 hbig hneg l6 g6 b6
  by_cases hc20 : c ≤ 20
  · have HCA := Lib.hid (show Cells v7 (some ⟨ga, go, none⟩) (ints .u8 ((xs.drop 20).take n)) by
      obtain rfl : n = 0 := by omega
      simpa [ints] using Cells.nil v7 _)
    have hn0 : n = 0 := by omega
    subst hn0
    go_upto_region 12 with (at_builtin; refine wpList_appendI rfl (.tmp 61) (.tmp 65) 23 rfl .u8 v7.heap.size 5 1 Try.underlying23 info5 (some ⟨v7.heap.size, 0, none⟩) 0 0 [] rfl (ownI_new _ _ _) (some ⟨ga, go, none⟩) 0 0 ((xs.drop 20).take 0) rfl (by have := HL.out; omega) (HCA.out.alloc _) (by omega) (by omega) (by simp) ((Below.refl _ _).alloc (Nat.le_refl _) _) ?_; intro A6 N6 c6 w6 HN6 HW6 HB6 hsz6; have hh6 := (HB6.out.block _ (lt_of_blk HH7.out)).trans HH7.out; have k6 := cell_of hh6 (j := 5) rfl; have y6 := frozen_at (j := 5) hh6)
    have hst := setCell_out w6 hb 5 (.slice A6 N6 c6)
    have hhs := setCell_at (j := 5) (.slice A6 N6 c6) hh6
    have HO6 := Lib.hid (show OwnI .u8 5 v7.heap.size w6 A6 N6 c6 ((xs.drop 20).take 0) by have := HW6.out; rw [List.nil_append] at this; exact this)
    have HCK := Lib.hid (show ((xs.drop 20).take 0).length = 0 from HL.out)
    have HCYB := HCY
    have HBH := Lib.hid (lt_of_blk HH7.out)
    have HV7 := Lib.hid V7.out.size
    have HCO := Lib.hid (show OwnI .u8 5 w.heap.size (w6.setCell ⟨hb, 5, none⟩ (.slice A6 N6 c6)) A6 N6 c6 ((xs.drop 20).take 0) from OwnI.base (show OwnI .u8 5 v7.heap.size _ A6 N6 c6 _ from hst.own HO6.out (fun q hq e => by have h1 := (row_lt HO6.out (by rwa [ownBlock_slice] at hq)).1; have h2 := HBH.out; have e1 : q = hb := e; omega)) (by have := HV7.out; have := HS.out; omega))
    have HCB := Lib.hid (show ∀ k, blk? A6 = some k → w.heap.size + 1 < k from fun k hk => by have h1 := (row_lt HO6.out hk).1; have := HV7.out; have := HS.out; omega)
    have HU8 := Lib.hid (show Up W (w6.setCell ⟨hb, 5, none⟩ (.slice A6 N6 c6)) from Below.out (V7.out.trans HB6.out) hst (fun k hk => by rw [hk]; exact HBW.out) (by have := (V7.out.trans HB6.out).size; omega))
    have HH8' := Lib.hid (show (w6.setCell ⟨hb, 5, none⟩ (.slice A6 N6 c6)).heap[hb]? = some (.cells #[.int .u32 t1, .int .u32 t2, .int .u16 t3, .int .u16 t4, .int .u32 t5, .slice A6 N6 c6] 39 (0, 0)) from hhs.trans rfl)
    have HN9 := Lib.hid (show N6 = ((xs.drop 20).take 0).length by rw [HL.out]; have := HN6.out; omega)
    have HONLY := Lib.hid (show ∀ h' ack', HelloOK 2 fl xs h' ack' → h' = ⟨t1, t2, t3, t4, t5, (xs.drop 20).take 0⟩ ∧ ack' = true from fun h' ack' ho => by
      obtain ⟨q1, q2, q3, q4, q5⟩ := rH_t ho
      have q6 : h'.ck.length = 0 := by rw [← e6.out] at q3; have := HNE.out; omega
      refine ⟨?_, q1⟩
      rw [q5, q6, e1.out, e2.out, e3.out, e4.out, e5.out]; rfl)
    have HOK := Lib.hid (show Ck.HelOk ⟨t1, t2, t3, t4, t5, (xs.drop 20).take 0⟩ by
      have := hdH_ok (xs := xs) (ck := (xs.drop 20).take 0) HI.out.byt (by rw [HI.out.len]; omega)
      unfold hdH at this
      rw [e1.out, e2.out, e3.out, e4.out, e5.out]; exact this)
    clear hhs hh6 k6 y6 k5 y5
    generalize (w6.setCell ⟨hb, 5, none⟩ (.slice A6 N6 c6)) = w7 at HCO HU8 HH8' hst ⊢
    generalize (xs.drop 20).take 0 = ck at HCO HONLY HOK HN9 HCYB
    have HCI := Lib.hid (own_inB HCO.out HCYB.out)
    have HH7 := HH8'
    have HU7 := HU8
    clear hst HB6 HW6 HO6 HH8' HU8
    have b0 := cell_up (cell_of HB.out (j := 0) rfl) HU7.out
    have h0 := cell_of HH7.out (j := 0) rfl
    have h1 := cell_of HH7.out (j := 1) rfl
    have h2 := cell_of HH7.out (j := 2) rfl
    have h3 := cell_of HH7.out (j := 3) rfl
    have h4 := cell_of HH7.out (j := 4) rfl
    have h5 := cell_of HH7.out (j := 5) rfl
    by_cases hk0 : Ck.chkH ⟨t1, t2, t3, t4, t5, ck⟩ true = 0
    · have HK := Lib.hid hk0
      clear hk0
      go_wp2_with fail
      refine (rfromH_ok ⟨t1, t2, t3, t4, t5, ck⟩ A6 N6 c6 true w7 HCI.out HK.out HOK.out).mono ?_
      rintro e v8 ⟨A9, N9, c9, rfl, hN9, hO9, hu9⟩
      have V8 := Lib.hid (HU7.out.trans hu9.out)
      have HH8 := Lib.hid ((hu9.out.block _ (lt_of_blk HH7.out)).trans HH7.out)
      clear b0 h0 h1 h2 h3 h4 h5
      unfold chV
      go_upto_region 13 with (fail)
      have V9 := Lib.hid (V8.out.trans (up_alloc v8 (.cells #[.int .u8 2, .int .u8 0, .slice A9 N9 c9] 41)))
      have HH9 := Lib.hid (((up_alloc v8 (.cells #[.int .u8 2, .int .u8 0, .slice A9 N9 c9] 41)).block _ (lt_of_blk HH8.out)).trans HH8.out)
      have HX9 := Lib.hid (new_at v8 (.cells #[.int .u8 2, .int .u8 0, .slice A9 N9 c9] 41))
      have HO9 := Lib.hid (show OwnI .u8 5 w7.heap.size _ A9 N9 c9 (encH ⟨t1, t2, t3, t4, t5, ck⟩ true) from own_up hO9.out (up_alloc v8 (.cells #[.int .u8 2, .int .u8 0, .slice A9 N9 c9] 41)))
      have HC9 := Lib.hid (show OwnI .u8 5 w.heap.size _ A6 N6 c6 ck from own_up (own_up HCO.out hu9.out) (up_alloc v8 (.cells #[.int .u8 2, .int .u8 0, .slice A9 N9 c9] 41)))
      generalize v8.alloc (.cells #[.int .u8 2, .int .u8 0, .slice A9 N9 c9] 41) = v9 at V9 HH9 HX9 HO9 HC9 ⊢
      generalize v8.heap.size = xb at HX9 ⊢
      have x0 := cell_of HX9.out (j := 0) rfl
      have x1 := cell_of HX9.out (j := 1) rfl
      have x2 := cell_of HX9.out (j := 2) rfl
      have HB9 := Lib.hid ((V9.out.block _ (lt_of_blk HB.out)).trans HB.out)
      have p0 := cell_of HB9.out (j := 0) rfl
      have p1 := cell_of HB9.out (j := 1) rfl
      have p2 := cell_of HB9.out (j := 2) rfl
      clear hO9 hu9 V8 HH8
      go_wp2_with fail
      refine (sameC ⟨2, 0, encH ⟨t1, t2, t3, t4, t5, ck⟩ true⟩ ⟨2, fl, xs⟩ A9 _ N9 m c9 c v9 (own_inB HO9.out (show Byt (encH ⟨t1, t2, t3, t4, t5, ck⟩ true) from byt_encH HCI.out.byt)) (HIW.out.up V9.out)).mono ?_
      rintro e y0 ⟨rfl, hu0⟩
      have HUY := Lib.hid ((HU.out.trans V9.out).trans hu0.out)
      have HQY := Lib.hid (((V9.out.trans hu0.out).block _ (lt_of_blk HQ.out)).trans HQ.out)
      have HHY := Lib.hid ((hu0.out.block _ (lt_of_blk HH9.out)).trans HH9.out)
      have HCY9 := Lib.hid (show OwnI .u8 5 w.heap.size _ A6 N6 c6 ck from own_up HC9.out hu0.out)
      clear x0 x1 x2 p0 p1 p2 V9 HH9 HX9 HO9 HC9 HB9
      have e0 := cell_of HQY.out (j := 0) rfl
      have f0 := frozen_at (j := 0) HQY.out
      have e1 := cell_of HQY.out (j := 1) rfl
      have f1 := frozen_at (j := 1) HQY.out
      have e2 := cell_of HQY.out (j := 2) rfl
      have f2 := frozen_at (j := 2) HQY.out
      have e3 := cell_of HQY.out (j := 3) rfl
      have f3 := frozen_at (j := 3) HQY.out
      have e4 := cell_of HQY.out (j := 4) rfl
      have f4 := frozen_at (j := 4) HQY.out
      have e5 := cell_of HQY.out (j := 5) rfl
      have f5 := frozen_at (j := 5) HQY.out
      by_cases hsm : (⟨2, 0, encH ⟨t1, t2, t3, t4, t5, ck⟩ true⟩ : Ck.Chk) = ⟨2, fl, xs⟩
      · have HSM := Lib.hid hsm
        rw [decide_eq_true hsm]
        clear hsm
        have h0 := cell_of HHY.out (j := 0) rfl
        have h1 := cell_of HHY.out (j := 1) rfl
        have h2 := cell_of HHY.out (j := 2) rfl
        have h3 := cell_of HHY.out (j := 3) rfl
        have h4 := cell_of HHY.out (j := 4) rfl
        have h5 := cell_of HHY.out (j := 5) rfl
        go_wp2_with fail
        have hs := set6 (a := .int .u32 t1) (b := .int .u32 t2) (c := .int .u16 t3) (d := .int .u16 t4) (e := .int .u32 t5) (f := .slice A6 N6 c6) HQY.out rfl
        refine bodyPost_ret (results_row_tmp (fn := Try.f22) (p := 2) (u := 3) (ty := 39) rfl _ _ (w.heap.size + 1) 39 _ (0, 0) _ rfl hs.1 Try.underlying39 rfl rfl) rfl ⟨⟨t1, t2, t3, t4, t5, ck⟩, 0, _, _, _, rfl, Lib.hid (.inl ⟨rfl, true, rfl, ?_, HK.out, HOK.out, HCI.out.byt, ?_⟩), Lib.hid HCI.out.len.symm, Lib.hid ?_, Lib.hid HCI.out.byt, HOK, Lib.hid (Below.out HUY.out hs.2 (fun k hk => by rw [hk]; omega) HUY.out.size)⟩
        · have := HSM.out; injection this with q1 q2 q3; exact q2.symm
        · have := HSM.out; injection this with q1 q2 q3; exact q3.symm
        · exact hs.2.own HCY9.out (fun q hq9 e => by have := HCB.out q (by rwa [ownBlock_slice] at hq9); have e1 : q = w.heap.size + 1 := e; omega)
      · have HSM := Lib.hid hsm
        rw [decide_eq_false hsm]
        clear hsm
        go_wp2_with fail
        have hs := set6 (a := .int .u32 0) (b := .int .u32 0) (c := .int .u16 0) (d := .int .u16 0) (e := .int .u32 0) (f := .slice none 0 0) HQY.out rfl
        exact bodyPost_ret (results_row_tmp (fn := Try.f22) (p := 2) (u := 3) (ty := 39) rfl _ _ (w.heap.size + 1) 39 _ (0, 0) _ rfl hs.1 Try.underlying39 rfl rfl) rfl (HNo.post ⟨rfl, Lib.hid (Below.out HUY.out hs.2 (fun k hk => by rw [hk]; omega) HUY.out.size)⟩ (fun h' ack' ho => by have h1 := HONLY.out h' ack' ho; have h2 := ho.2.2.2.2.2; rw [h1.1, h1.2] at h2; exact HSM.out (by rw [← h2, ho.2.1])))
    · have HK := Lib.hid hk0
      have hk2 := chkH_val ⟨t1, t2, t3, t4, t5, ck⟩ true
      clear hk0
      go_wp2_with fail
      refine (rfromH_err ⟨t1, t2, t3, t4, t5, ck⟩ A6 N6 c6 true (Ck.chkH ⟨t1, t2, t3, t4, t5, ck⟩ true) w7 HCI.out.len.symm rfl (hk2.resolve_left HK.out)).mono ?_
      rintro e v8 ⟨rfl, hu9⟩
      have hkb : (Ck.chkH ⟨t1, t2, t3, t4, t5, ck⟩ true != 0) = true := by simp [HK.out]
      clear hk2 b0 h0 h1 h2 h3 h4 h5
      have HNOK := Lib.hid (show ∀ h' ack', ¬ HelloOK 2 fl xs h' ack' from fun h' ack' ho => by have h1 := HONLY.out h' ack' ho; have h2 := ho.2.2.1; rw [h1.1, h1.2] at h2; exact HK.out h2)
      clear HK
      generalize Ck.chkH ⟨t1, t2, t3, t4, t5, ck⟩ true = kk at hkb ⊢
      have V9 := Lib.hid ((HU7.out.trans hu9.out).trans (up_alloc v8 (.cells #[.int .u8 0, .int .u8 0, .slice none 0 0] 41)))
      unfold chV
      go_upto_region 13 with (fail)
      generalize v8.alloc (.cells #[.int .u8 0, .int .u8 0, .slice none 0 0] 41) = v9 at V9 ⊢
      have HUY := Lib.hid (HU.out.trans V9.out)
      have HQY := Lib.hid ((V9.out.block _ (lt_of_blk HQ.out)).trans HQ.out)
      have e0 := cell_of HQY.out (j := 0) rfl
      have f0 := frozen_at (j := 0) HQY.out
      have e1 := cell_of HQY.out (j := 1) rfl
      have f1 := frozen_at (j := 1) HQY.out
      have e2 := cell_of HQY.out (j := 2) rfl
      have f2 := frozen_at (j := 2) HQY.out
      have e3 := cell_of HQY.out (j := 3) rfl
      have f3 := frozen_at (j := 3) HQY.out
      have e4 := cell_of HQY.out (j := 4) rfl
      have f4 := frozen_at (j := 4) HQY.out
      have e5 := cell_of HQY.out (j := 5) rfl
      have f5 := frozen_at (j := 5) HQY.out
      go_wp2_with fail
      have hs := set6 (a := .int .u32 0) (b := .int .u32 0) (c := .int .u16 0) (d := .int .u16 0) (e := .int .u32 0) (f := .slice none 0 0) HQY.out rfl
      exact bodyPost_ret (results_row_tmp (fn := Try.f22) (p := 2) (u := 3) (ty := 39) rfl _ _ (w.heap.size + 1) 39 _ (0, 0) _ rfl hs.1 Try.underlying39 rfl rfl) rfl (HNo.post ⟨rfl, Lib.hid (Below.out HUY.out hs.2 (fun k hk => by rw [hk]; omega) HUY.out.size)⟩ HNOK.out)
  · have HCA := HC
    go_upto_region 12 with (at_builtin; refine wpList_appendI rfl (.tmp 61) (.tmp 65) 23 rfl .u8 v7.heap.size 5 1 Try.underlying23 info5 (some ⟨v7.heap.size, 0, none⟩) 0 0 [] rfl (ownI_new _ _ _) (some ⟨ga, go + 20, none⟩) (20 + n - 20) (c - 20) ((xs.drop 20).take n) rfl (by have := HL.out; omega) (HCA.out.alloc _) (by omega) (by omega) (by simp) ((Below.refl _ _).alloc (Nat.le_refl _) _) ?_; intro A6 N6 c6 w6 HN6 HW6 HB6 hsz6; have hh6 := (HB6.out.block _ (lt_of_blk HH7.out)).trans HH7.out; have k6 := cell_of hh6 (j := 5) rfl; have y6 := frozen_at (j := 5) hh6)
    have hst := setCell_out w6 hb 5 (.slice A6 N6 c6)
    have hhs := setCell_at (j := 5) (.slice A6 N6 c6) hh6
    have HO6 := Lib.hid (show OwnI .u8 5 v7.heap.size w6 A6 N6 c6 ((xs.drop 20).take n) by have := HW6.out; rw [List.nil_append] at this; exact this)
    have HCK := Lib.hid (show ((xs.drop 20).take n).length = n from HL.out)
    have HCYB := HCY
    have HBH := Lib.hid (lt_of_blk HH7.out)
    have HV7 := Lib.hid V7.out.size
    have HCO := Lib.hid (show OwnI .u8 5 w.heap.size (w6.setCell ⟨hb, 5, none⟩ (.slice A6 N6 c6)) A6 N6 c6 ((xs.drop 20).take n) from OwnI.base (show OwnI .u8 5 v7.heap.size _ A6 N6 c6 _ from hst.own HO6.out (fun q hq e => by have h1 := (row_lt HO6.out (by rwa [ownBlock_slice] at hq)).1; have h2 := HBH.out; have e1 : q = hb := e; omega)) (by have := HV7.out; have := HS.out; omega))
    have HCB := Lib.hid (show ∀ k, blk? A6 = some k → w.heap.size + 1 < k from fun k hk => by have h1 := (row_lt HO6.out hk).1; have := HV7.out; have := HS.out; omega)
    have HU8 := Lib.hid (show Up W (w6.setCell ⟨hb, 5, none⟩ (.slice A6 N6 c6)) from Below.out (V7.out.trans HB6.out) hst (fun k hk => by rw [hk]; exact HBW.out) (by have := (V7.out.trans HB6.out).size; omega))
    have HH8' := Lib.hid (show (w6.setCell ⟨hb, 5, none⟩ (.slice A6 N6 c6)).heap[hb]? = some (.cells #[.int .u32 t1, .int .u32 t2, .int .u16 t3, .int .u16 t4, .int .u32 t5, .slice A6 N6 c6] 39 (0, 0)) from hhs.trans rfl)
    have HN9 := Lib.hid (show N6 = ((xs.drop 20).take n).length by rw [HL.out]; have := HN6.out; omega)
    have HONLY := Lib.hid (show ∀ h' ack', HelloOK 2 fl xs h' ack' → h' = ⟨t1, t2, t3, t4, t5, (xs.drop 20).take n⟩ ∧ ack' = true from fun h' ack' ho => by
      obtain ⟨q1, q2, q3, q4, q5⟩ := rH_t ho
      have q6 : h'.ck.length = n := by rw [← e6.out] at q3; have := HNE.out; omega
      refine ⟨?_, q1⟩
      rw [q5, q6, e1.out, e2.out, e3.out, e4.out, e5.out]; rfl)
    have HOK := Lib.hid (show Ck.HelOk ⟨t1, t2, t3, t4, t5, (xs.drop 20).take n⟩ by
      have := hdH_ok (xs := xs) (ck := (xs.drop 20).take n) HI.out.byt (by rw [HI.out.len]; omega)
      unfold hdH at this
      rw [e1.out, e2.out, e3.out, e4.out, e5.out]; exact this)
    clear hhs hh6 k6 y6 k5 y5
    generalize (w6.setCell ⟨hb, 5, none⟩ (.slice A6 N6 c6)) = w7 at HCO HU8 HH8' hst ⊢
    generalize (xs.drop 20).take n = ck at HCO HONLY HOK HN9 HCYB
    have HCI := Lib.hid (own_inB HCO.out HCYB.out)
    have HH7 := HH8'
    have HU7 := HU8
    clear hst HB6 HW6 HO6 HH8' HU8
    have b0 := cell_up (cell_of HB.out (j := 0) rfl) HU7.out
    have h0 := cell_of HH7.out (j := 0) rfl
    have h1 := cell_of HH7.out (j := 1) rfl
    have h2 := cell_of HH7.out (j := 2) rfl
    have h3 := cell_of HH7.out (j := 3) rfl
    have h4 := cell_of HH7.out (j := 4) rfl
    have h5 := cell_of HH7.out (j := 5) rfl
    by_cases hk0 : Ck.chkH ⟨t1, t2, t3, t4, t5, ck⟩ true = 0
    · have HK := Lib.hid hk0
      clear hk0
      go_wp2_with fail
      refine (rfromH_ok ⟨t1, t2, t3, t4, t5, ck⟩ A6 N6 c6 true w7 HCI.out HK.out HOK.out).mono ?_
      rintro e v8 ⟨A9, N9, c9, rfl, hN9, hO9, hu9⟩
      have V8 := Lib.hid (HU7.out.trans hu9.out)
      have HH8 := Lib.hid ((hu9.out.block _ (lt_of_blk HH7.out)).trans HH7.out)
      clear b0 h0 h1 h2 h3 h4 h5
      unfold chV
      go_upto_region 13 with (fail)
      have V9 := Lib.hid (V8.out.trans (up_alloc v8 (.cells #[.int .u8 2, .int .u8 0, .slice A9 N9 c9] 41)))
      have HH9 := Lib.hid (((up_alloc v8 (.cells #[.int .u8 2, .int .u8 0, .slice A9 N9 c9] 41)).block _ (lt_of_blk HH8.out)).trans HH8.out)
      have HX9 := Lib.hid (new_at v8 (.cells #[.int .u8 2, .int .u8 0, .slice A9 N9 c9] 41))
      have HO9 := Lib.hid (show OwnI .u8 5 w7.heap.size _ A9 N9 c9 (encH ⟨t1, t2, t3, t4, t5, ck⟩ true) from own_up hO9.out (up_alloc v8 (.cells #[.int .u8 2, .int .u8 0, .slice A9 N9 c9] 41)))
      have HC9 := Lib.hid (show OwnI .u8 5 w.heap.size _ A6 N6 c6 ck from own_up (own_up HCO.out hu9.out) (up_alloc v8 (.cells #[.int .u8 2, .int .u8 0, .slice A9 N9 c9] 41)))
      generalize v8.alloc (.cells #[.int .u8 2, .int .u8 0, .slice A9 N9 c9] 41) = v9 at V9 HH9 HX9 HO9 HC9 ⊢
      generalize v8.heap.size = xb at HX9 ⊢
      have x0 := cell_of HX9.out (j := 0) rfl
      have x1 := cell_of HX9.out (j := 1) rfl
      have x2 := cell_of HX9.out (j := 2) rfl
      have HB9 := Lib.hid ((V9.out.block _ (lt_of_blk HB.out)).trans HB.out)
      have p0 := cell_of HB9.out (j := 0) rfl
      have p1 := cell_of HB9.out (j := 1) rfl
      have p2 := cell_of HB9.out (j := 2) rfl
      clear hO9 hu9 V8 HH8
      go_wp2_with fail
      refine (sameC ⟨2, 0, encH ⟨t1, t2, t3, t4, t5, ck⟩ true⟩ ⟨2, fl, xs⟩ A9 _ N9 m c9 c v9 (own_inB HO9.out (show Byt (encH ⟨t1, t2, t3, t4, t5, ck⟩ true) from byt_encH HCI.out.byt)) (HIW.out.up V9.out)).mono ?_
      rintro e y0 ⟨rfl, hu0⟩
      have HUY := Lib.hid ((HU.out.trans V9.out).trans hu0.out)
      have HQY := Lib.hid (((V9.out.trans hu0.out).block _ (lt_of_blk HQ.out)).trans HQ.out)
      have HHY := Lib.hid ((hu0.out.block _ (lt_of_blk HH9.out)).trans HH9.out)
      have HCY9 := Lib.hid (show OwnI .u8 5 w.heap.size _ A6 N6 c6 ck from own_up HC9.out hu0.out)
      clear x0 x1 x2 p0 p1 p2 V9 HH9 HX9 HO9 HC9 HB9
      have e0 := cell_of HQY.out (j := 0) rfl
      have f0 := frozen_at (j := 0) HQY.out
      have e1 := cell_of HQY.out (j := 1) rfl
      have f1 := frozen_at (j := 1) HQY.out
      have e2 := cell_of HQY.out (j := 2) rfl
      have f2 := frozen_at (j := 2) HQY.out
      have e3 := cell_of HQY.out (j := 3) rfl
      have f3 := frozen_at (j := 3) HQY.out
      have e4 := cell_of HQY.out (j := 4) rfl
      have f4 := frozen_at (j := 4) HQY.out
      have e5 := cell_of HQY.out (j := 5) rfl
      have f5 := frozen_at (j := 5) HQY.out
      by_cases hsm : (⟨2, 0, encH ⟨t1, t2, t3, t4, t5, ck⟩ true⟩ : Ck.Chk) = ⟨2, fl, xs⟩
      · have HSM := Lib.hid hsm
        rw [decide_eq_true hsm]
        clear hsm
        have h0 := cell_of HHY.out (j := 0) rfl
        have h1 := cell_of HHY.out (j := 1) rfl
        have h2 := cell_of HHY.out (j := 2) rfl
        have h3 := cell_of HHY.out (j := 3) rfl
        have h4 := cell_of HHY.out (j := 4) rfl
        have h5 := cell_of HHY.out (j := 5) rfl
        go_wp2_with fail
        have hs := set6 (a := .int .u32 t1) (b := .int .u32 t2) (c := .int .u16 t3) (d := .int .u16 t4) (e := .int .u32 t5) (f := .slice A6 N6 c6) HQY.out rfl
        refine bodyPost_ret (results_row_tmp (fn := Try.f22) (p := 2) (u := 3) (ty := 39) rfl _ _ (w.heap.size + 1) 39 _ (0, 0) _ rfl hs.1 Try.underlying39 rfl rfl) rfl ⟨⟨t1, t2, t3, t4, t5, ck⟩, 0, _, _, _, rfl, Lib.hid (.inl ⟨rfl, true, rfl, ?_, HK.out, HOK.out, HCI.out.byt, ?_⟩), Lib.hid HCI.out.len.symm, Lib.hid ?_, Lib.hid HCI.out.byt, HOK, Lib.hid (Below.out HUY.out hs.2 (fun k hk => by rw [hk]; omega) HUY.out.size)⟩
        · have := HSM.out; injection this with q1 q2 q3; exact q2.symm
        · have := HSM.out; injection this with q1 q2 q3; exact q3.symm
        · exact hs.2.own HCY9.out (fun q hq9 e => by have := HCB.out q (by rwa [ownBlock_slice] at hq9); have e1 : q = w.heap.size + 1 := e; omega)
      · have HSM := Lib.hid hsm
        rw [decide_eq_false hsm]
        clear hsm
        go_wp2_with fail
        have hs := set6 (a := .int .u32 0) (b := .int .u32 0) (c := .int .u16 0) (d := .int .u16 0) (e := .int .u32 0) (f := .slice none 0 0) HQY.out rfl
        exact bodyPost_ret (results_row_tmp (fn := Try.f22) (p := 2) (u := 3) (ty := 39) rfl _ _ (w.heap.size + 1) 39 _ (0, 0) _ rfl hs.1 Try.underlying39 rfl rfl) rfl (HNo.post ⟨rfl, Lib.hid (Below.out HUY.out hs.2 (fun k hk => by rw [hk]; omega) HUY.out.size)⟩ (fun h' ack' ho => by have h1 := HONLY.out h' ack' ho; have h2 := ho.2.2.2.2.2; rw [h1.1, h1.2] at h2; exact HSM.out (by rw [← h2, ho.2.1])))
    · have HK := Lib.hid hk0
      have hk2 := chkH_val ⟨t1, t2, t3, t4, t5, ck⟩ true
      clear hk0
      go_wp2_with fail
      refine (rfromH_err ⟨t1, t2, t3, t4, t5, ck⟩ A6 N6 c6 true (Ck.chkH ⟨t1, t2, t3, t4, t5, ck⟩ true) w7 HCI.out.len.symm rfl (hk2.resolve_left HK.out)).mono ?_
      rintro e v8 ⟨rfl, hu9⟩
      have hkb : (Ck.chkH ⟨t1, t2, t3, t4, t5, ck⟩ true != 0) = true := by simp [HK.out]
      clear hk2 b0 h0 h1 h2 h3 h4 h5
      have HNOK := Lib.hid (show ∀ h' ack', ¬ HelloOK 2 fl xs h' ack' from fun h' ack' ho => by have h1 := HONLY.out h' ack' ho; have h2 := ho.2.2.1; rw [h1.1, h1.2] at h2; exact HK.out h2)
      clear HK
      generalize Ck.chkH ⟨t1, t2, t3, t4, t5, ck⟩ true = kk at hkb ⊢
      have V9 := Lib.hid ((HU7.out.trans hu9.out).trans (up_alloc v8 (.cells #[.int .u8 0, .int .u8 0, .slice none 0 0] 41)))
      unfold chV
      go_upto_region 13 with (fail)
      generalize v8.alloc (.cells #[.int .u8 0, .int .u8 0, .slice none 0 0] 41) = v9 at V9 ⊢
      have HUY := Lib.hid (HU.out.trans V9.out)
      have HQY := Lib.hid ((V9.out.block _ (lt_of_blk HQ.out)).trans HQ.out)
      have e0 := cell_of HQY.out (j := 0) rfl
      have f0 := frozen_at (j := 0) HQY.out
      have e1 := cell_of HQY.out (j := 1) rfl
      have f1 := frozen_at (j := 1) HQY.out
      have e2 := cell_of HQY.out (j := 2) rfl
      have f2 := frozen_at (j := 2) HQY.out
      have e3 := cell_of HQY.out (j := 3) rfl
      have f3 := frozen_at (j := 3) HQY.out
      have e4 := cell_of HQY.out (j := 4) rfl
      have f4 := frozen_at (j := 4) HQY.out
      have e5 := cell_of HQY.out (j := 5) rfl
      have f5 := frozen_at (j := 5) HQY.out
      go_wp2_with fail
      have hs := set6 (a := .int .u32 0) (b := .int .u32 0) (c := .int .u16 0) (d := .int .u16 0) (e := .int .u32 0) (f := .slice none 0 0) HQY.out rfl
      exact bodyPost_ret (results_row_tmp (fn := Try.f22) (p := 2) (u := 3) (ty := 39) rfl _ _ (w.heap.size + 1) 39 _ (0, 0) _ rfl hs.1 Try.underlying39 rfl rfl) rfl (HNo.post ⟨rfl, Lib.hid (Below.out HUY.out hs.2 (fun k hk => by rw [hk]; omega) HUY.out.size)⟩ HNOK.out)
end Go.Proofs.Ytgikgcepeniekaa
