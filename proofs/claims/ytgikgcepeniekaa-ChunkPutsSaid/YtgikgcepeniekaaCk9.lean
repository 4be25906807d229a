import Derived.Test.YtgikgcepeniekaaCk7
namespace Go.Proofs.Ytgikgcepeniekaa
open Go Go.RowKit
set_option linter.unusedVariables false
/-- The bytes of what a side says of itself. -/
def encH0 (h : Ck.Hel) : List Int := be h.tag 4 ++ be h.win 4 ++ be h.out 2 ++ be h.inn 2 ++ be h.tsn 4
def encH (h : Ck.Hel) (ack : Bool) : List Int := if ack then encH0 h ++ be 7 2 ++ be (4 + (h.ck.length : Int)) 2 ++ padL h.ck else encH0 h
def helC (h : Ck.Hel) (v : Value) : Array Value := #[.int .u32 h.tag, .int .u32 h.win, .int .u16 h.out, .int .u16 h.inn, .int .u32 h.tsn, v]
set_option maxRecDepth 100000 in
theorem fromH_err (h : Ck.Hel) (A : Option Addr) (m c : Nat) (ack : Bool) (k : Int) (w : World) (hm : m = h.ck.length) (hk : Ck.chkH h ack = k) (hk2 : k = 2 ∨ k = 4) :
    Calls Try.prog 17 #[helV h (.slice A m c), .bool ack] w (ChErr k w) := by
  obtain ⟨W, hW⟩ : ∃ W, W = (w.alloc (.cells #[.int .u32 h.tag, .int .u32 h.win, .int .u16 h.out, .int .u16 h.inn, .int .u32 h.tsn, .slice A m c] 39)).alloc (.cells #[.int .u8 0, .int .u8 0, .slice none 0 0] 41) := ⟨_, rfl⟩
  have u1 := up_alloc w (.cells #[.int .u32 h.tag, .int .u32 h.win, .int .u16 h.out, .int .u16 h.inn, .int .u32 h.tsn, .slice A m c] 39)
  have a1 := new_at w (.cells #[.int .u32 h.tag, .int .u32 h.win, .int .u16 h.out, .int .u16 h.inn, .int .u32 h.tsn, .slice A m c] 39)
  have u2 := up_alloc (w.alloc (.cells #[.int .u32 h.tag, .int .u32 h.win, .int .u16 h.out, .int .u16 h.inn, .int .u32 h.tsn, .slice A m c] 39)) (.cells #[.int .u8 0, .int .u8 0, .slice none 0 0] 41)
  have a2 := new_at (w.alloc (.cells #[.int .u32 h.tag, .int .u32 h.win, .int .u16 h.out, .int .u16 h.inn, .int .u32 h.tsn, .slice A m c] 39)) (.cells #[.int .u8 0, .int .u8 0, .slice none 0 0] 41)
  have b1 := (u2.block _ (lt_of_blk a1)).trans a1
  have s1 : (w.alloc (.cells #[.int .u32 h.tag, .int .u32 h.win, .int .u16 h.out, .int .u16 h.inn, .int .u32 h.tsn, .slice A m c] 39)).heap.size = w.heap.size + 1 := by simp
  rw [s1] at a2
  have HU := Lib.hid (u1.trans u2)
  rw [← hW] at a2 b1 HU
  have HW := Lib.hid hW
  have HQ := Lib.hid a2
  have HM := Lib.hid hm
  have HK := Lib.hid hk
  have c0 := cell_of b1 (j := 0) rfl
  have c1 := cell_of b1 (j := 1) rfl
  have c2 := cell_of b1 (j := 2) rfl
  have c3 := cell_of b1 (j := 3) rfl
  have c4 := cell_of b1 (j := 4) rfl
  have c5 := cell_of b1 (j := 5) rfl
  clear u1 a1 u2 a2 b1 s1 hW hm hk
  unfold helV
  go_enter Try.func17, Try.ntmps17
  go_upto_region 1 with (fail)
  rw [← HW.out]
  go_wp2_with fail
  refine (chkH_any h A m c ack W HM.out).mono ?_
  rintro e w1 ⟨rfl, hu⟩
  rw [HK.out]
  have HQ1 := Lib.hid ((hu.out.block _ (lt_of_blk HQ.out)).trans HQ.out)
  have HU1 := Lib.hid (HU.out.trans hu.out)
  have e0 := cell_of HQ1.out (j := 0) rfl
  have e1 := cell_of HQ1.out (j := 1) rfl
  have e2 := cell_of HQ1.out (j := 2) rfl
  have f0 := frozen_at (j := 0) HQ1.out
  have f1 := frozen_at (j := 1) HQ1.out
  have f2 := frozen_at (j := 2) HQ1.out
  clear c0 c1 c2 c3 c4 c5 hu
  rcases hk2 with rfl | rfl
  · go_wp2_with fail
    have hs := set3 (a := .int .u8 0) (b := .int .u8 0) (c := .slice none 0 0) HQ1.out rfl
    refine bodyPost_ret (results_row_tmp (fn := Try.f17) (p := 4) (u := 5) (ty := 41) rfl _ _ (w.heap.size + 1) 41 _ (0, 0) _ rfl hs.1 Try.underlying41 rfl rfl) rfl ⟨rfl, Lib.hid (Below.out HU1.out hs.2 (fun k hk => by rw [hk]; omega) HU1.out.size)⟩
  · go_wp2_with fail
    have hs := set3 (a := .int .u8 0) (b := .int .u8 0) (c := .slice none 0 0) HQ1.out rfl
    refine bodyPost_ret (results_row_tmp (fn := Try.f17) (p := 4) (u := 5) (ty := 41) rfl _ _ (w.heap.size + 1) 41 _ (0, 0) _ rfl hs.1 Try.underlying41 rfl rfl) rfl ⟨rfl, Lib.hid (Below.out HU1.out hs.2 (fun k hk => by rw [hk]; omega) HU1.out.size)⟩
end Go.Proofs.Ytgikgcepeniekaa
namespace Go.Proofs.Ytgikgcepeniekaa
open Go Go.RowKit
set_option linter.unusedVariables false
set_option linter.unusedSimpArgs false
set_option maxRecDepth 100000 in
set_option maxHeartbeats 1000000 in
theorem fromH_ok_f (h : Ck.Hel) (A : Option Addr) (m c : Nat) (w : World) (hin : InB w A m c h.ck) (hk : Ck.chkH h false = 0) (ho : Ck.HelOk h) (hm : m ≤ 256) :
    Calls Try.prog 17 #[helV h (.slice A m c), .bool false] w (ChPost 1 0 (encH h false) w) := by
  obtain ⟨W, hW⟩ : ∃ W, W = (w.alloc (.cells #[.int .u32 h.tag, .int .u32 h.win, .int .u16 h.out, .int .u16 h.inn, .int .u32 h.tsn, .slice A m c] 39)).alloc (.cells #[.int .u8 0, .int .u8 0, .slice none 0 0] 41) := ⟨_, rfl⟩
  have u1 := up_alloc w (.cells #[.int .u32 h.tag, .int .u32 h.win, .int .u16 h.out, .int .u16 h.inn, .int .u32 h.tsn, .slice A m c] 39)
  have a1 := new_at w (.cells #[.int .u32 h.tag, .int .u32 h.win, .int .u16 h.out, .int .u16 h.inn, .int .u32 h.tsn, .slice A m c] 39)
  have u2 := up_alloc (w.alloc (.cells #[.int .u32 h.tag, .int .u32 h.win, .int .u16 h.out, .int .u16 h.inn, .int .u32 h.tsn, .slice A m c] 39)) (.cells #[.int .u8 0, .int .u8 0, .slice none 0 0] 41)
  have a2 := new_at (w.alloc (.cells #[.int .u32 h.tag, .int .u32 h.win, .int .u16 h.out, .int .u16 h.inn, .int .u32 h.tsn, .slice A m c] 39)) (.cells #[.int .u8 0, .int .u8 0, .slice none 0 0] 41)
  have b1 := (u2.block _ (lt_of_blk a1)).trans a1
  have s1 : (w.alloc (.cells #[.int .u32 h.tag, .int .u32 h.win, .int .u16 h.out, .int .u16 h.inn, .int .u32 h.tsn, .slice A m c] 39)).heap.size = w.heap.size + 1 := by simp
  rw [s1] at a2
  have HU := Lib.hid (u1.trans u2)
  rw [← hW] at a2 b1 HU
  have HW := Lib.hid hW
  have HQ := Lib.hid a2
  have HB := Lib.hid b1
  have c0 := cell_of b1 (j := 0) rfl
  have c1 := cell_of b1 (j := 1) rfl
  have c2 := cell_of b1 (j := 2) rfl
  have c3 := cell_of b1 (j := 3) rfl
  have c4 := cell_of b1 (j := 4) rfl
  have c5 := cell_of b1 (j := 5) rfl
  clear u1 a1 u2 a2 b1 s1 hW
  have HI := Lib.hid hin
  have HK := Lib.hid hk
  have HO := Lib.hid ho
  clear hin hk ho
  unfold helV
  go_enter Try.func17, Try.ntmps17
  go_upto_region 1 with (fail)
  rw [← HW.out]
  go_wp2_with fail
  refine (chkH_any h A m c false W HI.out.len.symm).mono ?_
  rintro e w1 ⟨rfl, hu⟩
  rw [HK.out]
  have HQ1 := Lib.hid ((hu.out.block _ (lt_of_blk HQ.out)).trans HQ.out)
  have HB1 := Lib.hid ((hu.out.block _ (lt_of_blk HB.out)).trans HB.out)
  have F0 := Lib.hid (FH.start HB1.out HQ1.out (HU.out.trans hu.out))
  clear c0 c1 c2 c3 c4 c5 hu HQ1 HB1
  go_upto_region 5 with (fail)
  generalize (w1.alloc (.cells #[.slice none 0 0] 70)) = w2 at F0 ⊢
  generalize w1.heap.size = g at F0 ⊢
  have k0 := F0.out.cell (j := 0) rfl
  go_wp2_with fail
  refine (F0.out.four HO.out.tag.1 HO.out.tag.2 (by simp [be_length])).mono ?_
  rintro e v0 ⟨rfl, F1⟩
  clear k0 F0
  have k1 := F1.out.cell (j := 1) rfl
  go_wp2_with fail
  refine (F1.out.four HO.out.win.1 HO.out.win.2 (by simp [be_length])).mono ?_
  rintro e v1 ⟨rfl, F2⟩
  clear k1 F1
  have k2 := F2.out.cell (j := 2) rfl
  go_wp2_with fail
  refine (F2.out.two HO.out.out.1 HO.out.out.2 (by simp [be_length])).mono ?_
  rintro e v2 ⟨rfl, F3⟩
  clear k2 F2
  have k3 := F3.out.cell (j := 3) rfl
  go_wp2_with fail
  refine (F3.out.two HO.out.inn.1 HO.out.inn.2 (by simp [be_length])).mono ?_
  rintro e v3 ⟨rfl, F4⟩
  clear k3 F3
  have k4 := F4.out.cell (j := 4) rfl
  go_wp2_with fail
  refine (F4.out.four HO.out.tsn.1 HO.out.tsn.2 (by simp [be_length])).mono ?_
  rintro e v4 ⟨rfl, F5⟩
  clear k4 F4
  obtain ⟨A9, N9, c9, k9, hN9, hO9, hq9, hd9, hu9⟩ := F5.out.fin
  have e0 := cell_of hq9.out (j := 0) rfl
  have f0 := frozen_at (j := 0) hq9.out
  have e1 := cell_of hq9.out (j := 1) rfl
  have f1 := frozen_at (j := 1) hq9.out
  have e2 := cell_of hq9.out (j := 2) rfl
  have f2 := frozen_at (j := 2) hq9.out
  go_wp2_with fail
  have hs := set3 (a := .int .u8 1) (b := .int .u8 0) (c := .slice A9 N9 c9) hq9.out rfl
  refine bodyPost_ret (results_row_tmp (fn := Try.f17) (p := 4) (u := 5) (ty := 41) rfl _ _ (w.heap.size + 1) 41 _ (0, 0) _ rfl hs.1 Try.underlying41 rfl rfl) rfl ⟨A9, N9, c9, rfl, Lib.hid ?_, Lib.hid ?_, Lib.hid (Below.out hu9.out hs.2 (fun k hk => by rw [hk]; omega) hu9.out.size)⟩
  · rw [hN9.out]
    simp [encH, encH0]
  · have := show OwnI .u8 5 w.heap.size _ A9 N9 c9 _ from hs.2.own hO9.out (fun q hq e => hd9.out q (by rwa [ownBlock_slice] at hq) e)
    simpa [encH, encH0] using this
set_option maxRecDepth 100000 in
set_option maxHeartbeats 1000000 in
theorem fromH_ok_t (h : Ck.Hel) (A : Option Addr) (m c : Nat) (w : World) (hin : InB w A m c h.ck) (hk : Ck.chkH h true = 0) (ho : Ck.HelOk h) (hm : m ≤ 256) :
    Calls Try.prog 17 #[helV h (.slice A m c), .bool true] w (ChPost 2 0 (encH h true) w) := by
  obtain ⟨W, hW⟩ : ∃ W, W = (w.alloc (.cells #[.int .u32 h.tag, .int .u32 h.win, .int .u16 h.out, .int .u16 h.inn, .int .u32 h.tsn, .slice A m c] 39)).alloc (.cells #[.int .u8 0, .int .u8 0, .slice none 0 0] 41) := ⟨_, rfl⟩
  have u1 := up_alloc w (.cells #[.int .u32 h.tag, .int .u32 h.win, .int .u16 h.out, .int .u16 h.inn, .int .u32 h.tsn, .slice A m c] 39)
  have a1 := new_at w (.cells #[.int .u32 h.tag, .int .u32 h.win, .int .u16 h.out, .int .u16 h.inn, .int .u32 h.tsn, .slice A m c] 39)
  have u2 := up_alloc (w.alloc (.cells #[.int .u32 h.tag, .int .u32 h.win, .int .u16 h.out, .int .u16 h.inn, .int .u32 h.tsn, .slice A m c] 39)) (.cells #[.int .u8 0, .int .u8 0, .slice none 0 0] 41)
  have a2 := new_at (w.alloc (.cells #[.int .u32 h.tag, .int .u32 h.win, .int .u16 h.out, .int .u16 h.inn, .int .u32 h.tsn, .slice A m c] 39)) (.cells #[.int .u8 0, .int .u8 0, .slice none 0 0] 41)
  have b1 := (u2.block _ (lt_of_blk a1)).trans a1
  have s1 : (w.alloc (.cells #[.int .u32 h.tag, .int .u32 h.win, .int .u16 h.out, .int .u16 h.inn, .int .u32 h.tsn, .slice A m c] 39)).heap.size = w.heap.size + 1 := by simp
  rw [s1] at a2
  have HU := Lib.hid (u1.trans u2)
  rw [← hW] at a2 b1 HU
  have HW := Lib.hid hW
  have HQ := Lib.hid a2
  have HB := Lib.hid b1
  have c0 := cell_of b1 (j := 0) rfl
  have c1 := cell_of b1 (j := 1) rfl
  have c2 := cell_of b1 (j := 2) rfl
  have c3 := cell_of b1 (j := 3) rfl
  have c4 := cell_of b1 (j := 4) rfl
  have c5 := cell_of b1 (j := 5) rfl
  clear u1 a1 u2 a2 b1 s1 hW
  have HI := Lib.hid hin
  have HK := Lib.hid hk
  have HO := Lib.hid ho
  clear hin hk ho
  unfold helV
  go_enter Try.func17, Try.ntmps17
  go_upto_region 1 with (fail)
  rw [← HW.out]
  go_wp2_with fail
  refine (chkH_any h A m c true W HI.out.len.symm).mono ?_
  rintro e w1 ⟨rfl, hu⟩
  rw [HK.out]
  have HQ1 := Lib.hid ((hu.out.block _ (lt_of_blk HQ.out)).trans HQ.out)
  have HB1 := Lib.hid ((hu.out.block _ (lt_of_blk HB.out)).trans HB.out)
  have F0 := Lib.hid (FH.start HB1.out HQ1.out (HU.out.trans hu.out))
  clear c0 c1 c2 c3 c4 c5 hu HQ1 HB1
  go_upto_region 5 with (fail)
  generalize (w1.alloc (.cells #[.slice none 0 0] 70)) = w2 at F0 ⊢
  generalize w1.heap.size = g at F0 ⊢
  have k0 := F0.out.cell (j := 0) rfl
  go_wp2_with fail
  refine (F0.out.four HO.out.tag.1 HO.out.tag.2 (by simp [be_length])).mono ?_
  rintro e v0 ⟨rfl, F1⟩
  clear k0 F0
  have k1 := F1.out.cell (j := 1) rfl
  go_wp2_with fail
  refine (F1.out.four HO.out.win.1 HO.out.win.2 (by simp [be_length])).mono ?_
  rintro e v1 ⟨rfl, F2⟩
  clear k1 F1
  have k2 := F2.out.cell (j := 2) rfl
  go_wp2_with fail
  refine (F2.out.two HO.out.out.1 HO.out.out.2 (by simp [be_length])).mono ?_
  rintro e v2 ⟨rfl, F3⟩
  clear k2 F2
  have k3 := F3.out.cell (j := 3) rfl
  go_wp2_with fail
  refine (F3.out.two HO.out.inn.1 HO.out.inn.2 (by simp [be_length])).mono ?_
  rintro e v3 ⟨rfl, F4⟩
  clear k3 F3
  have k4 := F4.out.cell (j := 4) rfl
  go_wp2_with fail
  refine (F4.out.four HO.out.tsn.1 HO.out.tsn.2 (by simp [be_length])).mono ?_
  rintro e v4 ⟨rfl, F5⟩
  clear k4 F4
  go_wp2_with fail
  refine (F5.out.two (n := 7) (by omega) (by omega) (by simp [be_length])).mono ?_
  rintro e v5 ⟨rfl, F6⟩
  have k6 := F6.out.cell (j := 5) rfl
  go_wp2_with fail
  refine (F6.out.padded HI.out (by omega) (by simp [be_length])).mono ?_
  rintro e v6 ⟨rfl, F7⟩
  clear k6
  obtain ⟨A9, N9, c9, k9, hN9, hO9, hq9, hd9, hu9⟩ := F7.out.fin
  have e0 := cell_of hq9.out (j := 0) rfl
  have f0 := frozen_at (j := 0) hq9.out
  have e1 := cell_of hq9.out (j := 1) rfl
  have f1 := frozen_at (j := 1) hq9.out
  have e2 := cell_of hq9.out (j := 2) rfl
  have f2 := frozen_at (j := 2) hq9.out
  go_wp2_with fail
  have hs := set3 (a := .int .u8 2) (b := .int .u8 0) (c := .slice A9 N9 c9) hq9.out rfl
  refine bodyPost_ret (results_row_tmp (fn := Try.f17) (p := 4) (u := 5) (ty := 41) rfl _ _ (w.heap.size + 1) 41 _ (0, 0) _ rfl hs.1 Try.underlying41 rfl rfl) rfl ⟨A9, N9, c9, rfl, Lib.hid ?_, Lib.hid ?_, Lib.hid (Below.out hu9.out hs.2 (fun k hk => by rw [hk]; omega) hu9.out.size)⟩
  · rw [hN9.out]
    simp [encH, encH0, HI.out.len]
  · have := show OwnI .u8 5 w.heap.size _ A9 N9 c9 _ from hs.2.own hO9.out (fun q hq e => hd9.out q (by rwa [ownBlock_slice] at hq) e)
    simpa [encH, encH0, HI.out.len] using this
theorem fromH_ok (h : Ck.Hel) (A : Option Addr) (m c : Nat) (ack : Bool) (w : World) (hin : InB w A m c h.ck) (hk : Ck.chkH h ack = 0) (ho : Ck.HelOk h) :
    Calls Try.prog 17 #[helV h (.slice A m c), .bool ack] w (ChPost (if ack then 2 else 1) 0 (encH h ack) w) := by
  have hm : m ≤ 256 := by
    unfold Ck.chkH at hk
    split at hk
    · omega
    · split at hk
      · omega
      · have := hin.len; omega
  cases ack
  · exact fromH_ok_f h A m c w hin hk ho hm
  · exact fromH_ok_t h A m c w hin hk ho hm
end Go.Proofs.Ytgikgcepeniekaa
