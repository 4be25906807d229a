import Derived.Test.YtgikgcepeniekaaCk16
import Derived.Test.YtgikgcepeniekaaCk12
namespace Go.Proofs.Ytgikgcepeniekaa
open Go Go.RowKit
set_option linter.unusedVariables false
set_option linter.unusedSimpArgs false
/-! The reference's FromPiece. -/
set_option maxRecDepth 100000 in
theorem rfromP_a (p : Ck.Pc) (A : Option Addr) (m c : Nat) (w : World) (h1 : m = 0) : Calls Try.prog 24 #[pcV p (.slice A m c)] w (ChErr 2 w) := by
  subst h1
  obtain ⟨W, hW⟩ : ∃ W, W = (w.alloc (.cells #[.int .u32 p.tsn, .int .u16 p.str, .int .u16 p.seq, .bool p.bg, .bool p.en, .bool p.un, .slice A 0 c] 50)).alloc (.cells #[.int .u8 0, .int .u8 0, .slice none 0 0] 41) := ⟨_, rfl⟩
  have u1 := up_alloc w (.cells #[.int .u32 p.tsn, .int .u16 p.str, .int .u16 p.seq, .bool p.bg, .bool p.en, .bool p.un, .slice A 0 c] 50)
  have a1 := new_at w (.cells #[.int .u32 p.tsn, .int .u16 p.str, .int .u16 p.seq, .bool p.bg, .bool p.en, .bool p.un, .slice A 0 c] 50)
  have u2 := up_alloc (w.alloc (.cells #[.int .u32 p.tsn, .int .u16 p.str, .int .u16 p.seq, .bool p.bg, .bool p.en, .bool p.un, .slice A 0 c] 50)) (.cells #[.int .u8 0, .int .u8 0, .slice none 0 0] 41)
  have a2 := new_at (w.alloc (.cells #[.int .u32 p.tsn, .int .u16 p.str, .int .u16 p.seq, .bool p.bg, .bool p.en, .bool p.un, .slice A 0 c] 50)) (.cells #[.int .u8 0, .int .u8 0, .slice none 0 0] 41)
  have b1 := (u2.block _ (lt_of_blk a1)).trans a1
  have s1 : (w.alloc (.cells #[.int .u32 p.tsn, .int .u16 p.str, .int .u16 p.seq, .bool p.bg, .bool p.en, .bool p.un, .slice A 0 c] 50)).heap.size = w.heap.size + 1 := by simp
  rw [s1] at a2
  have HS := Lib.hid (show ((w.alloc (.cells #[.int .u32 p.tsn, .int .u16 p.str, .int .u16 p.seq, .bool p.bg, .bool p.en, .bool p.un, .slice A 0 c] 50)).alloc (.cells #[.int .u8 0, .int .u8 0, .slice none 0 0] 41)).heap.size = w.heap.size + 1 + 1 by simp)
  have HU := Lib.hid (u1.trans u2)
  rw [← hW] at a2 b1 HU HS
  have HW := Lib.hid hW
  have HQ := Lib.hid a2
  have HB := Lib.hid b1
  have c0 := cell_of b1 (j := 0) rfl
  have c1 := cell_of b1 (j := 1) rfl
  have c2 := cell_of b1 (j := 2) rfl
  have c3 := cell_of b1 (j := 3) rfl
  have c4 := cell_of b1 (j := 4) rfl
  have c5 := cell_of b1 (j := 5) rfl
  have c6 := cell_of b1 (j := 6) rfl
  clear u1 a1 u2 a2 b1 s1 hW
  skip
  skip
  unfold pcV
  go_enter Try.func24, Try.ntmps24
  go_upto_region 1 with (fail)
  rw [← HW.out]
  have e0 := cell_of HQ.out (j := 0) rfl
  have f0 := frozen_at (j := 0) HQ.out
  have e1 := cell_of HQ.out (j := 1) rfl
  have f1 := frozen_at (j := 1) HQ.out
  have e2 := cell_of HQ.out (j := 2) rfl
  have f2 := frozen_at (j := 2) HQ.out
  go_wp2_with fail
  have hs := set3 (a := .int .u8 0) (b := .int .u8 0) (c := .slice none 0 0) HQ.out rfl
  exact bodyPost_ret (results_row_tmp (fn := Try.f24) (p := 2) (u := 3) (ty := 41) rfl _ _ (w.heap.size + 1) 41 _ (0, 0) _ rfl hs.1 Try.underlying41 rfl rfl) rfl ⟨rfl, Lib.hid (Below.out HU.out hs.2 (fun k hk => by rw [hk]; omega) HU.out.size)⟩
set_option maxRecDepth 100000 in
theorem rfromP_b (p : Ck.Pc) (A : Option Addr) (m c : Nat) (w : World) (h1 : 0 < m) (h2 : 8 ≤ p.str) : Calls Try.prog 24 #[pcV p (.slice A m c)] w (ChErr 2 w) := by

  obtain ⟨W, hW⟩ : ∃ W, W = (w.alloc (.cells #[.int .u32 p.tsn, .int .u16 p.str, .int .u16 p.seq, .bool p.bg, .bool p.en, .bool p.un, .slice A m c] 50)).alloc (.cells #[.int .u8 0, .int .u8 0, .slice none 0 0] 41) := ⟨_, rfl⟩
  have u1 := up_alloc w (.cells #[.int .u32 p.tsn, .int .u16 p.str, .int .u16 p.seq, .bool p.bg, .bool p.en, .bool p.un, .slice A m c] 50)
  have a1 := new_at w (.cells #[.int .u32 p.tsn, .int .u16 p.str, .int .u16 p.seq, .bool p.bg, .bool p.en, .bool p.un, .slice A m c] 50)
  have u2 := up_alloc (w.alloc (.cells #[.int .u32 p.tsn, .int .u16 p.str, .int .u16 p.seq, .bool p.bg, .bool p.en, .bool p.un, .slice A m c] 50)) (.cells #[.int .u8 0, .int .u8 0, .slice none 0 0] 41)
  have a2 := new_at (w.alloc (.cells #[.int .u32 p.tsn, .int .u16 p.str, .int .u16 p.seq, .bool p.bg, .bool p.en, .bool p.un, .slice A m c] 50)) (.cells #[.int .u8 0, .int .u8 0, .slice none 0 0] 41)
  have b1 := (u2.block _ (lt_of_blk a1)).trans a1
  have s1 : (w.alloc (.cells #[.int .u32 p.tsn, .int .u16 p.str, .int .u16 p.seq, .bool p.bg, .bool p.en, .bool p.un, .slice A m c] 50)).heap.size = w.heap.size + 1 := by simp
  rw [s1] at a2
  have HS := Lib.hid (show ((w.alloc (.cells #[.int .u32 p.tsn, .int .u16 p.str, .int .u16 p.seq, .bool p.bg, .bool p.en, .bool p.un, .slice A m c] 50)).alloc (.cells #[.int .u8 0, .int .u8 0, .slice none 0 0] 41)).heap.size = w.heap.size + 1 + 1 by simp)
  have HU := Lib.hid (u1.trans u2)
  rw [← hW] at a2 b1 HU HS
  have HW := Lib.hid hW
  have HQ := Lib.hid a2
  have HB := Lib.hid b1
  have c0 := cell_of b1 (j := 0) rfl
  have c1 := cell_of b1 (j := 1) rfl
  have c2 := cell_of b1 (j := 2) rfl
  have c3 := cell_of b1 (j := 3) rfl
  have c4 := cell_of b1 (j := 4) rfl
  have c5 := cell_of b1 (j := 5) rfl
  have c6 := cell_of b1 (j := 6) rfl
  clear u1 a1 u2 a2 b1 s1 hW
  have d1 : ((m : Int) == 0) = false := by rw [beq_eq_false_iff_ne]; omega
  have d2 : decide (8 ≤ p.str) = true := by simp; omega
  unfold pcV
  go_enter Try.func24, Try.ntmps24
  go_upto_region 1 with (fail)
  rw [← HW.out]
  have e0 := cell_of HQ.out (j := 0) rfl
  have f0 := frozen_at (j := 0) HQ.out
  have e1 := cell_of HQ.out (j := 1) rfl
  have f1 := frozen_at (j := 1) HQ.out
  have e2 := cell_of HQ.out (j := 2) rfl
  have f2 := frozen_at (j := 2) HQ.out
  go_wp2_with fail
  have hs := set3 (a := .int .u8 0) (b := .int .u8 0) (c := .slice none 0 0) HQ.out rfl
  exact bodyPost_ret (results_row_tmp (fn := Try.f24) (p := 2) (u := 3) (ty := 41) rfl _ _ (w.heap.size + 1) 41 _ (0, 0) _ rfl hs.1 Try.underlying41 rfl rfl) rfl ⟨rfl, Lib.hid (Below.out HU.out hs.2 (fun k hk => by rw [hk]; omega) HU.out.size)⟩
set_option maxRecDepth 100000 in
theorem rfromP_c (p : Ck.Pc) (A : Option Addr) (m c : Nat) (w : World) (h1 : 256 < m) (h2 : p.str < 8) : Calls Try.prog 24 #[pcV p (.slice A m c)] w (ChErr 4 w) := by

  obtain ⟨W, hW⟩ : ∃ W, W = (w.alloc (.cells #[.int .u32 p.tsn, .int .u16 p.str, .int .u16 p.seq, .bool p.bg, .bool p.en, .bool p.un, .slice A m c] 50)).alloc (.cells #[.int .u8 0, .int .u8 0, .slice none 0 0] 41) := ⟨_, rfl⟩
  have u1 := up_alloc w (.cells #[.int .u32 p.tsn, .int .u16 p.str, .int .u16 p.seq, .bool p.bg, .bool p.en, .bool p.un, .slice A m c] 50)
  have a1 := new_at w (.cells #[.int .u32 p.tsn, .int .u16 p.str, .int .u16 p.seq, .bool p.bg, .bool p.en, .bool p.un, .slice A m c] 50)
  have u2 := up_alloc (w.alloc (.cells #[.int .u32 p.tsn, .int .u16 p.str, .int .u16 p.seq, .bool p.bg, .bool p.en, .bool p.un, .slice A m c] 50)) (.cells #[.int .u8 0, .int .u8 0, .slice none 0 0] 41)
  have a2 := new_at (w.alloc (.cells #[.int .u32 p.tsn, .int .u16 p.str, .int .u16 p.seq, .bool p.bg, .bool p.en, .bool p.un, .slice A m c] 50)) (.cells #[.int .u8 0, .int .u8 0, .slice none 0 0] 41)
  have b1 := (u2.block _ (lt_of_blk a1)).trans a1
  have s1 : (w.alloc (.cells #[.int .u32 p.tsn, .int .u16 p.str, .int .u16 p.seq, .bool p.bg, .bool p.en, .bool p.un, .slice A m c] 50)).heap.size = w.heap.size + 1 := by simp
  rw [s1] at a2
  have HS := Lib.hid (show ((w.alloc (.cells #[.int .u32 p.tsn, .int .u16 p.str, .int .u16 p.seq, .bool p.bg, .bool p.en, .bool p.un, .slice A m c] 50)).alloc (.cells #[.int .u8 0, .int .u8 0, .slice none 0 0] 41)).heap.size = w.heap.size + 1 + 1 by simp)
  have HU := Lib.hid (u1.trans u2)
  rw [← hW] at a2 b1 HU HS
  have HW := Lib.hid hW
  have HQ := Lib.hid a2
  have HB := Lib.hid b1
  have c0 := cell_of b1 (j := 0) rfl
  have c1 := cell_of b1 (j := 1) rfl
  have c2 := cell_of b1 (j := 2) rfl
  have c3 := cell_of b1 (j := 3) rfl
  have c4 := cell_of b1 (j := 4) rfl
  have c5 := cell_of b1 (j := 5) rfl
  have c6 := cell_of b1 (j := 6) rfl
  clear u1 a1 u2 a2 b1 s1 hW
  have d1 : ((m : Int) == 0) = false := by rw [beq_eq_false_iff_ne]; omega
  have d2 : decide (8 ≤ p.str) = false := by simp; omega
  unfold pcV
  go_enter Try.func24, Try.ntmps24
  go_upto_region 1 with (fail)
  rw [← HW.out]
  have e0 := cell_of HQ.out (j := 0) rfl
  have f0 := frozen_at (j := 0) HQ.out
  have e1 := cell_of HQ.out (j := 1) rfl
  have f1 := frozen_at (j := 1) HQ.out
  have e2 := cell_of HQ.out (j := 2) rfl
  have f2 := frozen_at (j := 2) HQ.out
  go_wp2_with fail
  have hs := set3 (a := .int .u8 0) (b := .int .u8 0) (c := .slice none 0 0) HQ.out rfl
  exact bodyPost_ret (results_row_tmp (fn := Try.f24) (p := 2) (u := 3) (ty := 41) rfl _ _ (w.heap.size + 1) 41 _ (0, 0) _ rfl hs.1 Try.underlying41 rfl rfl) rfl ⟨rfl, Lib.hid (Below.out HU.out hs.2 (fun k hk => by rw [hk]; omega) HU.out.size)⟩
theorem rfromP_err (p : Ck.Pc) (A : Option Addr) (m c : Nat) (k : Int) (w : World) (hm : m = p.bs.length) (hk : Ck.chkP p = k) (hk2 : k = 2 ∨ k = 4) : Calls Try.prog 24 #[pcV p (.slice A m c)] w (ChErr k w) := by
  unfold Ck.chkP at hk
  by_cases h1 : p.bs.length = 0
  · rw [if_pos (.inl h1)] at hk; subst hk; exact rfromP_a p A m c w (by omega)
  by_cases h2 : 8 ≤ p.str
  · rw [if_pos (.inr h2)] at hk; subst hk; exact rfromP_b p A m c w (by omega) h2
  rw [if_neg (fun hc => hc.elim h1 h2)] at hk
  by_cases h3 : 256 < p.bs.length
  · rw [if_pos h3] at hk; subst hk; exact rfromP_c p A m c w (by omega) (by omega)
  · rw [if_neg h3] at hk; omega
set_option maxRecDepth 100000 in
set_option maxHeartbeats 2000000 in
theorem rfromP_fff (p : Ck.Pc) (A : Option Addr) (m c : Nat) (w : World) (hin : InB w A m c p.bs) (ho : Ck.PcOk p) (h0 : 0 < m) (hm : m ≤ 256) (h8 : p.str < 8) : Calls Try.prog 24 #[.agg #[.int .u32 p.tsn, .int .u16 p.str, .int .u16 p.seq, .bool false, .bool false, .bool false, .slice A m c]] w (ChPost 0 0 (encP p) w) := by
  obtain ⟨W, hW⟩ : ∃ W, W = (w.alloc (.cells #[.int .u32 p.tsn, .int .u16 p.str, .int .u16 p.seq, .bool false, .bool false, .bool false, .slice A m c] 50)).alloc (.cells #[.int .u8 0, .int .u8 0, .slice none 0 0] 41) := ⟨_, rfl⟩
  have u1 := up_alloc w (.cells #[.int .u32 p.tsn, .int .u16 p.str, .int .u16 p.seq, .bool false, .bool false, .bool false, .slice A m c] 50)
  have a1 := new_at w (.cells #[.int .u32 p.tsn, .int .u16 p.str, .int .u16 p.seq, .bool false, .bool false, .bool false, .slice A m c] 50)
  have u2 := up_alloc (w.alloc (.cells #[.int .u32 p.tsn, .int .u16 p.str, .int .u16 p.seq, .bool false, .bool false, .bool false, .slice A m c] 50)) (.cells #[.int .u8 0, .int .u8 0, .slice none 0 0] 41)
  have a2 := new_at (w.alloc (.cells #[.int .u32 p.tsn, .int .u16 p.str, .int .u16 p.seq, .bool false, .bool false, .bool false, .slice A m c] 50)) (.cells #[.int .u8 0, .int .u8 0, .slice none 0 0] 41)
  have b1 := (u2.block _ (lt_of_blk a1)).trans a1
  have s1 : (w.alloc (.cells #[.int .u32 p.tsn, .int .u16 p.str, .int .u16 p.seq, .bool false, .bool false, .bool false, .slice A m c] 50)).heap.size = w.heap.size + 1 := by simp
  rw [s1] at a2
  have HS := Lib.hid (show ((w.alloc (.cells #[.int .u32 p.tsn, .int .u16 p.str, .int .u16 p.seq, .bool false, .bool false, .bool false, .slice A m c] 50)).alloc (.cells #[.int .u8 0, .int .u8 0, .slice none 0 0] 41)).heap.size = w.heap.size + 1 + 1 by simp)
  have HU := Lib.hid (u1.trans u2)
  rw [← hW] at a2 b1 HU HS
  have HW := Lib.hid hW
  have HQ := Lib.hid a2
  have HB := Lib.hid b1
  have c0 := cell_of b1 (j := 0) rfl
  have c1 := cell_of b1 (j := 1) rfl
  have c2 := cell_of b1 (j := 2) rfl
  have c3 := cell_of b1 (j := 3) rfl
  have c4 := cell_of b1 (j := 4) rfl
  have c5 := cell_of b1 (j := 5) rfl
  have c6 := cell_of b1 (j := 6) rfl
  clear u1 a1 u2 a2 b1 s1 hW
  have HI := Lib.hid hin
  have q0 := ho.tsn.1
  have q1 := ho.tsn.2
  have q2 := ho.str.1
  have q3 := ho.str.2
  have q4 := ho.seq.1
  have q5 := ho.seq.2
  have d1 : ((m : Int) == 0) = false := by rw [beq_eq_false_iff_ne]; omega
  have d2 : decide (8 ≤ p.str) = false := by simp; omega
  have d3 : decide (256 < (m : Int)) = false := by simp; omega
  clear hin ho
  go_enter Try.func24, Try.ntmps24
  go_upto_region 12 with (fail)
  rw [← HW.out]
  clear c1 c2 c3 c4 c5 c6 d1 d2 d3
  have V0 := Lib.hid (show Up W W from Up.refl W)
  go_wp2_with fail
  refine (rput' none 0 0 4 [] p.tsn W (inB_nil W) (by omega) (by omega) (by omega)).mono ?_
  rintro e v1 ⟨A1, N1, e1, rfl, hN1, hO1, hI1, hu1⟩
  have V1 := Lib.hid (V0.out.trans hu1.out)
  have k1 := cell_up (cell_of HB.out (j := 1) rfl) V1.out
  clear c0 V0
  have n1 : N1 ≤ 4 := by have := hN1.out; omega
  go_wp2_with fail
  refine (rput' A1 N1 e1 2 _ p.str v1 hI1.out (by omega) (by omega) (by omega)).mono ?_
  rintro e v2 ⟨A2, N2, e2, rfl, hN2, hO2, hI2, hu2⟩
  have V2 := Lib.hid (V1.out.trans hu2.out)
  have k2 := cell_up (cell_of HB.out (j := 2) rfl) V2.out
  clear k1 V1 hO1 hI1 hu1
  have n2 : N2 ≤ 6 := by have := hN2.out; omega
  go_wp2_with fail
  refine (rput' A2 N2 e2 2 _ p.seq v2 hI2.out (by omega) (by omega) (by omega)).mono ?_
  rintro e v3 ⟨A3, N3, e3, rfl, hN3, hO3, hI3, hu3⟩
  have V3 := Lib.hid (V2.out.trans hu3.out)
  clear k2 V2 hO2 hI2 hu2
  have n3 : N3 ≤ 8 := by have := hN3.out; omega
  go_wp2_with fail
  refine (rput' A3 N3 e3 4 _ 46 v3 hI3.out (by omega) (by omega) (by omega)).mono ?_
  rintro e v4 ⟨A4, N4, e4, rfl, hN4, hO4, hI4, hu4⟩
  have V4 := Lib.hid (V3.out.trans hu4.out)
  have HV3 := Lib.hid (show W.heap.size ≤ v3.heap.size from V3.out.size)
  have k4 := cell_up (cell_of HB.out (j := 6) rfl) V4.out
  clear V3 hO3 hI3 hu3
  have n4 : N4 ≤ 12 := by have := hN4.out; omega
  have HIv := Lib.hid (HI.out.up (HU.out.trans V4.out))
  go_wp2_with (at_builtin; refine wpList_appendG rfl (.tmp 51) (.tmp 53) 23 rfl 0 5 (.int .u8 0) 1 1 Try.underlying23 info5 rfl (by decide) A4 N4 e4 _ rfl (show OwnI .u8 5 0 _ _ _ _ _ from OwnI.base hO4.out (Nat.zero_le _)) A m c (ints .u8 p.bs) rfl (by rw [ints_length, HIv.out.len, Nat.mul_one]) HIv.out.cells (ints_one .u8 _) (by omega) (by omega) (Nat.zero_le _) ?_; intro A9 N9 e9 v9 HN HR HX HBk; have hq9 := HX.out.blk ((V4.out.block _ (lt_of_blk HQ.out)).trans HQ.out) (fun e => by have h1 := (row_lt hO4.out e).1; have h2 := HV3.out; have h3 := HS.out; omega); have E0 := cell_of hq9 (j := 0) rfl; have E1 := cell_of hq9 (j := 1) rfl; have E2 := cell_of hq9 (j := 2) rfl; have F0 := frozen_at (j := 0) hq9; have F1 := frozen_at (j := 1) hq9; have F2 := frozen_at (j := 2) hq9)
  have V9 := Lib.hid (Below.out (HU.out.trans V4.out) HX.out (fun k hk => by have h1 := (row_lt hO4.out hk).1; have h2 := HV3.out; have h3 := HS.out; omega) (by have := (HU.out.trans V4.out).size; omega))
  have hs := set3 (a := .int .u8 0) (b := .int .u8 0) (c := .slice A9 N9 e9) hq9 rfl
  have hb9 : ∀ k, blk? A9 = some k → w.heap.size + 1 < k := fun k hk => by
    have h2 := HV3.out
    have h3 := HS.out
    rcases HBk.out with hb | hb
    · have h1 := (row_lt hO4.out (show blk? A4 = some k by rw [← hb]; exact hk)).1; omega
    · rw [hb] at hk; injection hk with hk; have := V4.out.size; omega
  refine bodyPost_ret (results_row_tmp (fn := Try.f24) (p := 2) (u := 3) (ty := 41) rfl _ _ (w.heap.size + 1) 41 _ (0, 0) _ rfl hs.1 Try.underlying41 rfl rfl) rfl ⟨A9, N9, e9, rfl, Lib.hid ?_, Lib.hid ?_, Lib.hid (Below.out V9.out hs.2 (fun k hk => by rw [hk]; omega) V9.out.size)⟩
  · have := HN.out
    have a1 := hN1.out
    have a2 := hN2.out
    have a3 := hN3.out
    have a4 := hN4.out
    have a5 := HI.out.len
    simp [encP, be_length]
    omega
  · have h8 : OwnI .u8 5 0 v9 A9 N9 e9 (encP p) := by
      unfold OwnI
      have e1 : ints .u8 (encP p) = ints .u8 ([] ++ be p.tsn 4 ++ be p.str 2 ++ be p.seq 2 ++ be 46 4) ++ ints .u8 p.bs := by
        rw [← ints_append]; simp [encP]
      rw [e1]; exact HR.out
    exact OwnI.rebase (show OwnI .u8 5 0 _ A9 N9 e9 _ from hs.2.own h8 (fun q hq e => by have := hb9 q (by rwa [ownBlock_slice] at hq); have e1 : q = w.heap.size + 1 := e; omega)) (fun q hq => by have := hb9 q hq; omega)
set_option maxRecDepth 100000 in
set_option maxHeartbeats 2000000 in
theorem rfromP_fft (p : Ck.Pc) (A : Option Addr) (m c : Nat) (w : World) (hin : InB w A m c p.bs) (ho : Ck.PcOk p) (h0 : 0 < m) (hm : m ≤ 256) (h8 : p.str < 8) : Calls Try.prog 24 #[.agg #[.int .u32 p.tsn, .int .u16 p.str, .int .u16 p.seq, .bool false, .bool false, .bool true, .slice A m c]] w (ChPost 0 4 (encP p) w) := by
  obtain ⟨W, hW⟩ : ∃ W, W = (w.alloc (.cells #[.int .u32 p.tsn, .int .u16 p.str, .int .u16 p.seq, .bool false, .bool false, .bool true, .slice A m c] 50)).alloc (.cells #[.int .u8 0, .int .u8 0, .slice none 0 0] 41) := ⟨_, rfl⟩
  have u1 := up_alloc w (.cells #[.int .u32 p.tsn, .int .u16 p.str, .int .u16 p.seq, .bool false, .bool false, .bool true, .slice A m c] 50)
  have a1 := new_at w (.cells #[.int .u32 p.tsn, .int .u16 p.str, .int .u16 p.seq, .bool false, .bool false, .bool true, .slice A m c] 50)
  have u2 := up_alloc (w.alloc (.cells #[.int .u32 p.tsn, .int .u16 p.str, .int .u16 p.seq, .bool false, .bool false, .bool true, .slice A m c] 50)) (.cells #[.int .u8 0, .int .u8 0, .slice none 0 0] 41)
  have a2 := new_at (w.alloc (.cells #[.int .u32 p.tsn, .int .u16 p.str, .int .u16 p.seq, .bool false, .bool false, .bool true, .slice A m c] 50)) (.cells #[.int .u8 0, .int .u8 0, .slice none 0 0] 41)
  have b1 := (u2.block _ (lt_of_blk a1)).trans a1
  have s1 : (w.alloc (.cells #[.int .u32 p.tsn, .int .u16 p.str, .int .u16 p.seq, .bool false, .bool false, .bool true, .slice A m c] 50)).heap.size = w.heap.size + 1 := by simp
  rw [s1] at a2
  have HS := Lib.hid (show ((w.alloc (.cells #[.int .u32 p.tsn, .int .u16 p.str, .int .u16 p.seq, .bool false, .bool false, .bool true, .slice A m c] 50)).alloc (.cells #[.int .u8 0, .int .u8 0, .slice none 0 0] 41)).heap.size = w.heap.size + 1 + 1 by simp)
  have HU := Lib.hid (u1.trans u2)
  rw [← hW] at a2 b1 HU HS
  have HW := Lib.hid hW
  have HQ := Lib.hid a2
  have HB := Lib.hid b1
  have c0 := cell_of b1 (j := 0) rfl
  have c1 := cell_of b1 (j := 1) rfl
  have c2 := cell_of b1 (j := 2) rfl
  have c3 := cell_of b1 (j := 3) rfl
  have c4 := cell_of b1 (j := 4) rfl
  have c5 := cell_of b1 (j := 5) rfl
  have c6 := cell_of b1 (j := 6) rfl
  clear u1 a1 u2 a2 b1 s1 hW
  have HI := Lib.hid hin
  have q0 := ho.tsn.1
  have q1 := ho.tsn.2
  have q2 := ho.str.1
  have q3 := ho.str.2
  have q4 := ho.seq.1
  have q5 := ho.seq.2
  have d1 : ((m : Int) == 0) = false := by rw [beq_eq_false_iff_ne]; omega
  have d2 : decide (8 ≤ p.str) = false := by simp; omega
  have d3 : decide (256 < (m : Int)) = false := by simp; omega
  clear hin ho
  go_enter Try.func24, Try.ntmps24
  go_upto_region 12 with (fail)
  rw [← HW.out]
  clear c1 c2 c3 c4 c5 c6 d1 d2 d3
  have V0 := Lib.hid (show Up W W from Up.refl W)
  go_wp2_with fail
  refine (rput' none 0 0 4 [] p.tsn W (inB_nil W) (by omega) (by omega) (by omega)).mono ?_
  rintro e v1 ⟨A1, N1, e1, rfl, hN1, hO1, hI1, hu1⟩
  have V1 := Lib.hid (V0.out.trans hu1.out)
  have k1 := cell_up (cell_of HB.out (j := 1) rfl) V1.out
  clear c0 V0
  have n1 : N1 ≤ 4 := by have := hN1.out; omega
  go_wp2_with fail
  refine (rput' A1 N1 e1 2 _ p.str v1 hI1.out (by omega) (by omega) (by omega)).mono ?_
  rintro e v2 ⟨A2, N2, e2, rfl, hN2, hO2, hI2, hu2⟩
  have V2 := Lib.hid (V1.out.trans hu2.out)
  have k2 := cell_up (cell_of HB.out (j := 2) rfl) V2.out
  clear k1 V1 hO1 hI1 hu1
  have n2 : N2 ≤ 6 := by have := hN2.out; omega
  go_wp2_with fail
  refine (rput' A2 N2 e2 2 _ p.seq v2 hI2.out (by omega) (by omega) (by omega)).mono ?_
  rintro e v3 ⟨A3, N3, e3, rfl, hN3, hO3, hI3, hu3⟩
  have V3 := Lib.hid (V2.out.trans hu3.out)
  clear k2 V2 hO2 hI2 hu2
  have n3 : N3 ≤ 8 := by have := hN3.out; omega
  go_wp2_with fail
  refine (rput' A3 N3 e3 4 _ 46 v3 hI3.out (by omega) (by omega) (by omega)).mono ?_
  rintro e v4 ⟨A4, N4, e4, rfl, hN4, hO4, hI4, hu4⟩
  have V4 := Lib.hid (V3.out.trans hu4.out)
  have HV3 := Lib.hid (show W.heap.size ≤ v3.heap.size from V3.out.size)
  have k4 := cell_up (cell_of HB.out (j := 6) rfl) V4.out
  clear V3 hO3 hI3 hu3
  have n4 : N4 ≤ 12 := by have := hN4.out; omega
  have HIv := Lib.hid (HI.out.up (HU.out.trans V4.out))
  go_wp2_with (at_builtin; refine wpList_appendG rfl (.tmp 51) (.tmp 53) 23 rfl 0 5 (.int .u8 0) 1 1 Try.underlying23 info5 rfl (by decide) A4 N4 e4 _ rfl (show OwnI .u8 5 0 _ _ _ _ _ from OwnI.base hO4.out (Nat.zero_le _)) A m c (ints .u8 p.bs) rfl (by rw [ints_length, HIv.out.len, Nat.mul_one]) HIv.out.cells (ints_one .u8 _) (by omega) (by omega) (Nat.zero_le _) ?_; intro A9 N9 e9 v9 HN HR HX HBk; have hq9 := HX.out.blk ((V4.out.block _ (lt_of_blk HQ.out)).trans HQ.out) (fun e => by have h1 := (row_lt hO4.out e).1; have h2 := HV3.out; have h3 := HS.out; omega); have E0 := cell_of hq9 (j := 0) rfl; have E1 := cell_of hq9 (j := 1) rfl; have E2 := cell_of hq9 (j := 2) rfl; have F0 := frozen_at (j := 0) hq9; have F1 := frozen_at (j := 1) hq9; have F2 := frozen_at (j := 2) hq9)
  have V9 := Lib.hid (Below.out (HU.out.trans V4.out) HX.out (fun k hk => by have h1 := (row_lt hO4.out hk).1; have h2 := HV3.out; have h3 := HS.out; omega) (by have := (HU.out.trans V4.out).size; omega))
  have hs := set3 (a := .int .u8 0) (b := .int .u8 4) (c := .slice A9 N9 e9) hq9 rfl
  have hb9 : ∀ k, blk? A9 = some k → w.heap.size + 1 < k := fun k hk => by
    have h2 := HV3.out
    have h3 := HS.out
    rcases HBk.out with hb | hb
    · have h1 := (row_lt hO4.out (show blk? A4 = some k by rw [← hb]; exact hk)).1; omega
    · rw [hb] at hk; injection hk with hk; have := V4.out.size; omega
  refine bodyPost_ret (results_row_tmp (fn := Try.f24) (p := 2) (u := 3) (ty := 41) rfl _ _ (w.heap.size + 1) 41 _ (0, 0) _ rfl hs.1 Try.underlying41 rfl rfl) rfl ⟨A9, N9, e9, rfl, Lib.hid ?_, Lib.hid ?_, Lib.hid (Below.out V9.out hs.2 (fun k hk => by rw [hk]; omega) V9.out.size)⟩
  · have := HN.out
    have a1 := hN1.out
    have a2 := hN2.out
    have a3 := hN3.out
    have a4 := hN4.out
    have a5 := HI.out.len
    simp [encP, be_length]
    omega
  · have h8 : OwnI .u8 5 0 v9 A9 N9 e9 (encP p) := by
      unfold OwnI
      have e1 : ints .u8 (encP p) = ints .u8 ([] ++ be p.tsn 4 ++ be p.str 2 ++ be p.seq 2 ++ be 46 4) ++ ints .u8 p.bs := by
        rw [← ints_append]; simp [encP]
      rw [e1]; exact HR.out
    exact OwnI.rebase (show OwnI .u8 5 0 _ A9 N9 e9 _ from hs.2.own h8 (fun q hq e => by have := hb9 q (by rwa [ownBlock_slice] at hq); have e1 : q = w.heap.size + 1 := e; omega)) (fun q hq => by have := hb9 q hq; omega)
set_option maxRecDepth 100000 in
set_option maxHeartbeats 2000000 in
theorem rfromP_ftf (p : Ck.Pc) (A : Option Addr) (m c : Nat) (w : World) (hin : InB w A m c p.bs) (ho : Ck.PcOk p) (h0 : 0 < m) (hm : m ≤ 256) (h8 : p.str < 8) : Calls Try.prog 24 #[.agg #[.int .u32 p.tsn, .int .u16 p.str, .int .u16 p.seq, .bool false, .bool true, .bool false, .slice A m c]] w (ChPost 0 1 (encP p) w) := by
  obtain ⟨W, hW⟩ : ∃ W, W = (w.alloc (.cells #[.int .u32 p.tsn, .int .u16 p.str, .int .u16 p.seq, .bool false, .bool true, .bool false, .slice A m c] 50)).alloc (.cells #[.int .u8 0, .int .u8 0, .slice none 0 0] 41) := ⟨_, rfl⟩
  have u1 := up_alloc w (.cells #[.int .u32 p.tsn, .int .u16 p.str, .int .u16 p.seq, .bool false, .bool true, .bool false, .slice A m c] 50)
  have a1 := new_at w (.cells #[.int .u32 p.tsn, .int .u16 p.str, .int .u16 p.seq, .bool false, .bool true, .bool false, .slice A m c] 50)
  have u2 := up_alloc (w.alloc (.cells #[.int .u32 p.tsn, .int .u16 p.str, .int .u16 p.seq, .bool false, .bool true, .bool false, .slice A m c] 50)) (.cells #[.int .u8 0, .int .u8 0, .slice none 0 0] 41)
  have a2 := new_at (w.alloc (.cells #[.int .u32 p.tsn, .int .u16 p.str, .int .u16 p.seq, .bool false, .bool true, .bool false, .slice A m c] 50)) (.cells #[.int .u8 0, .int .u8 0, .slice none 0 0] 41)
  have b1 := (u2.block _ (lt_of_blk a1)).trans a1
  have s1 : (w.alloc (.cells #[.int .u32 p.tsn, .int .u16 p.str, .int .u16 p.seq, .bool false, .bool true, .bool false, .slice A m c] 50)).heap.size = w.heap.size + 1 := by simp
  rw [s1] at a2
  have HS := Lib.hid (show ((w.alloc (.cells #[.int .u32 p.tsn, .int .u16 p.str, .int .u16 p.seq, .bool false, .bool true, .bool false, .slice A m c] 50)).alloc (.cells #[.int .u8 0, .int .u8 0, .slice none 0 0] 41)).heap.size = w.heap.size + 1 + 1 by simp)
  have HU := Lib.hid (u1.trans u2)
  rw [← hW] at a2 b1 HU HS
  have HW := Lib.hid hW
  have HQ := Lib.hid a2
  have HB := Lib.hid b1
  have c0 := cell_of b1 (j := 0) rfl
  have c1 := cell_of b1 (j := 1) rfl
  have c2 := cell_of b1 (j := 2) rfl
  have c3 := cell_of b1 (j := 3) rfl
  have c4 := cell_of b1 (j := 4) rfl
  have c5 := cell_of b1 (j := 5) rfl
  have c6 := cell_of b1 (j := 6) rfl
  clear u1 a1 u2 a2 b1 s1 hW
  have HI := Lib.hid hin
  have q0 := ho.tsn.1
  have q1 := ho.tsn.2
  have q2 := ho.str.1
  have q3 := ho.str.2
  have q4 := ho.seq.1
  have q5 := ho.seq.2
  have d1 : ((m : Int) == 0) = false := by rw [beq_eq_false_iff_ne]; omega
  have d2 : decide (8 ≤ p.str) = false := by simp; omega
  have d3 : decide (256 < (m : Int)) = false := by simp; omega
  clear hin ho
  go_enter Try.func24, Try.ntmps24
  go_upto_region 12 with (fail)
  rw [← HW.out]
  clear c1 c2 c3 c4 c5 c6 d1 d2 d3
  have V0 := Lib.hid (show Up W W from Up.refl W)
  go_wp2_with fail
  refine (rput' none 0 0 4 [] p.tsn W (inB_nil W) (by omega) (by omega) (by omega)).mono ?_
  rintro e v1 ⟨A1, N1, e1, rfl, hN1, hO1, hI1, hu1⟩
  have V1 := Lib.hid (V0.out.trans hu1.out)
  have k1 := cell_up (cell_of HB.out (j := 1) rfl) V1.out
  clear c0 V0
  have n1 : N1 ≤ 4 := by have := hN1.out; omega
  go_wp2_with fail
  refine (rput' A1 N1 e1 2 _ p.str v1 hI1.out (by omega) (by omega) (by omega)).mono ?_
  rintro e v2 ⟨A2, N2, e2, rfl, hN2, hO2, hI2, hu2⟩
  have V2 := Lib.hid (V1.out.trans hu2.out)
  have k2 := cell_up (cell_of HB.out (j := 2) rfl) V2.out
  clear k1 V1 hO1 hI1 hu1
  have n2 : N2 ≤ 6 := by have := hN2.out; omega
  go_wp2_with fail
  refine (rput' A2 N2 e2 2 _ p.seq v2 hI2.out (by omega) (by omega) (by omega)).mono ?_
  rintro e v3 ⟨A3, N3, e3, rfl, hN3, hO3, hI3, hu3⟩
  have V3 := Lib.hid (V2.out.trans hu3.out)
  clear k2 V2 hO2 hI2 hu2
  have n3 : N3 ≤ 8 := by have := hN3.out; omega
  go_wp2_with fail
  refine (rput' A3 N3 e3 4 _ 46 v3 hI3.out (by omega) (by omega) (by omega)).mono ?_
  rintro e v4 ⟨A4, N4, e4, rfl, hN4, hO4, hI4, hu4⟩
  have V4 := Lib.hid (V3.out.trans hu4.out)
  have HV3 := Lib.hid (show W.heap.size ≤ v3.heap.size from V3.out.size)
  have k4 := cell_up (cell_of HB.out (j := 6) rfl) V4.out
  clear V3 hO3 hI3 hu3
  have n4 : N4 ≤ 12 := by have := hN4.out; omega
  have HIv := Lib.hid (HI.out.up (HU.out.trans V4.out))
  go_wp2_with (at_builtin; refine wpList_appendG rfl (.tmp 51) (.tmp 53) 23 rfl 0 5 (.int .u8 0) 1 1 Try.underlying23 info5 rfl (by decide) A4 N4 e4 _ rfl (show OwnI .u8 5 0 _ _ _ _ _ from OwnI.base hO4.out (Nat.zero_le _)) A m c (ints .u8 p.bs) rfl (by rw [ints_length, HIv.out.len, Nat.mul_one]) HIv.out.cells (ints_one .u8 _) (by omega) (by omega) (Nat.zero_le _) ?_; intro A9 N9 e9 v9 HN HR HX HBk; have hq9 := HX.out.blk ((V4.out.block _ (lt_of_blk HQ.out)).trans HQ.out) (fun e => by have h1 := (row_lt hO4.out e).1; have h2 := HV3.out; have h3 := HS.out; omega); have E0 := cell_of hq9 (j := 0) rfl; have E1 := cell_of hq9 (j := 1) rfl; have E2 := cell_of hq9 (j := 2) rfl; have F0 := frozen_at (j := 0) hq9; have F1 := frozen_at (j := 1) hq9; have F2 := frozen_at (j := 2) hq9)
  have V9 := Lib.hid (Below.out (HU.out.trans V4.out) HX.out (fun k hk => by have h1 := (row_lt hO4.out hk).1; have h2 := HV3.out; have h3 := HS.out; omega) (by have := (HU.out.trans V4.out).size; omega))
  have hs := set3 (a := .int .u8 0) (b := .int .u8 1) (c := .slice A9 N9 e9) hq9 rfl
  have hb9 : ∀ k, blk? A9 = some k → w.heap.size + 1 < k := fun k hk => by
    have h2 := HV3.out
    have h3 := HS.out
    rcases HBk.out with hb | hb
    · have h1 := (row_lt hO4.out (show blk? A4 = some k by rw [← hb]; exact hk)).1; omega
    · rw [hb] at hk; injection hk with hk; have := V4.out.size; omega
  refine bodyPost_ret (results_row_tmp (fn := Try.f24) (p := 2) (u := 3) (ty := 41) rfl _ _ (w.heap.size + 1) 41 _ (0, 0) _ rfl hs.1 Try.underlying41 rfl rfl) rfl ⟨A9, N9, e9, rfl, Lib.hid ?_, Lib.hid ?_, Lib.hid (Below.out V9.out hs.2 (fun k hk => by rw [hk]; omega) V9.out.size)⟩
  · have := HN.out
    have a1 := hN1.out
    have a2 := hN2.out
    have a3 := hN3.out
    have a4 := hN4.out
    have a5 := HI.out.len
    simp [encP, be_length]
    omega
  · have h8 : OwnI .u8 5 0 v9 A9 N9 e9 (encP p) := by
      unfold OwnI
      have e1 : ints .u8 (encP p) = ints .u8 ([] ++ be p.tsn 4 ++ be p.str 2 ++ be p.seq 2 ++ be 46 4) ++ ints .u8 p.bs := by
        rw [← ints_append]; simp [encP]
      rw [e1]; exact HR.out
    exact OwnI.rebase (show OwnI .u8 5 0 _ A9 N9 e9 _ from hs.2.own h8 (fun q hq e => by have := hb9 q (by rwa [ownBlock_slice] at hq); have e1 : q = w.heap.size + 1 := e; omega)) (fun q hq => by have := hb9 q hq; omega)
set_option maxRecDepth 100000 in
set_option maxHeartbeats 2000000 in
theorem rfromP_ftt (p : Ck.Pc) (A : Option Addr) (m c : Nat) (w : World) (hin : InB w A m c p.bs) (ho : Ck.PcOk p) (h0 : 0 < m) (hm : m ≤ 256) (h8 : p.str < 8) : Calls Try.prog 24 #[.agg #[.int .u32 p.tsn, .int .u16 p.str, .int .u16 p.seq, .bool false, .bool true, .bool true, .slice A m c]] w (ChPost 0 5 (encP p) w) := by
  obtain ⟨W, hW⟩ : ∃ W, W = (w.alloc (.cells #[.int .u32 p.tsn, .int .u16 p.str, .int .u16 p.seq, .bool false, .bool true, .bool true, .slice A m c] 50)).alloc (.cells #[.int .u8 0, .int .u8 0, .slice none 0 0] 41) := ⟨_, rfl⟩
  have u1 := up_alloc w (.cells #[.int .u32 p.tsn, .int .u16 p.str, .int .u16 p.seq, .bool false, .bool true, .bool true, .slice A m c] 50)
  have a1 := new_at w (.cells #[.int .u32 p.tsn, .int .u16 p.str, .int .u16 p.seq, .bool false, .bool true, .bool true, .slice A m c] 50)
  have u2 := up_alloc (w.alloc (.cells #[.int .u32 p.tsn, .int .u16 p.str, .int .u16 p.seq, .bool false, .bool true, .bool true, .slice A m c] 50)) (.cells #[.int .u8 0, .int .u8 0, .slice none 0 0] 41)
  have a2 := new_at (w.alloc (.cells #[.int .u32 p.tsn, .int .u16 p.str, .int .u16 p.seq, .bool false, .bool true, .bool true, .slice A m c] 50)) (.cells #[.int .u8 0, .int .u8 0, .slice none 0 0] 41)
  have b1 := (u2.block _ (lt_of_blk a1)).trans a1
  have s1 : (w.alloc (.cells #[.int .u32 p.tsn, .int .u16 p.str, .int .u16 p.seq, .bool false, .bool true, .bool true, .slice A m c] 50)).heap.size = w.heap.size + 1 := by simp
  rw [s1] at a2
  have HS := Lib.hid (show ((w.alloc (.cells #[.int .u32 p.tsn, .int .u16 p.str, .int .u16 p.seq, .bool false, .bool true, .bool true, .slice A m c] 50)).alloc (.cells #[.int .u8 0, .int .u8 0, .slice none 0 0] 41)).heap.size = w.heap.size + 1 + 1 by simp)
  have HU := Lib.hid (u1.trans u2)
  rw [← hW] at a2 b1 HU HS
  have HW := Lib.hid hW
  have HQ := Lib.hid a2
  have HB := Lib.hid b1
  have c0 := cell_of b1 (j := 0) rfl
  have c1 := cell_of b1 (j := 1) rfl
  have c2 := cell_of b1 (j := 2) rfl
  have c3 := cell_of b1 (j := 3) rfl
  have c4 := cell_of b1 (j := 4) rfl
  have c5 := cell_of b1 (j := 5) rfl
  have c6 := cell_of b1 (j := 6) rfl
  clear u1 a1 u2 a2 b1 s1 hW
  have HI := Lib.hid hin
  have q0 := ho.tsn.1
  have q1 := ho.tsn.2
  have q2 := ho.str.1
  have q3 := ho.str.2
  have q4 := ho.seq.1
  have q5 := ho.seq.2
  have d1 : ((m : Int) == 0) = false := by rw [beq_eq_false_iff_ne]; omega
  have d2 : decide (8 ≤ p.str) = false := by simp; omega
  have d3 : decide (256 < (m : Int)) = false := by simp; omega
  clear hin ho
  go_enter Try.func24, Try.ntmps24
  go_upto_region 12 with (fail)
  rw [← HW.out]
  clear c1 c2 c3 c4 c5 c6 d1 d2 d3
  have V0 := Lib.hid (show Up W W from Up.refl W)
  go_wp2_with fail
  refine (rput' none 0 0 4 [] p.tsn W (inB_nil W) (by omega) (by omega) (by omega)).mono ?_
  rintro e v1 ⟨A1, N1, e1, rfl, hN1, hO1, hI1, hu1⟩
  have V1 := Lib.hid (V0.out.trans hu1.out)
  have k1 := cell_up (cell_of HB.out (j := 1) rfl) V1.out
  clear c0 V0
  have n1 : N1 ≤ 4 := by have := hN1.out; omega
  go_wp2_with fail
  refine (rput' A1 N1 e1 2 _ p.str v1 hI1.out (by omega) (by omega) (by omega)).mono ?_
  rintro e v2 ⟨A2, N2, e2, rfl, hN2, hO2, hI2, hu2⟩
  have V2 := Lib.hid (V1.out.trans hu2.out)
  have k2 := cell_up (cell_of HB.out (j := 2) rfl) V2.out
  clear k1 V1 hO1 hI1 hu1
  have n2 : N2 ≤ 6 := by have := hN2.out; omega
  go_wp2_with fail
  refine (rput' A2 N2 e2 2 _ p.seq v2 hI2.out (by omega) (by omega) (by omega)).mono ?_
  rintro e v3 ⟨A3, N3, e3, rfl, hN3, hO3, hI3, hu3⟩
  have V3 := Lib.hid (V2.out.trans hu3.out)
  clear k2 V2 hO2 hI2 hu2
  have n3 : N3 ≤ 8 := by have := hN3.out; omega
  go_wp2_with fail
  refine (rput' A3 N3 e3 4 _ 46 v3 hI3.out (by omega) (by omega) (by omega)).mono ?_
  rintro e v4 ⟨A4, N4, e4, rfl, hN4, hO4, hI4, hu4⟩
  have V4 := Lib.hid (V3.out.trans hu4.out)
  have HV3 := Lib.hid (show W.heap.size ≤ v3.heap.size from V3.out.size)
  have k4 := cell_up (cell_of HB.out (j := 6) rfl) V4.out
  clear V3 hO3 hI3 hu3
  have n4 : N4 ≤ 12 := by have := hN4.out; omega
  have HIv := Lib.hid (HI.out.up (HU.out.trans V4.out))
  go_wp2_with (at_builtin; refine wpList_appendG rfl (.tmp 51) (.tmp 53) 23 rfl 0 5 (.int .u8 0) 1 1 Try.underlying23 info5 rfl (by decide) A4 N4 e4 _ rfl (show OwnI .u8 5 0 _ _ _ _ _ from OwnI.base hO4.out (Nat.zero_le _)) A m c (ints .u8 p.bs) rfl (by rw [ints_length, HIv.out.len, Nat.mul_one]) HIv.out.cells (ints_one .u8 _) (by omega) (by omega) (Nat.zero_le _) ?_; intro A9 N9 e9 v9 HN HR HX HBk; have hq9 := HX.out.blk ((V4.out.block _ (lt_of_blk HQ.out)).trans HQ.out) (fun e => by have h1 := (row_lt hO4.out e).1; have h2 := HV3.out; have h3 := HS.out; omega); have E0 := cell_of hq9 (j := 0) rfl; have E1 := cell_of hq9 (j := 1) rfl; have E2 := cell_of hq9 (j := 2) rfl; have F0 := frozen_at (j := 0) hq9; have F1 := frozen_at (j := 1) hq9; have F2 := frozen_at (j := 2) hq9)
  have V9 := Lib.hid (Below.out (HU.out.trans V4.out) HX.out (fun k hk => by have h1 := (row_lt hO4.out hk).1; have h2 := HV3.out; have h3 := HS.out; omega) (by have := (HU.out.trans V4.out).size; omega))
  have hs := set3 (a := .int .u8 0) (b := .int .u8 5) (c := .slice A9 N9 e9) hq9 rfl
  have hb9 : ∀ k, blk? A9 = some k → w.heap.size + 1 < k := fun k hk => by
    have h2 := HV3.out
    have h3 := HS.out
    rcases HBk.out with hb | hb
    · have h1 := (row_lt hO4.out (show blk? A4 = some k by rw [← hb]; exact hk)).1; omega
    · rw [hb] at hk; injection hk with hk; have := V4.out.size; omega
  refine bodyPost_ret (results_row_tmp (fn := Try.f24) (p := 2) (u := 3) (ty := 41) rfl _ _ (w.heap.size + 1) 41 _ (0, 0) _ rfl hs.1 Try.underlying41 rfl rfl) rfl ⟨A9, N9, e9, rfl, Lib.hid ?_, Lib.hid ?_, Lib.hid (Below.out V9.out hs.2 (fun k hk => by rw [hk]; omega) V9.out.size)⟩
  · have := HN.out
    have a1 := hN1.out
    have a2 := hN2.out
    have a3 := hN3.out
    have a4 := hN4.out
    have a5 := HI.out.len
    simp [encP, be_length]
    omega
  · have h8 : OwnI .u8 5 0 v9 A9 N9 e9 (encP p) := by
      unfold OwnI
      have e1 : ints .u8 (encP p) = ints .u8 ([] ++ be p.tsn 4 ++ be p.str 2 ++ be p.seq 2 ++ be 46 4) ++ ints .u8 p.bs := by
        rw [← ints_append]; simp [encP]
      rw [e1]; exact HR.out
    exact OwnI.rebase (show OwnI .u8 5 0 _ A9 N9 e9 _ from hs.2.own h8 (fun q hq e => by have := hb9 q (by rwa [ownBlock_slice] at hq); have e1 : q = w.heap.size + 1 := e; omega)) (fun q hq => by have := hb9 q hq; omega)
end Go.Proofs.Ytgikgcepeniekaa
namespace Go.Proofs.Ytgikgcepeniekaa
open Go Go.RowKit
set_option linter.unusedVariables false
set_option linter.unusedSimpArgs false
set_option maxRecDepth 100000 in
set_option maxHeartbeats 2000000 in
theorem rfromP_tff (p : Ck.Pc) (A : Option Addr) (m c : Nat) (w : World) (hin : InB w A m c p.bs) (ho : Ck.PcOk p) (h0 : 0 < m) (hm : m ≤ 256) (h8 : p.str < 8) : Calls Try.prog 24 #[.agg #[.int .u32 p.tsn, .int .u16 p.str, .int .u16 p.seq, .bool true, .bool false, .bool false, .slice A m c]] w (ChPost 0 2 (encP p) w) := by
  obtain ⟨W, hW⟩ : ∃ W, W = (w.alloc (.cells #[.int .u32 p.tsn, .int .u16 p.str, .int .u16 p.seq, .bool true, .bool false, .bool false, .slice A m c] 50)).alloc (.cells #[.int .u8 0, .int .u8 0, .slice none 0 0] 41) := ⟨_, rfl⟩
  have u1 := up_alloc w (.cells #[.int .u32 p.tsn, .int .u16 p.str, .int .u16 p.seq, .bool true, .bool false, .bool false, .slice A m c] 50)
  have a1 := new_at w (.cells #[.int .u32 p.tsn, .int .u16 p.str, .int .u16 p.seq, .bool true, .bool false, .bool false, .slice A m c] 50)
  have u2 := up_alloc (w.alloc (.cells #[.int .u32 p.tsn, .int .u16 p.str, .int .u16 p.seq, .bool true, .bool false, .bool false, .slice A m c] 50)) (.cells #[.int .u8 0, .int .u8 0, .slice none 0 0] 41)
  have a2 := new_at (w.alloc (.cells #[.int .u32 p.tsn, .int .u16 p.str, .int .u16 p.seq, .bool true, .bool false, .bool false, .slice A m c] 50)) (.cells #[.int .u8 0, .int .u8 0, .slice none 0 0] 41)
  have b1 := (u2.block _ (lt_of_blk a1)).trans a1
  have s1 : (w.alloc (.cells #[.int .u32 p.tsn, .int .u16 p.str, .int .u16 p.seq, .bool true, .bool false, .bool false, .slice A m c] 50)).heap.size = w.heap.size + 1 := by simp
  rw [s1] at a2
  have HS := Lib.hid (show ((w.alloc (.cells #[.int .u32 p.tsn, .int .u16 p.str, .int .u16 p.seq, .bool true, .bool false, .bool false, .slice A m c] 50)).alloc (.cells #[.int .u8 0, .int .u8 0, .slice none 0 0] 41)).heap.size = w.heap.size + 1 + 1 by simp)
  have HU := Lib.hid (u1.trans u2)
  rw [← hW] at a2 b1 HU HS
  have HW := Lib.hid hW
  have HQ := Lib.hid a2
  have HB := Lib.hid b1
  have c0 := cell_of b1 (j := 0) rfl
  have c1 := cell_of b1 (j := 1) rfl
  have c2 := cell_of b1 (j := 2) rfl
  have c3 := cell_of b1 (j := 3) rfl
  have c4 := cell_of b1 (j := 4) rfl
  have c5 := cell_of b1 (j := 5) rfl
  have c6 := cell_of b1 (j := 6) rfl
  clear u1 a1 u2 a2 b1 s1 hW
  have HI := Lib.hid hin
  have q0 := ho.tsn.1
  have q1 := ho.tsn.2
  have q2 := ho.str.1
  have q3 := ho.str.2
  have q4 := ho.seq.1
  have q5 := ho.seq.2
  have d1 : ((m : Int) == 0) = false := by rw [beq_eq_false_iff_ne]; omega
  have d2 : decide (8 ≤ p.str) = false := by simp; omega
  have d3 : decide (256 < (m : Int)) = false := by simp; omega
  clear hin ho
  go_enter Try.func24, Try.ntmps24
  go_upto_region 12 with (fail)
  rw [← HW.out]
  clear c1 c2 c3 c4 c5 c6 d1 d2 d3
  have V0 := Lib.hid (show Up W W from Up.refl W)
  go_wp2_with fail
  refine (rput' none 0 0 4 [] p.tsn W (inB_nil W) (by omega) (by omega) (by omega)).mono ?_
  rintro e v1 ⟨A1, N1, e1, rfl, hN1, hO1, hI1, hu1⟩
  have V1 := Lib.hid (V0.out.trans hu1.out)
  have k1 := cell_up (cell_of HB.out (j := 1) rfl) V1.out
  clear c0 V0
  have n1 : N1 ≤ 4 := by have := hN1.out; omega
  go_wp2_with fail
  refine (rput' A1 N1 e1 2 _ p.str v1 hI1.out (by omega) (by omega) (by omega)).mono ?_
  rintro e v2 ⟨A2, N2, e2, rfl, hN2, hO2, hI2, hu2⟩
  have V2 := Lib.hid (V1.out.trans hu2.out)
  have k2 := cell_up (cell_of HB.out (j := 2) rfl) V2.out
  clear k1 V1 hO1 hI1 hu1
  have n2 : N2 ≤ 6 := by have := hN2.out; omega
  go_wp2_with fail
  refine (rput' A2 N2 e2 2 _ p.seq v2 hI2.out (by omega) (by omega) (by omega)).mono ?_
  rintro e v3 ⟨A3, N3, e3, rfl, hN3, hO3, hI3, hu3⟩
  have V3 := Lib.hid (V2.out.trans hu3.out)
  clear k2 V2 hO2 hI2 hu2
  have n3 : N3 ≤ 8 := by have := hN3.out; omega
  go_wp2_with fail
  refine (rput' A3 N3 e3 4 _ 46 v3 hI3.out (by omega) (by omega) (by omega)).mono ?_
  rintro e v4 ⟨A4, N4, e4, rfl, hN4, hO4, hI4, hu4⟩
  have V4 := Lib.hid (V3.out.trans hu4.out)
  have HV3 := Lib.hid (show W.heap.size ≤ v3.heap.size from V3.out.size)
  have k4 := cell_up (cell_of HB.out (j := 6) rfl) V4.out
  clear V3 hO3 hI3 hu3
  have n4 : N4 ≤ 12 := by have := hN4.out; omega
  have HIv := Lib.hid (HI.out.up (HU.out.trans V4.out))
  go_wp2_with (at_builtin; refine wpList_appendG rfl (.tmp 51) (.tmp 53) 23 rfl 0 5 (.int .u8 0) 1 1 Try.underlying23 info5 rfl (by decide) A4 N4 e4 _ rfl (show OwnI .u8 5 0 _ _ _ _ _ from OwnI.base hO4.out (Nat.zero_le _)) A m c (ints .u8 p.bs) rfl (by rw [ints_length, HIv.out.len, Nat.mul_one]) HIv.out.cells (ints_one .u8 _) (by omega) (by omega) (Nat.zero_le _) ?_; intro A9 N9 e9 v9 HN HR HX HBk; have hq9 := HX.out.blk ((V4.out.block _ (lt_of_blk HQ.out)).trans HQ.out) (fun e => by have h1 := (row_lt hO4.out e).1; have h2 := HV3.out; have h3 := HS.out; omega); have E0 := cell_of hq9 (j := 0) rfl; have E1 := cell_of hq9 (j := 1) rfl; have E2 := cell_of hq9 (j := 2) rfl; have F0 := frozen_at (j := 0) hq9; have F1 := frozen_at (j := 1) hq9; have F2 := frozen_at (j := 2) hq9)
  have V9 := Lib.hid (Below.out (HU.out.trans V4.out) HX.out (fun k hk => by have h1 := (row_lt hO4.out hk).1; have h2 := HV3.out; have h3 := HS.out; omega) (by have := (HU.out.trans V4.out).size; omega))
  have hs := set3 (a := .int .u8 0) (b := .int .u8 2) (c := .slice A9 N9 e9) hq9 rfl
  have hb9 : ∀ k, blk? A9 = some k → w.heap.size + 1 < k := fun k hk => by
    have h2 := HV3.out
    have h3 := HS.out
    rcases HBk.out with hb | hb
    · have h1 := (row_lt hO4.out (show blk? A4 = some k by rw [← hb]; exact hk)).1; omega
    · rw [hb] at hk; injection hk with hk; have := V4.out.size; omega
  refine bodyPost_ret (results_row_tmp (fn := Try.f24) (p := 2) (u := 3) (ty := 41) rfl _ _ (w.heap.size + 1) 41 _ (0, 0) _ rfl hs.1 Try.underlying41 rfl rfl) rfl ⟨A9, N9, e9, rfl, Lib.hid ?_, Lib.hid ?_, Lib.hid (Below.out V9.out hs.2 (fun k hk => by rw [hk]; omega) V9.out.size)⟩
  · have := HN.out
    have a1 := hN1.out
    have a2 := hN2.out
    have a3 := hN3.out
    have a4 := hN4.out
    have a5 := HI.out.len
    simp [encP, be_length]
    omega
  · have h8 : OwnI .u8 5 0 v9 A9 N9 e9 (encP p) := by
      unfold OwnI
      have e1 : ints .u8 (encP p) = ints .u8 ([] ++ be p.tsn 4 ++ be p.str 2 ++ be p.seq 2 ++ be 46 4) ++ ints .u8 p.bs := by
        rw [← ints_append]; simp [encP]
      rw [e1]; exact HR.out
    exact OwnI.rebase (show OwnI .u8 5 0 _ A9 N9 e9 _ from hs.2.own h8 (fun q hq e => by have := hb9 q (by rwa [ownBlock_slice] at hq); have e1 : q = w.heap.size + 1 := e; omega)) (fun q hq => by have := hb9 q hq; omega)
set_option maxRecDepth 100000 in
set_option maxHeartbeats 2000000 in
theorem rfromP_tft (p : Ck.Pc) (A : Option Addr) (m c : Nat) (w : World) (hin : InB w A m c p.bs) (ho : Ck.PcOk p) (h0 : 0 < m) (hm : m ≤ 256) (h8 : p.str < 8) : Calls Try.prog 24 #[.agg #[.int .u32 p.tsn, .int .u16 p.str, .int .u16 p.seq, .bool true, .bool false, .bool true, .slice A m c]] w (ChPost 0 6 (encP p) w) := by
  obtain ⟨W, hW⟩ : ∃ W, W = (w.alloc (.cells #[.int .u32 p.tsn, .int .u16 p.str, .int .u16 p.seq, .bool true, .bool false, .bool true, .slice A m c] 50)).alloc (.cells #[.int .u8 0, .int .u8 0, .slice none 0 0] 41) := ⟨_, rfl⟩
  have u1 := up_alloc w (.cells #[.int .u32 p.tsn, .int .u16 p.str, .int .u16 p.seq, .bool true, .bool false, .bool true, .slice A m c] 50)
  have a1 := new_at w (.cells #[.int .u32 p.tsn, .int .u16 p.str, .int .u16 p.seq, .bool true, .bool false, .bool true, .slice A m c] 50)
  have u2 := up_alloc (w.alloc (.cells #[.int .u32 p.tsn, .int .u16 p.str, .int .u16 p.seq, .bool true, .bool false, .bool true, .slice A m c] 50)) (.cells #[.int .u8 0, .int .u8 0, .slice none 0 0] 41)
  have a2 := new_at (w.alloc (.cells #[.int .u32 p.tsn, .int .u16 p.str, .int .u16 p.seq, .bool true, .bool false, .bool true, .slice A m c] 50)) (.cells #[.int .u8 0, .int .u8 0, .slice none 0 0] 41)
  have b1 := (u2.block _ (lt_of_blk a1)).trans a1
  have s1 : (w.alloc (.cells #[.int .u32 p.tsn, .int .u16 p.str, .int .u16 p.seq, .bool true, .bool false, .bool true, .slice A m c] 50)).heap.size = w.heap.size + 1 := by simp
  rw [s1] at a2
  have HS := Lib.hid (show ((w.alloc (.cells #[.int .u32 p.tsn, .int .u16 p.str, .int .u16 p.seq, .bool true, .bool false, .bool true, .slice A m c] 50)).alloc (.cells #[.int .u8 0, .int .u8 0, .slice none 0 0] 41)).heap.size = w.heap.size + 1 + 1 by simp)
  have HU := Lib.hid (u1.trans u2)
  rw [← hW] at a2 b1 HU HS
  have HW := Lib.hid hW
  have HQ := Lib.hid a2
  have HB := Lib.hid b1
  have c0 := cell_of b1 (j := 0) rfl
  have c1 := cell_of b1 (j := 1) rfl
  have c2 := cell_of b1 (j := 2) rfl
  have c3 := cell_of b1 (j := 3) rfl
  have c4 := cell_of b1 (j := 4) rfl
  have c5 := cell_of b1 (j := 5) rfl
  have c6 := cell_of b1 (j := 6) rfl
  clear u1 a1 u2 a2 b1 s1 hW
  have HI := Lib.hid hin
  have q0 := ho.tsn.1
  have q1 := ho.tsn.2
  have q2 := ho.str.1
  have q3 := ho.str.2
  have q4 := ho.seq.1
  have q5 := ho.seq.2
  have d1 : ((m : Int) == 0) = false := by rw [beq_eq_false_iff_ne]; omega
  have d2 : decide (8 ≤ p.str) = false := by simp; omega
  have d3 : decide (256 < (m : Int)) = false := by simp; omega
  clear hin ho
  go_enter Try.func24, Try.ntmps24
  go_upto_region 12 with (fail)
  rw [← HW.out]
  clear c1 c2 c3 c4 c5 c6 d1 d2 d3
  have V0 := Lib.hid (show Up W W from Up.refl W)
  go_wp2_with fail
  refine (rput' none 0 0 4 [] p.tsn W (inB_nil W) (by omega) (by omega) (by omega)).mono ?_
  rintro e v1 ⟨A1, N1, e1, rfl, hN1, hO1, hI1, hu1⟩
  have V1 := Lib.hid (V0.out.trans hu1.out)
  have k1 := cell_up (cell_of HB.out (j := 1) rfl) V1.out
  clear c0 V0
  have n1 : N1 ≤ 4 := by have := hN1.out; omega
  go_wp2_with fail
  refine (rput' A1 N1 e1 2 _ p.str v1 hI1.out (by omega) (by omega) (by omega)).mono ?_
  rintro e v2 ⟨A2, N2, e2, rfl, hN2, hO2, hI2, hu2⟩
  have V2 := Lib.hid (V1.out.trans hu2.out)
  have k2 := cell_up (cell_of HB.out (j := 2) rfl) V2.out
  clear k1 V1 hO1 hI1 hu1
  have n2 : N2 ≤ 6 := by have := hN2.out; omega
  go_wp2_with fail
  refine (rput' A2 N2 e2 2 _ p.seq v2 hI2.out (by omega) (by omega) (by omega)).mono ?_
  rintro e v3 ⟨A3, N3, e3, rfl, hN3, hO3, hI3, hu3⟩
  have V3 := Lib.hid (V2.out.trans hu3.out)
  clear k2 V2 hO2 hI2 hu2
  have n3 : N3 ≤ 8 := by have := hN3.out; omega
  go_wp2_with fail
  refine (rput' A3 N3 e3 4 _ 46 v3 hI3.out (by omega) (by omega) (by omega)).mono ?_
  rintro e v4 ⟨A4, N4, e4, rfl, hN4, hO4, hI4, hu4⟩
  have V4 := Lib.hid (V3.out.trans hu4.out)
  have HV3 := Lib.hid (show W.heap.size ≤ v3.heap.size from V3.out.size)
  have k4 := cell_up (cell_of HB.out (j := 6) rfl) V4.out
  clear V3 hO3 hI3 hu3
  have n4 : N4 ≤ 12 := by have := hN4.out; omega
  have HIv := Lib.hid (HI.out.up (HU.out.trans V4.out))
  go_wp2_with (at_builtin; refine wpList_appendG rfl (.tmp 51) (.tmp 53) 23 rfl 0 5 (.int .u8 0) 1 1 Try.underlying23 info5 rfl (by decide) A4 N4 e4 _ rfl (show OwnI .u8 5 0 _ _ _ _ _ from OwnI.base hO4.out (Nat.zero_le _)) A m c (ints .u8 p.bs) rfl (by rw [ints_length, HIv.out.len, Nat.mul_one]) HIv.out.cells (ints_one .u8 _) (by omega) (by omega) (Nat.zero_le _) ?_; intro A9 N9 e9 v9 HN HR HX HBk; have hq9 := HX.out.blk ((V4.out.block _ (lt_of_blk HQ.out)).trans HQ.out) (fun e => by have h1 := (row_lt hO4.out e).1; have h2 := HV3.out; have h3 := HS.out; omega); have E0 := cell_of hq9 (j := 0) rfl; have E1 := cell_of hq9 (j := 1) rfl; have E2 := cell_of hq9 (j := 2) rfl; have F0 := frozen_at (j := 0) hq9; have F1 := frozen_at (j := 1) hq9; have F2 := frozen_at (j := 2) hq9)
  have V9 := Lib.hid (Below.out (HU.out.trans V4.out) HX.out (fun k hk => by have h1 := (row_lt hO4.out hk).1; have h2 := HV3.out; have h3 := HS.out; omega) (by have := (HU.out.trans V4.out).size; omega))
  have hs := set3 (a := .int .u8 0) (b := .int .u8 6) (c := .slice A9 N9 e9) hq9 rfl
  have hb9 : ∀ k, blk? A9 = some k → w.heap.size + 1 < k := fun k hk => by
    have h2 := HV3.out
    have h3 := HS.out
    rcases HBk.out with hb | hb
    · have h1 := (row_lt hO4.out (show blk? A4 = some k by rw [← hb]; exact hk)).1; omega
    · rw [hb] at hk; injection hk with hk; have := V4.out.size; omega
  refine bodyPost_ret (results_row_tmp (fn := Try.f24) (p := 2) (u := 3) (ty := 41) rfl _ _ (w.heap.size + 1) 41 _ (0, 0) _ rfl hs.1 Try.underlying41 rfl rfl) rfl ⟨A9, N9, e9, rfl, Lib.hid ?_, Lib.hid ?_, Lib.hid (Below.out V9.out hs.2 (fun k hk => by rw [hk]; omega) V9.out.size)⟩
  · have := HN.out
    have a1 := hN1.out
    have a2 := hN2.out
    have a3 := hN3.out
    have a4 := hN4.out
    have a5 := HI.out.len
    simp [encP, be_length]
    omega
  · have h8 : OwnI .u8 5 0 v9 A9 N9 e9 (encP p) := by
      unfold OwnI
      have e1 : ints .u8 (encP p) = ints .u8 ([] ++ be p.tsn 4 ++ be p.str 2 ++ be p.seq 2 ++ be 46 4) ++ ints .u8 p.bs := by
        rw [← ints_append]; simp [encP]
      rw [e1]; exact HR.out
    exact OwnI.rebase (show OwnI .u8 5 0 _ A9 N9 e9 _ from hs.2.own h8 (fun q hq e => by have := hb9 q (by rwa [ownBlock_slice] at hq); have e1 : q = w.heap.size + 1 := e; omega)) (fun q hq => by have := hb9 q hq; omega)
set_option maxRecDepth 100000 in
set_option maxHeartbeats 2000000 in
theorem rfromP_ttf (p : Ck.Pc) (A : Option Addr) (m c : Nat) (w : World) (hin : InB w A m c p.bs) (ho : Ck.PcOk p) (h0 : 0 < m) (hm : m ≤ 256) (h8 : p.str < 8) : Calls Try.prog 24 #[.agg #[.int .u32 p.tsn, .int .u16 p.str, .int .u16 p.seq, .bool true, .bool true, .bool false, .slice A m c]] w (ChPost 0 3 (encP p) w) := by
  obtain ⟨W, hW⟩ : ∃ W, W = (w.alloc (.cells #[.int .u32 p.tsn, .int .u16 p.str, .int .u16 p.seq, .bool true, .bool true, .bool false, .slice A m c] 50)).alloc (.cells #[.int .u8 0, .int .u8 0, .slice none 0 0] 41) := ⟨_, rfl⟩
  have u1 := up_alloc w (.cells #[.int .u32 p.tsn, .int .u16 p.str, .int .u16 p.seq, .bool true, .bool true, .bool false, .slice A m c] 50)
  have a1 := new_at w (.cells #[.int .u32 p.tsn, .int .u16 p.str, .int .u16 p.seq, .bool true, .bool true, .bool false, .slice A m c] 50)
  have u2 := up_alloc (w.alloc (.cells #[.int .u32 p.tsn, .int .u16 p.str, .int .u16 p.seq, .bool true, .bool true, .bool false, .slice A m c] 50)) (.cells #[.int .u8 0, .int .u8 0, .slice none 0 0] 41)
  have a2 := new_at (w.alloc (.cells #[.int .u32 p.tsn, .int .u16 p.str, .int .u16 p.seq, .bool true, .bool true, .bool false, .slice A m c] 50)) (.cells #[.int .u8 0, .int .u8 0, .slice none 0 0] 41)
  have b1 := (u2.block _ (lt_of_blk a1)).trans a1
  have s1 : (w.alloc (.cells #[.int .u32 p.tsn, .int .u16 p.str, .int .u16 p.seq, .bool true, .bool true, .bool false, .slice A m c] 50)).heap.size = w.heap.size + 1 := by simp
  rw [s1] at a2
  have HS := Lib.hid (show ((w.alloc (.cells #[.int .u32 p.tsn, .int .u16 p.str, .int .u16 p.seq, .bool true, .bool true, .bool false, .slice A m c] 50)).alloc (.cells #[.int .u8 0, .int .u8 0, .slice none 0 0] 41)).heap.size = w.heap.size + 1 + 1 by simp)
  have HU := Lib.hid (u1.trans u2)
  rw [← hW] at a2 b1 HU HS
  have HW := Lib.hid hW
  have HQ := Lib.hid a2
  have HB := Lib.hid b1
  have c0 := cell_of b1 (j := 0) rfl
  have c1 := cell_of b1 (j := 1) rfl
  have c2 := cell_of b1 (j := 2) rfl
  have c3 := cell_of b1 (j := 3) rfl
  have c4 := cell_of b1 (j := 4) rfl
  have c5 := cell_of b1 (j := 5) rfl
  have c6 := cell_of b1 (j := 6) rfl
  clear u1 a1 u2 a2 b1 s1 hW
  have HI := Lib.hid hin
  have q0 := ho.tsn.1
  have q1 := ho.tsn.2
  have q2 := ho.str.1
  have q3 := ho.str.2
  have q4 := ho.seq.1
  have q5 := ho.seq.2
  have d1 : ((m : Int) == 0) = false := by rw [beq_eq_false_iff_ne]; omega
  have d2 : decide (8 ≤ p.str) = false := by simp; omega
  have d3 : decide (256 < (m : Int)) = false := by simp; omega
  clear hin ho
  go_enter Try.func24, Try.ntmps24
  go_upto_region 12 with (fail)
  rw [← HW.out]
  clear c1 c2 c3 c4 c5 c6 d1 d2 d3
  have V0 := Lib.hid (show Up W W from Up.refl W)
  go_wp2_with fail
  refine (rput' none 0 0 4 [] p.tsn W (inB_nil W) (by omega) (by omega) (by omega)).mono ?_
  rintro e v1 ⟨A1, N1, e1, rfl, hN1, hO1, hI1, hu1⟩
  have V1 := Lib.hid (V0.out.trans hu1.out)
  have k1 := cell_up (cell_of HB.out (j := 1) rfl) V1.out
  clear c0 V0
  have n1 : N1 ≤ 4 := by have := hN1.out; omega
  go_wp2_with fail
  refine (rput' A1 N1 e1 2 _ p.str v1 hI1.out (by omega) (by omega) (by omega)).mono ?_
  rintro e v2 ⟨A2, N2, e2, rfl, hN2, hO2, hI2, hu2⟩
  have V2 := Lib.hid (V1.out.trans hu2.out)
  have k2 := cell_up (cell_of HB.out (j := 2) rfl) V2.out
  clear k1 V1 hO1 hI1 hu1
  have n2 : N2 ≤ 6 := by have := hN2.out; omega
  go_wp2_with fail
  refine (rput' A2 N2 e2 2 _ p.seq v2 hI2.out (by omega) (by omega) (by omega)).mono ?_
  rintro e v3 ⟨A3, N3, e3, rfl, hN3, hO3, hI3, hu3⟩
  have V3 := Lib.hid (V2.out.trans hu3.out)
  clear k2 V2 hO2 hI2 hu2
  have n3 : N3 ≤ 8 := by have := hN3.out; omega
  go_wp2_with fail
  refine (rput' A3 N3 e3 4 _ 46 v3 hI3.out (by omega) (by omega) (by omega)).mono ?_
  rintro e v4 ⟨A4, N4, e4, rfl, hN4, hO4, hI4, hu4⟩
  have V4 := Lib.hid (V3.out.trans hu4.out)
  have HV3 := Lib.hid (show W.heap.size ≤ v3.heap.size from V3.out.size)
  have k4 := cell_up (cell_of HB.out (j := 6) rfl) V4.out
  clear V3 hO3 hI3 hu3
  have n4 : N4 ≤ 12 := by have := hN4.out; omega
  have HIv := Lib.hid (HI.out.up (HU.out.trans V4.out))
  go_wp2_with (at_builtin; refine wpList_appendG rfl (.tmp 51) (.tmp 53) 23 rfl 0 5 (.int .u8 0) 1 1 Try.underlying23 info5 rfl (by decide) A4 N4 e4 _ rfl (show OwnI .u8 5 0 _ _ _ _ _ from OwnI.base hO4.out (Nat.zero_le _)) A m c (ints .u8 p.bs) rfl (by rw [ints_length, HIv.out.len, Nat.mul_one]) HIv.out.cells (ints_one .u8 _) (by omega) (by omega) (Nat.zero_le _) ?_; intro A9 N9 e9 v9 HN HR HX HBk; have hq9 := HX.out.blk ((V4.out.block _ (lt_of_blk HQ.out)).trans HQ.out) (fun e => by have h1 := (row_lt hO4.out e).1; have h2 := HV3.out; have h3 := HS.out; omega); have E0 := cell_of hq9 (j := 0) rfl; have E1 := cell_of hq9 (j := 1) rfl; have E2 := cell_of hq9 (j := 2) rfl; have F0 := frozen_at (j := 0) hq9; have F1 := frozen_at (j := 1) hq9; have F2 := frozen_at (j := 2) hq9)
  have V9 := Lib.hid (Below.out (HU.out.trans V4.out) HX.out (fun k hk => by have h1 := (row_lt hO4.out hk).1; have h2 := HV3.out; have h3 := HS.out; omega) (by have := (HU.out.trans V4.out).size; omega))
  have hs := set3 (a := .int .u8 0) (b := .int .u8 3) (c := .slice A9 N9 e9) hq9 rfl
  have hb9 : ∀ k, blk? A9 = some k → w.heap.size + 1 < k := fun k hk => by
    have h2 := HV3.out
    have h3 := HS.out
    rcases HBk.out with hb | hb
    · have h1 := (row_lt hO4.out (show blk? A4 = some k by rw [← hb]; exact hk)).1; omega
    · rw [hb] at hk; injection hk with hk; have := V4.out.size; omega
  refine bodyPost_ret (results_row_tmp (fn := Try.f24) (p := 2) (u := 3) (ty := 41) rfl _ _ (w.heap.size + 1) 41 _ (0, 0) _ rfl hs.1 Try.underlying41 rfl rfl) rfl ⟨A9, N9, e9, rfl, Lib.hid ?_, Lib.hid ?_, Lib.hid (Below.out V9.out hs.2 (fun k hk => by rw [hk]; omega) V9.out.size)⟩
  · have := HN.out
    have a1 := hN1.out
    have a2 := hN2.out
    have a3 := hN3.out
    have a4 := hN4.out
    have a5 := HI.out.len
    simp [encP, be_length]
    omega
  · have h8 : OwnI .u8 5 0 v9 A9 N9 e9 (encP p) := by
      unfold OwnI
      have e1 : ints .u8 (encP p) = ints .u8 ([] ++ be p.tsn 4 ++ be p.str 2 ++ be p.seq 2 ++ be 46 4) ++ ints .u8 p.bs := by
        rw [← ints_append]; simp [encP]
      rw [e1]; exact HR.out
    exact OwnI.rebase (show OwnI .u8 5 0 _ A9 N9 e9 _ from hs.2.own h8 (fun q hq e => by have := hb9 q (by rwa [ownBlock_slice] at hq); have e1 : q = w.heap.size + 1 := e; omega)) (fun q hq => by have := hb9 q hq; omega)
set_option maxRecDepth 100000 in
set_option maxHeartbeats 2000000 in
theorem rfromP_ttt (p : Ck.Pc) (A : Option Addr) (m c : Nat) (w : World) (hin : InB w A m c p.bs) (ho : Ck.PcOk p) (h0 : 0 < m) (hm : m ≤ 256) (h8 : p.str < 8) : Calls Try.prog 24 #[.agg #[.int .u32 p.tsn, .int .u16 p.str, .int .u16 p.seq, .bool true, .bool true, .bool true, .slice A m c]] w (ChPost 0 7 (encP p) w) := by
  obtain ⟨W, hW⟩ : ∃ W, W = (w.alloc (.cells #[.int .u32 p.tsn, .int .u16 p.str, .int .u16 p.seq, .bool true, .bool true, .bool true, .slice A m c] 50)).alloc (.cells #[.int .u8 0, .int .u8 0, .slice none 0 0] 41) := ⟨_, rfl⟩
  have u1 := up_alloc w (.cells #[.int .u32 p.tsn, .int .u16 p.str, .int .u16 p.seq, .bool true, .bool true, .bool true, .slice A m c] 50)
  have a1 := new_at w (.cells #[.int .u32 p.tsn, .int .u16 p.str, .int .u16 p.seq, .bool true, .bool true, .bool true, .slice A m c] 50)
  have u2 := up_alloc (w.alloc (.cells #[.int .u32 p.tsn, .int .u16 p.str, .int .u16 p.seq, .bool true, .bool true, .bool true, .slice A m c] 50)) (.cells #[.int .u8 0, .int .u8 0, .slice none 0 0] 41)
  have a2 := new_at (w.alloc (.cells #[.int .u32 p.tsn, .int .u16 p.str, .int .u16 p.seq, .bool true, .bool true, .bool true, .slice A m c] 50)) (.cells #[.int .u8 0, .int .u8 0, .slice none 0 0] 41)
  have b1 := (u2.block _ (lt_of_blk a1)).trans a1
  have s1 : (w.alloc (.cells #[.int .u32 p.tsn, .int .u16 p.str, .int .u16 p.seq, .bool true, .bool true, .bool true, .slice A m c] 50)).heap.size = w.heap.size + 1 := by simp
  rw [s1] at a2
  have HS := Lib.hid (show ((w.alloc (.cells #[.int .u32 p.tsn, .int .u16 p.str, .int .u16 p.seq, .bool true, .bool true, .bool true, .slice A m c] 50)).alloc (.cells #[.int .u8 0, .int .u8 0, .slice none 0 0] 41)).heap.size = w.heap.size + 1 + 1 by simp)
  have HU := Lib.hid (u1.trans u2)
  rw [← hW] at a2 b1 HU HS
  have HW := Lib.hid hW
  have HQ := Lib.hid a2
  have HB := Lib.hid b1
  have c0 := cell_of b1 (j := 0) rfl
  have c1 := cell_of b1 (j := 1) rfl
  have c2 := cell_of b1 (j := 2) rfl
  have c3 := cell_of b1 (j := 3) rfl
  have c4 := cell_of b1 (j := 4) rfl
  have c5 := cell_of b1 (j := 5) rfl
  have c6 := cell_of b1 (j := 6) rfl
  clear u1 a1 u2 a2 b1 s1 hW
  have HI := Lib.hid hin
  have q0 := ho.tsn.1
  have q1 := ho.tsn.2
  have q2 := ho.str.1
  have q3 := ho.str.2
  have q4 := ho.seq.1
  have q5 := ho.seq.2
  have d1 : ((m : Int) == 0) = false := by rw [beq_eq_false_iff_ne]; omega
  have d2 : decide (8 ≤ p.str) = false := by simp; omega
  have d3 : decide (256 < (m : Int)) = false := by simp; omega
  clear hin ho
  go_enter Try.func24, Try.ntmps24
  go_upto_region 12 with (fail)
  rw [← HW.out]
  clear c1 c2 c3 c4 c5 c6 d1 d2 d3
  have V0 := Lib.hid (show Up W W from Up.refl W)
  go_wp2_with fail
  refine (rput' none 0 0 4 [] p.tsn W (inB_nil W) (by omega) (by omega) (by omega)).mono ?_
  rintro e v1 ⟨A1, N1, e1, rfl, hN1, hO1, hI1, hu1⟩
  have V1 := Lib.hid (V0.out.trans hu1.out)
  have k1 := cell_up (cell_of HB.out (j := 1) rfl) V1.out
  clear c0 V0
  have n1 : N1 ≤ 4 := by have := hN1.out; omega
  go_wp2_with fail
  refine (rput' A1 N1 e1 2 _ p.str v1 hI1.out (by omega) (by omega) (by omega)).mono ?_
  rintro e v2 ⟨A2, N2, e2, rfl, hN2, hO2, hI2, hu2⟩
  have V2 := Lib.hid (V1.out.trans hu2.out)
  have k2 := cell_up (cell_of HB.out (j := 2) rfl) V2.out
  clear k1 V1 hO1 hI1 hu1
  have n2 : N2 ≤ 6 := by have := hN2.out; omega
  go_wp2_with fail
  refine (rput' A2 N2 e2 2 _ p.seq v2 hI2.out (by omega) (by omega) (by omega)).mono ?_
  rintro e v3 ⟨A3, N3, e3, rfl, hN3, hO3, hI3, hu3⟩
  have V3 := Lib.hid (V2.out.trans hu3.out)
  clear k2 V2 hO2 hI2 hu2
  have n3 : N3 ≤ 8 := by have := hN3.out; omega
  go_wp2_with fail
  refine (rput' A3 N3 e3 4 _ 46 v3 hI3.out (by omega) (by omega) (by omega)).mono ?_
  rintro e v4 ⟨A4, N4, e4, rfl, hN4, hO4, hI4, hu4⟩
  have V4 := Lib.hid (V3.out.trans hu4.out)
  have HV3 := Lib.hid (show W.heap.size ≤ v3.heap.size from V3.out.size)
  have k4 := cell_up (cell_of HB.out (j := 6) rfl) V4.out
  clear V3 hO3 hI3 hu3
  have n4 : N4 ≤ 12 := by have := hN4.out; omega
  have HIv := Lib.hid (HI.out.up (HU.out.trans V4.out))
  go_wp2_with (at_builtin; refine wpList_appendG rfl (.tmp 51) (.tmp 53) 23 rfl 0 5 (.int .u8 0) 1 1 Try.underlying23 info5 rfl (by decide) A4 N4 e4 _ rfl (show OwnI .u8 5 0 _ _ _ _ _ from OwnI.base hO4.out (Nat.zero_le _)) A m c (ints .u8 p.bs) rfl (by rw [ints_length, HIv.out.len, Nat.mul_one]) HIv.out.cells (ints_one .u8 _) (by omega) (by omega) (Nat.zero_le _) ?_; intro A9 N9 e9 v9 HN HR HX HBk; have hq9 := HX.out.blk ((V4.out.block _ (lt_of_blk HQ.out)).trans HQ.out) (fun e => by have h1 := (row_lt hO4.out e).1; have h2 := HV3.out; have h3 := HS.out; omega); have E0 := cell_of hq9 (j := 0) rfl; have E1 := cell_of hq9 (j := 1) rfl; have E2 := cell_of hq9 (j := 2) rfl; have F0 := frozen_at (j := 0) hq9; have F1 := frozen_at (j := 1) hq9; have F2 := frozen_at (j := 2) hq9)
  have V9 := Lib.hid (Below.out (HU.out.trans V4.out) HX.out (fun k hk => by have h1 := (row_lt hO4.out hk).1; have h2 := HV3.out; have h3 := HS.out; omega) (by have := (HU.out.trans V4.out).size; omega))
  have hs := set3 (a := .int .u8 0) (b := .int .u8 7) (c := .slice A9 N9 e9) hq9 rfl
  have hb9 : ∀ k, blk? A9 = some k → w.heap.size + 1 < k := fun k hk => by
    have h2 := HV3.out
    have h3 := HS.out
    rcases HBk.out with hb | hb
    · have h1 := (row_lt hO4.out (show blk? A4 = some k by rw [← hb]; exact hk)).1; omega
    · rw [hb] at hk; injection hk with hk; have := V4.out.size; omega
  refine bodyPost_ret (results_row_tmp (fn := Try.f24) (p := 2) (u := 3) (ty := 41) rfl _ _ (w.heap.size + 1) 41 _ (0, 0) _ rfl hs.1 Try.underlying41 rfl rfl) rfl ⟨A9, N9, e9, rfl, Lib.hid ?_, Lib.hid ?_, Lib.hid (Below.out V9.out hs.2 (fun k hk => by rw [hk]; omega) V9.out.size)⟩
  · have := HN.out
    have a1 := hN1.out
    have a2 := hN2.out
    have a3 := hN3.out
    have a4 := hN4.out
    have a5 := HI.out.len
    simp [encP, be_length]
    omega
  · have h8 : OwnI .u8 5 0 v9 A9 N9 e9 (encP p) := by
      unfold OwnI
      have e1 : ints .u8 (encP p) = ints .u8 ([] ++ be p.tsn 4 ++ be p.str 2 ++ be p.seq 2 ++ be 46 4) ++ ints .u8 p.bs := by
        rw [← ints_append]; simp [encP]
      rw [e1]; exact HR.out
    exact OwnI.rebase (show OwnI .u8 5 0 _ A9 N9 e9 _ from hs.2.own h8 (fun q hq e => by have := hb9 q (by rwa [ownBlock_slice] at hq); have e1 : q = w.heap.size + 1 := e; omega)) (fun q hq => by have := hb9 q hq; omega)
theorem rfromP_ok (p : Ck.Pc) (A : Option Addr) (m c : Nat) (w : World) (hin : InB w A m c p.bs) (hk : Ck.chkP p = 0) (ho : Ck.PcOk p) : Calls Try.prog 24 #[pcV p (.slice A m c)] w (ChPost 0 (Ck.flg p) (encP p) w) := by
  have hc : ¬ p.bs.length = 0 ∧ ¬ 8 ≤ p.str ∧ ¬ 256 < p.bs.length := by
    unfold Ck.chkP at hk
    split at hk
    · omega
    · split at hk
      · omega
      · omega
  have hl := hin.len
  obtain ⟨h1, h2, h3⟩ := hc
  obtain ⟨tsn, str, seq, bg, en, un, bs⟩ := p
  cases bg <;> cases en <;> cases un
  · exact rfromP_fff _ A m c w hin ho (by omega) (by omega) (by omega)
  · exact rfromP_fft _ A m c w hin ho (by omega) (by omega) (by omega)
  · exact rfromP_ftf _ A m c w hin ho (by omega) (by omega) (by omega)
  · exact rfromP_ftt _ A m c w hin ho (by omega) (by omega) (by omega)
  · exact rfromP_tff _ A m c w hin ho (by omega) (by omega) (by omega)
  · exact rfromP_tft _ A m c w hin ho (by omega) (by omega) (by omega)
  · exact rfromP_ttf _ A m c w hin ho (by omega) (by omega) (by omega)
  · exact rfromP_ttt _ A m c w hin ho (by omega) (by omega) (by omega)
end Go.Proofs.Ytgikgcepeniekaa
