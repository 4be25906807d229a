import Derived.Test.YtgikgcepeniekaaCk11
import Derived.Test.YtgikgcepeniekaaCk9
namespace Go.Proofs.Ytgikgcepeniekaa
open Go Go.RowKit
set_option linter.unusedVariables false
set_option linter.unusedSimpArgs false
set_option maxRecDepth 100000 in
theorem toH_e1 (A : Option Addr) (m c : Nat) (fl : Int) (w : World) (h1 : (fl == 0) = false) : Calls Try.prog 20 #[chV 2 fl (.slice A m c)] w (HNo w) := by
  obtain ⟨W, hW⟩ : ∃ W, W = (w.alloc (.cells #[.int .u8 2, .int .u8 fl, .slice A m c] 41)).alloc (.cells #[.int .u32 0, .int .u32 0, .int .u16 0, .int .u16 0, .int .u32 0, .slice none 0 0] 39) := ⟨_, rfl⟩
  have u1 := up_alloc w (.cells #[.int .u8 2, .int .u8 fl, .slice A m c] 41)
  have a1 := new_at w (.cells #[.int .u8 2, .int .u8 fl, .slice A m c] 41)
  have u2 := up_alloc (w.alloc (.cells #[.int .u8 2, .int .u8 fl, .slice A m c] 41)) (.cells #[.int .u32 0, .int .u32 0, .int .u16 0, .int .u16 0, .int .u32 0, .slice none 0 0] 39)
  have a2 := new_at (w.alloc (.cells #[.int .u8 2, .int .u8 fl, .slice A m c] 41)) (.cells #[.int .u32 0, .int .u32 0, .int .u16 0, .int .u16 0, .int .u32 0, .slice none 0 0] 39)
  have b1 := (u2.block _ (lt_of_blk a1)).trans a1
  have s1 : (w.alloc (.cells #[.int .u8 2, .int .u8 fl, .slice A m c] 41)).heap.size = w.heap.size + 1 := by simp
  rw [s1] at a2
  have HS := Lib.hid (show ((w.alloc (.cells #[.int .u8 2, .int .u8 fl, .slice A m c] 41)).alloc (.cells #[.int .u32 0, .int .u32 0, .int .u16 0, .int .u16 0, .int .u32 0, .slice none 0 0] 39)).heap.size = w.heap.size + 1 + 1 by simp)
  have HU := Lib.hid (u1.trans u2)
  rw [← hW] at a2 b1 HU HS
  have HW := Lib.hid hW
  have HQ := Lib.hid a2
  have HB := Lib.hid b1
  have c0 := cell_of b1 (j := 0) rfl
  have c1 := cell_of b1 (j := 1) rfl
  have c2 := cell_of b1 (j := 2) rfl
  clear u1 a1 u2 a2 b1 s1 hW
  unfold chV
  go_enter Try.func20, Try.ntmps20
  go_upto_region 1 with (fail)
  rw [← HW.out]
  have e0 := cell_of HQ.out (j := 0) rfl
  have f0 := frozen_at (j := 0) HQ.out
  have e1 := cell_of HQ.out (j := 1) rfl
  have f1 := frozen_at (j := 1) HQ.out
  have e2 := cell_of HQ.out (j := 2) rfl
  have f2 := frozen_at (j := 2) HQ.out
  have e3 := cell_of HQ.out (j := 3) rfl
  have f3 := frozen_at (j := 3) HQ.out
  have e4 := cell_of HQ.out (j := 4) rfl
  have f4 := frozen_at (j := 4) HQ.out
  have e5 := cell_of HQ.out (j := 5) rfl
  have f5 := frozen_at (j := 5) HQ.out
  go_wp2_with fail
  have hs := set6 (a := .int .u32 0) (b := .int .u32 0) (c := .int .u16 0) (d := .int .u16 0) (e := .int .u32 0) (f := .slice none 0 0) HQ.out rfl
  refine bodyPost_ret (results_row_tmp (fn := Try.f20) (p := 2) (u := 3) (ty := 39) rfl _ _ (w.heap.size + 1) 39 _ (0, 0) _ rfl hs.1 Try.underlying39 rfl rfl) rfl ⟨rfl, Lib.hid (Below.out HU.out hs.2 (fun k hk => by rw [hk]; omega) HU.out.size)⟩
set_option maxRecDepth 100000 in
theorem toH_e2 (A : Option Addr) (m c : Nat) (fl : Int) (w : World) (h1 : (fl == 0) = false) : Calls Try.prog 20 #[chV 1 fl (.slice A m c)] w (HNo w) := by
  obtain ⟨W, hW⟩ : ∃ W, W = (w.alloc (.cells #[.int .u8 1, .int .u8 fl, .slice A m c] 41)).alloc (.cells #[.int .u32 0, .int .u32 0, .int .u16 0, .int .u16 0, .int .u32 0, .slice none 0 0] 39) := ⟨_, rfl⟩
  have u1 := up_alloc w (.cells #[.int .u8 1, .int .u8 fl, .slice A m c] 41)
  have a1 := new_at w (.cells #[.int .u8 1, .int .u8 fl, .slice A m c] 41)
  have u2 := up_alloc (w.alloc (.cells #[.int .u8 1, .int .u8 fl, .slice A m c] 41)) (.cells #[.int .u32 0, .int .u32 0, .int .u16 0, .int .u16 0, .int .u32 0, .slice none 0 0] 39)
  have a2 := new_at (w.alloc (.cells #[.int .u8 1, .int .u8 fl, .slice A m c] 41)) (.cells #[.int .u32 0, .int .u32 0, .int .u16 0, .int .u16 0, .int .u32 0, .slice none 0 0] 39)
  have b1 := (u2.block _ (lt_of_blk a1)).trans a1
  have s1 : (w.alloc (.cells #[.int .u8 1, .int .u8 fl, .slice A m c] 41)).heap.size = w.heap.size + 1 := by simp
  rw [s1] at a2
  have HS := Lib.hid (show ((w.alloc (.cells #[.int .u8 1, .int .u8 fl, .slice A m c] 41)).alloc (.cells #[.int .u32 0, .int .u32 0, .int .u16 0, .int .u16 0, .int .u32 0, .slice none 0 0] 39)).heap.size = w.heap.size + 1 + 1 by simp)
  have HU := Lib.hid (u1.trans u2)
  rw [← hW] at a2 b1 HU HS
  have HW := Lib.hid hW
  have HQ := Lib.hid a2
  have HB := Lib.hid b1
  have c0 := cell_of b1 (j := 0) rfl
  have c1 := cell_of b1 (j := 1) rfl
  have c2 := cell_of b1 (j := 2) rfl
  clear u1 a1 u2 a2 b1 s1 hW
  unfold chV
  go_enter Try.func20, Try.ntmps20
  go_upto_region 1 with (fail)
  rw [← HW.out]
  have e0 := cell_of HQ.out (j := 0) rfl
  have f0 := frozen_at (j := 0) HQ.out
  have e1 := cell_of HQ.out (j := 1) rfl
  have f1 := frozen_at (j := 1) HQ.out
  have e2 := cell_of HQ.out (j := 2) rfl
  have f2 := frozen_at (j := 2) HQ.out
  have e3 := cell_of HQ.out (j := 3) rfl
  have f3 := frozen_at (j := 3) HQ.out
  have e4 := cell_of HQ.out (j := 4) rfl
  have f4 := frozen_at (j := 4) HQ.out
  have e5 := cell_of HQ.out (j := 5) rfl
  have f5 := frozen_at (j := 5) HQ.out
  go_wp2_with fail
  have hs := set6 (a := .int .u32 0) (b := .int .u32 0) (c := .int .u16 0) (d := .int .u16 0) (e := .int .u32 0) (f := .slice none 0 0) HQ.out rfl
  refine bodyPost_ret (results_row_tmp (fn := Try.f20) (p := 2) (u := 3) (ty := 39) rfl _ _ (w.heap.size + 1) 39 _ (0, 0) _ rfl hs.1 Try.underlying39 rfl rfl) rfl ⟨rfl, Lib.hid (Below.out HU.out hs.2 (fun k hk => by rw [hk]; omega) HU.out.size)⟩
set_option maxRecDepth 100000 in
theorem toH_e3 (A : Option Addr) (m c : Nat) (ty fl : Int) (w : World) (h1 : (ty == 2) = false) (h2 : (ty == 1) = false) : Calls Try.prog 20 #[chV ty fl (.slice A m c)] w (HNo w) := by
  obtain ⟨W, hW⟩ : ∃ W, W = (w.alloc (.cells #[.int .u8 ty, .int .u8 fl, .slice A m c] 41)).alloc (.cells #[.int .u32 0, .int .u32 0, .int .u16 0, .int .u16 0, .int .u32 0, .slice none 0 0] 39) := ⟨_, rfl⟩
  have u1 := up_alloc w (.cells #[.int .u8 ty, .int .u8 fl, .slice A m c] 41)
  have a1 := new_at w (.cells #[.int .u8 ty, .int .u8 fl, .slice A m c] 41)
  have u2 := up_alloc (w.alloc (.cells #[.int .u8 ty, .int .u8 fl, .slice A m c] 41)) (.cells #[.int .u32 0, .int .u32 0, .int .u16 0, .int .u16 0, .int .u32 0, .slice none 0 0] 39)
  have a2 := new_at (w.alloc (.cells #[.int .u8 ty, .int .u8 fl, .slice A m c] 41)) (.cells #[.int .u32 0, .int .u32 0, .int .u16 0, .int .u16 0, .int .u32 0, .slice none 0 0] 39)
  have b1 := (u2.block _ (lt_of_blk a1)).trans a1
  have s1 : (w.alloc (.cells #[.int .u8 ty, .int .u8 fl, .slice A m c] 41)).heap.size = w.heap.size + 1 := by simp
  rw [s1] at a2
  have HS := Lib.hid (show ((w.alloc (.cells #[.int .u8 ty, .int .u8 fl, .slice A m c] 41)).alloc (.cells #[.int .u32 0, .int .u32 0, .int .u16 0, .int .u16 0, .int .u32 0, .slice none 0 0] 39)).heap.size = w.heap.size + 1 + 1 by simp)
  have HU := Lib.hid (u1.trans u2)
  rw [← hW] at a2 b1 HU HS
  have HW := Lib.hid hW
  have HQ := Lib.hid a2
  have HB := Lib.hid b1
  have c0 := cell_of b1 (j := 0) rfl
  have c1 := cell_of b1 (j := 1) rfl
  have c2 := cell_of b1 (j := 2) rfl
  clear u1 a1 u2 a2 b1 s1 hW
  unfold chV
  go_enter Try.func20, Try.ntmps20
  go_upto_region 1 with (fail)
  rw [← HW.out]
  have e0 := cell_of HQ.out (j := 0) rfl
  have f0 := frozen_at (j := 0) HQ.out
  have e1 := cell_of HQ.out (j := 1) rfl
  have f1 := frozen_at (j := 1) HQ.out
  have e2 := cell_of HQ.out (j := 2) rfl
  have f2 := frozen_at (j := 2) HQ.out
  have e3 := cell_of HQ.out (j := 3) rfl
  have f3 := frozen_at (j := 3) HQ.out
  have e4 := cell_of HQ.out (j := 4) rfl
  have f4 := frozen_at (j := 4) HQ.out
  have e5 := cell_of HQ.out (j := 5) rfl
  have f5 := frozen_at (j := 5) HQ.out
  go_wp2_with fail
  have hs := set6 (a := .int .u32 0) (b := .int .u32 0) (c := .int .u16 0) (d := .int .u16 0) (e := .int .u32 0) (f := .slice none 0 0) HQ.out rfl
  refine bodyPost_ret (results_row_tmp (fn := Try.f20) (p := 2) (u := 3) (ty := 39) rfl _ _ (w.heap.size + 1) 39 _ (0, 0) _ rfl hs.1 Try.underlying39 rfl rfl) rfl ⟨rfl, Lib.hid (Below.out HU.out hs.2 (fun k hk => by rw [hk]; omega) HU.out.size)⟩
set_option maxRecDepth 100000 in
set_option maxHeartbeats 2000000 in
theorem toH_read2 (A : Option Addr) (m c : Nat) (xs : List Int) (w : World) (hin : InB w A m c xs) (hm : m ≤ 140737488351232) : Calls Try.prog 20 #[chV 2 0 (.slice A m c)] w (ToHPost 2 0 xs w) := by
  obtain ⟨W, hW⟩ : ∃ W, W = (w.alloc (.cells #[.int .u8 2, .int .u8 0, .slice A m c] 41)).alloc (.cells #[.int .u32 0, .int .u32 0, .int .u16 0, .int .u16 0, .int .u32 0, .slice none 0 0] 39) := ⟨_, rfl⟩
  have u1 := up_alloc w (.cells #[.int .u8 2, .int .u8 0, .slice A m c] 41)
  have a1 := new_at w (.cells #[.int .u8 2, .int .u8 0, .slice A m c] 41)
  have u2 := up_alloc (w.alloc (.cells #[.int .u8 2, .int .u8 0, .slice A m c] 41)) (.cells #[.int .u32 0, .int .u32 0, .int .u16 0, .int .u16 0, .int .u32 0, .slice none 0 0] 39)
  have a2 := new_at (w.alloc (.cells #[.int .u8 2, .int .u8 0, .slice A m c] 41)) (.cells #[.int .u32 0, .int .u32 0, .int .u16 0, .int .u16 0, .int .u32 0, .slice none 0 0] 39)
  have b1 := (u2.block _ (lt_of_blk a1)).trans a1
  have s1 : (w.alloc (.cells #[.int .u8 2, .int .u8 0, .slice A m c] 41)).heap.size = w.heap.size + 1 := by simp
  rw [s1] at a2
  have HS := Lib.hid (show ((w.alloc (.cells #[.int .u8 2, .int .u8 0, .slice A m c] 41)).alloc (.cells #[.int .u32 0, .int .u32 0, .int .u16 0, .int .u16 0, .int .u32 0, .slice none 0 0] 39)).heap.size = w.heap.size + 1 + 1 by simp)
  have HU := Lib.hid (u1.trans u2)
  rw [← hW] at a2 b1 HU HS
  have HW := Lib.hid hW
  have HQ := Lib.hid a2
  have HB := Lib.hid b1
  have c0 := cell_of b1 (j := 0) rfl
  have c1 := cell_of b1 (j := 1) rfl
  have c2 := cell_of b1 (j := 2) rfl
  clear u1 a1 u2 a2 b1 s1 hW
  have HI := Lib.hid hin
  have HM := Lib.hid hm
  have HL := Lib.hid (show (.cells #[.int .u32 0, .int .u32 0, .int .u16 0, .int .u16 0, .int .u32 0, .slice none 0 0] 39 : Obj) = .cells #[.int .u32 0, .int .u32 0, .int .u16 0, .int .u16 0, .int .u32 0, .slice none 0 0] 39 from rfl)
  have G0 := Lib.hid (RH.start (L := [(w.heap.size + 1, .cells #[.int .u32 0, .int .u32 0, .int .u16 0, .int .u16 0, .int .u32 0, .slice none 0 0] 39)]) hin hm HU.out (by intro p hp; rw [List.mem_singleton] at hp; subst hp; exact HQ.out))
  clear hin hm HL
  unfold chV
  go_enter Try.func20, Try.ntmps20
  go_upto_region 5 with (fail)
  rw [← HW.out]
  generalize (W.alloc (.cells #[.slice A m c, .int .i64 0, .int .i64 0] 77)) = w1 at G0 ⊢
  rw [HS.out] at G0
  generalize w.heap.size + 1 + 1 = g at G0 ⊢
  clear c0 c1 c2
  go_wp2_with fail
  refine (rfour w1 G0.out.isR).mono ?_
  rintro e v1 ⟨t1, r1, rfl, s1, b1, i1, o1⟩
  have G1 := Lib.hid (G0.out.step i1 o1)
  clear i1 o1 G0
  go_wp2_with fail
  refine (rfour v1 G1.out.isR).mono ?_
  rintro e v2 ⟨t2, r2, rfl, s2, b2, i1, o1⟩
  have G2 := Lib.hid (G1.out.step i1 o1)
  clear i1 o1 G1
  go_wp2_with fail
  refine (rtwo v2 G2.out.isR).mono ?_
  rintro e v3 ⟨t3, r3, rfl, s3, b3, i1, o1⟩
  have G3 := Lib.hid (G2.out.step i1 o1)
  clear i1 o1 G2
  go_wp2_with fail
  refine (rtwo v3 G3.out.isR).mono ?_
  rintro e v4 ⟨t4, r4, rfl, s4, b4, i1, o1⟩
  have G4 := Lib.hid (G3.out.step i1 o1)
  clear i1 o1 G3
  go_wp2_with fail
  refine (rfour v4 G4.out.isR).mono ?_
  rintro e v5 ⟨t5, r5, rfl, s5, b5, i1, o1⟩
  have G5 := Lib.hid (G4.out.step i1 o1)
  clear i1 o1 G4
  go_upto_region 6 with (fail)
  have GA := Lib.hid (G5.out.add (.cells #[.int .u32 t1, .int .u32 t2, .int .u16 t3, .int .u16 t4, .int .u32 t5, .slice none 0 0] 39))
  have HBQ := Lib.hid (show v5.heap.size ≠ w.heap.size + 1 from fun e => by have := lt_of_blk (G5.out.kept _ List.mem_cons_self).1; simp only at this; omega)
  have HBG := Lib.hid (show g < v5.heap.size from G5.out.isR.lt)
  have HBW := Lib.hid (show w.heap.size ≤ v5.heap.size from G5.out.up.size)
  generalize (v5.alloc (.cells #[.int .u32 t1, .int .u32 t2, .int .u16 t3, .int .u16 t4, .int .u32 t5, .slice none 0 0] 39)) = v6 at GA ⊢
  generalize v5.heap.size = hb at GA HBQ HBG HBW ⊢
  clear G5
  go_wp2_with fail
  refine (rtwo v6 GA.out.isR).mono ?_
  rintro e v7 ⟨t6, r6, rfl, s6, b6, i1, o1⟩
  have GB := Lib.hid (GA.out.step i1 o1)
  clear i1 o1 GA
  go_wp2_with fail
  refine (rrequire (t6 == 7) v7 GB.out.isR).mono ?_
  rintro e v8 ⟨rfl, i1, o1⟩
  have GC := Lib.hid (GB.out.step i1 o1)
  clear i1 o1 GB
  go_wp2_with fail
  refine (rpadded v8 GC.out.isR).mono ?_
  rintro e v9 ⟨A9, N9, c9, bs, r7, rfl, s7, hN9, hB9, hO9, i1, o1⟩
  have GD := Lib.hid (GC.out.step i1 o1)
  have HO9 := Lib.hid (hO9.out.base GC.out.up.size)
  have HH8 := Lib.hid (lt_of_blk (GC.out.kept _ List.mem_cons_self).1)
  have HAB := Lib.hid (show ∀ k, blk? A9 = some k → k ≠ hb ∧ k ≠ g ∧ k ≠ w.heap.size + 1 from fun k hk => by
    have h1 := (row_lt hO9.out hk).1
    have h2 := lt_of_blk (GC.out.kept _ List.mem_cons_self).1
    have h3 := GC.out.isR.lt
    have h4 := lt_of_blk (GC.out.kept _ (List.mem_cons_of_mem _ List.mem_cons_self)).1
    simp only at h2 h4
    refine ⟨by omega, by omega, by omega⟩)
  clear i1 o1 GC hO9
  have hh0 := (GD.out.kept _ List.mem_cons_self).1
  simp only at hh0
  have z5 := cell_of hh0 (j := 5) rfl
  have y5 := frozen_at (j := 5) hh0
  have hst := setCell_out v9 hb 5 (.slice A9 N9 c9)
  have hh := setCell_at (j := 5) (.slice A9 N9 c9) hh0
  have GE := Lib.hid (show RH g [(w.heap.size + 1, .cells #[.int .u32 0, .int .u32 0, .int .u16 0, .int .u16 0, .int .u32 0, .slice none 0 0] 39)] w xs r7 (v9.setCell ⟨hb, 5, none⟩ (.slice A9 N9 c9)) from
    ⟨by
      obtain ⟨A0, m0, c0, k1, k2, k3⟩ := GD.out.isR.ex
      exact ⟨⟨A0, m0, c0, hst.blk k1 (fun e => by have := HBG.out; omega), k2.outS' hst (fun hne k hk e => by
        have h1 := k3 hne k hk
        have h2 := HBG.out
        have h3 : k = hb := e
        omega), k3⟩, GD.out.isR.len, GD.out.isR.at_⟩, fun p hp => by
      rw [List.mem_singleton] at hp
      subst hp
      have := GD.out.kept _ (List.mem_cons_of_mem _ List.mem_cons_self)
      exact ⟨hst.blk this.1 (fun e => HBQ.out e.symm), this.2⟩, Below.out GD.out.up hst (fun k hk => by rw [hk]; exact HBW.out) GD.out.up.size, GD.out.g0⟩)
  have HZ9 := Lib.hid (show OwnI .u8 5 w.heap.size (v9.setCell ⟨hb, 5, none⟩ (.slice A9 N9 c9)) A9 N9 c9 bs from hst.own HO9.out (fun q hq e => (HAB.out q (by rwa [ownBlock_slice] at hq)).1 e))
  clear hh0 HO9
  go_upto_region 9 with (fail)
  clear z5 y5
  generalize (v9.setCell ⟨hb, 5, none⟩ (.slice A9 N9 c9)) = v10 at hh GE HZ9 hst ⊢
  clear hst GD
  have HCH := Lib.hid (toH_t HI.out.byt s1.out s2.out s3.out s4.out s5.out s6.out s7.out hB9.out)
  obtain ⟨cb, hcb⟩ : ∃ cb : Bool, cb = decide (r7.e = 0 ∧ r7.at_ = xs.length) := ⟨_, rfl⟩
  go_wp2_with fail
  refine (rwhole v10 GE.out.isR).mono ?_
  rintro e x1 ⟨b, rfl, hb1, hu1⟩
  have GX := Lib.hid (GE.out.next hu1.out)
  have HX := Lib.hid ((hu1.out.block _ (lt_of_blk hh)).trans hh)
  clear hcb cb
  cases b
  · have hq := Lib.hid (show x1.heap[w.heap.size + 1]? = some (.cells #[.int .u32 0, .int .u32 0, .int .u16 0, .int .u16 0, .int .u32 0, .slice none 0 0] 39 (0, 0)) from (GX.out.kept _ List.mem_cons_self).1)
    clear  hh
    have e0 := cell_of hq.out (j := 0) rfl
    have f0 := frozen_at (j := 0) hq.out
    have e1 := cell_of hq.out (j := 1) rfl
    have f1 := frozen_at (j := 1) hq.out
    have e2 := cell_of hq.out (j := 2) rfl
    have f2 := frozen_at (j := 2) hq.out
    have e3 := cell_of hq.out (j := 3) rfl
    have f3 := frozen_at (j := 3) hq.out
    have e4 := cell_of hq.out (j := 4) rfl
    have f4 := frozen_at (j := 4) hq.out
    have e5 := cell_of hq.out (j := 5) rfl
    have f5 := frozen_at (j := 5) hq.out
    go_wp2_with fail
    have hs := set6 (a := .int .u32 0) (b := .int .u32 0) (c := .int .u16 0) (d := .int .u16 0) (e := .int .u32 0) (f := .slice none 0 0) hq.out rfl
    refine bodyPost_ret (results_row_tmp (fn := Try.f20) (p := 2) (u := 3) (ty := 39) rfl _ _ (w.heap.size + 1) 39 _ (0, 0) _ rfl hs.1 Try.underlying39 rfl rfl) rfl (HNo.post ⟨rfl, Lib.hid (Below.out GX.out.up hs.2 (fun k hk => by rw [hk]; omega) GX.out.up.size)⟩ (fun h' ack' ho => ?_))
    have h9 := HCH.out.2 h' ack' ho
    have := hb1.out.2 ⟨h9.1, h9.2.1⟩
    cases this
  · have hw := Lib.hid (hb1.out.1 rfl)
    clear hb1 hh
    have m0 := cell_of HX.out (j := 0) rfl
    have m1 := cell_of HX.out (j := 1) rfl
    have m2 := cell_of HX.out (j := 2) rfl
    have m3 := cell_of HX.out (j := 3) rfl
    have m4 := cell_of HX.out (j := 4) rfl
    have m5 := cell_of HX.out (j := 5) rfl
    go_wp2_with fail
    refine (chkH_any ⟨t1, t2, t3, t4, t5, bs⟩ A9 N9 c9 true x1 hN9.out).mono ?_
    rintro e x2 ⟨rfl, hu2⟩
    have GY := Lib.hid (GX.out.next hu2.out)
    have HY := Lib.hid ((hu2.out.block _ (lt_of_blk HX.out)).trans HX.out)
    have hq := Lib.hid (show x2.heap[w.heap.size + 1]? = some (.cells #[.int .u32 0, .int .u32 0, .int .u16 0, .int .u16 0, .int .u32 0, .slice none 0 0] 39 (0, 0)) from (GY.out.kept _ List.mem_cons_self).1)
    clear m0 m1 m2 m3 m4 m5
    have e0 := cell_of hq.out (j := 0) rfl
    have f0 := frozen_at (j := 0) hq.out
    have e1 := cell_of hq.out (j := 1) rfl
    have f1 := frozen_at (j := 1) hq.out
    have e2 := cell_of hq.out (j := 2) rfl
    have f2 := frozen_at (j := 2) hq.out
    have e3 := cell_of hq.out (j := 3) rfl
    have f3 := frozen_at (j := 3) hq.out
    have e4 := cell_of hq.out (j := 4) rfl
    have f4 := frozen_at (j := 4) hq.out
    have e5 := cell_of hq.out (j := 5) rfl
    have f5 := frozen_at (j := 5) hq.out
    by_cases hk : Ck.chkH ⟨t1, t2, t3, t4, t5, bs⟩ true = 0
    · have HK := Lib.hid hk
      rw [hk]
      clear hk
      have m0 := cell_of HY.out (j := 0) rfl
      have m1 := cell_of HY.out (j := 1) rfl
      have m2 := cell_of HY.out (j := 2) rfl
      have m3 := cell_of HY.out (j := 3) rfl
      have m4 := cell_of HY.out (j := 4) rfl
      have m5 := cell_of HY.out (j := 5) rfl
      go_wp2_with fail
      have hs := set6 (a := .int .u32 t1) (b := .int .u32 t2) (c := .int .u16 t3) (d := .int .u16 t4) (e := .int .u32 t5) (f := (.slice A9 N9 c9)) hq.out rfl
      refine bodyPost_ret (results_row_tmp (fn := Try.f20) (p := 2) (u := 3) (ty := 39) rfl _ _ (w.heap.size + 1) 39 _ (0, 0) _ rfl hs.1 Try.underlying39 rfl rfl) rfl ⟨⟨t1, t2, t3, t4, t5, bs⟩, 0, _, _, _, rfl, Lib.hid (.inl ⟨rfl, true, HCH.out.1 hw.out.1 hw.out.2 HK.out⟩), hN9, Lib.hid ?_, Lib.hid hB9.out, Lib.hid (toH_ok5 s1.out s2.out s3.out s4.out s5.out), Lib.hid (Below.out GY.out.up hs.2 (fun k hk => by rw [hk]; omega) GY.out.up.size)⟩
      exact hs.2.own (own_up HZ9.out (hu1.out.trans hu2.out)) (fun q hq9 e => (HAB.out q (by rwa [ownBlock_slice] at hq9)).2.2 e)
    · have HK := Lib.hid hk
      have hkb : (Ck.chkH ⟨t1, t2, t3, t4, t5, bs⟩ true == 0) = false := by rw [beq_eq_false_iff_ne]; exact hk
      clear hk
      generalize Ck.chkH ⟨t1, t2, t3, t4, t5, bs⟩ true = kk at hkb HK HCH ⊢
      go_wp2_with fail
      have hs := set6 (a := .int .u32 0) (b := .int .u32 0) (c := .int .u16 0) (d := .int .u16 0) (e := .int .u32 0) (f := .slice none 0 0) hq.out rfl
      refine bodyPost_ret (results_row_tmp (fn := Try.f20) (p := 2) (u := 3) (ty := 39) rfl _ _ (w.heap.size + 1) 39 _ (0, 0) _ rfl hs.1 Try.underlying39 rfl rfl) rfl (HNo.post ⟨rfl, Lib.hid (Below.out GY.out.up hs.2 (fun k hk => by rw [hk]; omega) GY.out.up.size)⟩ (fun h' ack' ho => HK.out (HCH.out.2 h' ack' ho).2.2))
set_option maxRecDepth 100000 in
set_option maxHeartbeats 2000000 in
theorem toH_read1 (A : Option Addr) (m c : Nat) (xs : List Int) (w : World) (hin : InB w A m c xs) (hm : m ≤ 140737488351232) : Calls Try.prog 20 #[chV 1 0 (.slice A m c)] w (ToHPost 1 0 xs w) := by
  obtain ⟨W, hW⟩ : ∃ W, W = (w.alloc (.cells #[.int .u8 1, .int .u8 0, .slice A m c] 41)).alloc (.cells #[.int .u32 0, .int .u32 0, .int .u16 0, .int .u16 0, .int .u32 0, .slice none 0 0] 39) := ⟨_, rfl⟩
  have u1 := up_alloc w (.cells #[.int .u8 1, .int .u8 0, .slice A m c] 41)
  have a1 := new_at w (.cells #[.int .u8 1, .int .u8 0, .slice A m c] 41)
  have u2 := up_alloc (w.alloc (.cells #[.int .u8 1, .int .u8 0, .slice A m c] 41)) (.cells #[.int .u32 0, .int .u32 0, .int .u16 0, .int .u16 0, .int .u32 0, .slice none 0 0] 39)
  have a2 := new_at (w.alloc (.cells #[.int .u8 1, .int .u8 0, .slice A m c] 41)) (.cells #[.int .u32 0, .int .u32 0, .int .u16 0, .int .u16 0, .int .u32 0, .slice none 0 0] 39)
  have b1 := (u2.block _ (lt_of_blk a1)).trans a1
  have s1 : (w.alloc (.cells #[.int .u8 1, .int .u8 0, .slice A m c] 41)).heap.size = w.heap.size + 1 := by simp
  rw [s1] at a2
  have HS := Lib.hid (show ((w.alloc (.cells #[.int .u8 1, .int .u8 0, .slice A m c] 41)).alloc (.cells #[.int .u32 0, .int .u32 0, .int .u16 0, .int .u16 0, .int .u32 0, .slice none 0 0] 39)).heap.size = w.heap.size + 1 + 1 by simp)
  have HU := Lib.hid (u1.trans u2)
  rw [← hW] at a2 b1 HU HS
  have HW := Lib.hid hW
  have HQ := Lib.hid a2
  have HB := Lib.hid b1
  have c0 := cell_of b1 (j := 0) rfl
  have c1 := cell_of b1 (j := 1) rfl
  have c2 := cell_of b1 (j := 2) rfl
  clear u1 a1 u2 a2 b1 s1 hW
  have HI := Lib.hid hin
  have HM := Lib.hid hm
  have HL := Lib.hid (show (.cells #[.int .u32 0, .int .u32 0, .int .u16 0, .int .u16 0, .int .u32 0, .slice none 0 0] 39 : Obj) = .cells #[.int .u32 0, .int .u32 0, .int .u16 0, .int .u16 0, .int .u32 0, .slice none 0 0] 39 from rfl)
  have G0 := Lib.hid (RH.start (L := [(w.heap.size + 1, .cells #[.int .u32 0, .int .u32 0, .int .u16 0, .int .u16 0, .int .u32 0, .slice none 0 0] 39)]) hin hm HU.out (by intro p hp; rw [List.mem_singleton] at hp; subst hp; exact HQ.out))
  clear hin hm HL
  unfold chV
  go_enter Try.func20, Try.ntmps20
  go_upto_region 5 with (fail)
  rw [← HW.out]
  generalize (W.alloc (.cells #[.slice A m c, .int .i64 0, .int .i64 0] 77)) = w1 at G0 ⊢
  rw [HS.out] at G0
  generalize w.heap.size + 1 + 1 = g at G0 ⊢
  clear c0 c1 c2
  go_wp2_with fail
  refine (rfour w1 G0.out.isR).mono ?_
  rintro e v1 ⟨t1, r1, rfl, s1, b1, i1, o1⟩
  have G1 := Lib.hid (G0.out.step i1 o1)
  clear i1 o1 G0
  go_wp2_with fail
  refine (rfour v1 G1.out.isR).mono ?_
  rintro e v2 ⟨t2, r2, rfl, s2, b2, i1, o1⟩
  have G2 := Lib.hid (G1.out.step i1 o1)
  clear i1 o1 G1
  go_wp2_with fail
  refine (rtwo v2 G2.out.isR).mono ?_
  rintro e v3 ⟨t3, r3, rfl, s3, b3, i1, o1⟩
  have G3 := Lib.hid (G2.out.step i1 o1)
  clear i1 o1 G2
  go_wp2_with fail
  refine (rtwo v3 G3.out.isR).mono ?_
  rintro e v4 ⟨t4, r4, rfl, s4, b4, i1, o1⟩
  have G4 := Lib.hid (G3.out.step i1 o1)
  clear i1 o1 G3
  go_wp2_with fail
  refine (rfour v4 G4.out.isR).mono ?_
  rintro e v5 ⟨t5, r5, rfl, s5, b5, i1, o1⟩
  have G5 := Lib.hid (G4.out.step i1 o1)
  clear i1 o1 G4
  go_upto_region 6 with (fail)
  have GA := Lib.hid (G5.out.add (.cells #[.int .u32 t1, .int .u32 t2, .int .u16 t3, .int .u16 t4, .int .u32 t5, .slice none 0 0] 39))
  have HBQ := Lib.hid (show v5.heap.size ≠ w.heap.size + 1 from fun e => by have := lt_of_blk (G5.out.kept _ List.mem_cons_self).1; simp only at this; omega)
  have HBG := Lib.hid (show g < v5.heap.size from G5.out.isR.lt)
  have HBW := Lib.hid (show w.heap.size ≤ v5.heap.size from G5.out.up.size)
  generalize (v5.alloc (.cells #[.int .u32 t1, .int .u32 t2, .int .u16 t3, .int .u16 t4, .int .u32 t5, .slice none 0 0] 39)) = v6 at GA ⊢
  generalize v5.heap.size = hb at GA HBQ HBG HBW ⊢
  clear G5
  have hh := (GA.out.kept _ List.mem_cons_self).1
  simp only at hh
  have GE := Lib.hid (show RH g [(w.heap.size + 1, .cells #[.int .u32 0, .int .u32 0, .int .u16 0, .int .u16 0, .int .u32 0, .slice none 0 0] 39)] w xs r5 v6 from ⟨GA.out.isR, fun p hp => GA.out.kept p (List.mem_cons_of_mem _ hp), GA.out.up, GA.out.g0⟩)
  have HCH := Lib.hid (toH_f HI.out.byt s1.out s2.out s3.out s4.out s5.out)
  obtain ⟨cb, hcb⟩ : ∃ cb : Bool, cb = decide (r5.e = 0 ∧ r5.at_ = xs.length) := ⟨_, rfl⟩
  go_wp2_with fail
  refine (rwhole v6 GE.out.isR).mono ?_
  rintro e x1 ⟨b, rfl, hb1, hu1⟩
  have GX := Lib.hid (GE.out.next hu1.out)
  have HX := Lib.hid ((hu1.out.block _ (lt_of_blk hh)).trans hh)
  clear hcb cb
  cases b
  · have hq := Lib.hid (show x1.heap[w.heap.size + 1]? = some (.cells #[.int .u32 0, .int .u32 0, .int .u16 0, .int .u16 0, .int .u32 0, .slice none 0 0] 39 (0, 0)) from (GX.out.kept _ List.mem_cons_self).1)
    clear  hh
    have e0 := cell_of hq.out (j := 0) rfl
    have f0 := frozen_at (j := 0) hq.out
    have e1 := cell_of hq.out (j := 1) rfl
    have f1 := frozen_at (j := 1) hq.out
    have e2 := cell_of hq.out (j := 2) rfl
    have f2 := frozen_at (j := 2) hq.out
    have e3 := cell_of hq.out (j := 3) rfl
    have f3 := frozen_at (j := 3) hq.out
    have e4 := cell_of hq.out (j := 4) rfl
    have f4 := frozen_at (j := 4) hq.out
    have e5 := cell_of hq.out (j := 5) rfl
    have f5 := frozen_at (j := 5) hq.out
    go_wp2_with fail
    have hs := set6 (a := .int .u32 0) (b := .int .u32 0) (c := .int .u16 0) (d := .int .u16 0) (e := .int .u32 0) (f := .slice none 0 0) hq.out rfl
    refine bodyPost_ret (results_row_tmp (fn := Try.f20) (p := 2) (u := 3) (ty := 39) rfl _ _ (w.heap.size + 1) 39 _ (0, 0) _ rfl hs.1 Try.underlying39 rfl rfl) rfl (HNo.post ⟨rfl, Lib.hid (Below.out GX.out.up hs.2 (fun k hk => by rw [hk]; omega) GX.out.up.size)⟩ (fun h' ack' ho => ?_))
    have h9 := HCH.out.2 h' ack' ho
    have := hb1.out.2 ⟨h9.1, h9.2.1⟩
    cases this
  · have hw := Lib.hid (hb1.out.1 rfl)
    clear hb1 hh
    have m0 := cell_of HX.out (j := 0) rfl
    have m1 := cell_of HX.out (j := 1) rfl
    have m2 := cell_of HX.out (j := 2) rfl
    have m3 := cell_of HX.out (j := 3) rfl
    have m4 := cell_of HX.out (j := 4) rfl
    have m5 := cell_of HX.out (j := 5) rfl
    go_wp2_with fail
    refine (chkH_any ⟨t1, t2, t3, t4, t5, []⟩ none 0 0 false x1 rfl).mono ?_
    rintro e x2 ⟨rfl, hu2⟩
    have GY := Lib.hid (GX.out.next hu2.out)
    have HY := Lib.hid ((hu2.out.block _ (lt_of_blk HX.out)).trans HX.out)
    have hq := Lib.hid (show x2.heap[w.heap.size + 1]? = some (.cells #[.int .u32 0, .int .u32 0, .int .u16 0, .int .u16 0, .int .u32 0, .slice none 0 0] 39 (0, 0)) from (GY.out.kept _ List.mem_cons_self).1)
    clear m0 m1 m2 m3 m4 m5
    have e0 := cell_of hq.out (j := 0) rfl
    have f0 := frozen_at (j := 0) hq.out
    have e1 := cell_of hq.out (j := 1) rfl
    have f1 := frozen_at (j := 1) hq.out
    have e2 := cell_of hq.out (j := 2) rfl
    have f2 := frozen_at (j := 2) hq.out
    have e3 := cell_of hq.out (j := 3) rfl
    have f3 := frozen_at (j := 3) hq.out
    have e4 := cell_of hq.out (j := 4) rfl
    have f4 := frozen_at (j := 4) hq.out
    have e5 := cell_of hq.out (j := 5) rfl
    have f5 := frozen_at (j := 5) hq.out
    by_cases hk : Ck.chkH ⟨t1, t2, t3, t4, t5, []⟩ false = 0
    · have HK := Lib.hid hk
      rw [hk]
      clear hk
      have m0 := cell_of HY.out (j := 0) rfl
      have m1 := cell_of HY.out (j := 1) rfl
      have m2 := cell_of HY.out (j := 2) rfl
      have m3 := cell_of HY.out (j := 3) rfl
      have m4 := cell_of HY.out (j := 4) rfl
      have m5 := cell_of HY.out (j := 5) rfl
      go_wp2_with fail
      have hs := set6 (a := .int .u32 t1) (b := .int .u32 t2) (c := .int .u16 t3) (d := .int .u16 t4) (e := .int .u32 t5) (f := (.slice none 0 0)) hq.out rfl
      refine bodyPost_ret (results_row_tmp (fn := Try.f20) (p := 2) (u := 3) (ty := 39) rfl _ _ (w.heap.size + 1) 39 _ (0, 0) _ rfl hs.1 Try.underlying39 rfl rfl) rfl ⟨⟨t1, t2, t3, t4, t5, []⟩, 0, _, _, _, rfl, Lib.hid (.inl ⟨rfl, false, HCH.out.1 hw.out.1 hw.out.2 HK.out⟩), Lib.hid rfl, Lib.hid ?_, Lib.hid byt_nil, Lib.hid (toH_ok5 s1.out s2.out s3.out s4.out s5.out), Lib.hid (Below.out GY.out.up hs.2 (fun k hk => by rw [hk]; omega) GY.out.up.size)⟩
      exact ownI_nil _ _ _ _
    · have HK := Lib.hid hk
      have hkb : (Ck.chkH ⟨t1, t2, t3, t4, t5, []⟩ false == 0) = false := by rw [beq_eq_false_iff_ne]; exact hk
      clear hk
      generalize Ck.chkH ⟨t1, t2, t3, t4, t5, []⟩ false = kk at hkb HK HCH ⊢
      go_wp2_with fail
      have hs := set6 (a := .int .u32 0) (b := .int .u32 0) (c := .int .u16 0) (d := .int .u16 0) (e := .int .u32 0) (f := .slice none 0 0) hq.out rfl
      refine bodyPost_ret (results_row_tmp (fn := Try.f20) (p := 2) (u := 3) (ty := 39) rfl _ _ (w.heap.size + 1) 39 _ (0, 0) _ rfl hs.1 Try.underlying39 rfl rfl) rfl (HNo.post ⟨rfl, Lib.hid (Below.out GY.out.up hs.2 (fun k hk => by rw [hk]; omega) GY.out.up.size)⟩ (fun h' ack' ho => HK.out (HCH.out.2 h' ack' ho).2.2))
theorem toH_any (A : Option Addr) (m c : Nat) (ty fl : Int) (xs : List Int) (w : World) (hin : InB w A m c xs) (hm : m ≤ 140737488351232) : Calls Try.prog 20 #[chV ty fl (.slice A m c)] w (ToHPost ty fl xs w) := by
  by_cases h2 : ty = 2
  · subst h2
    by_cases h0 : fl = 0
    · subst h0; exact toH_read2 A m c xs w hin hm
    · exact (toH_e1 A m c fl w (by simpa using h0)).mono fun e w' h => h.post fun h' ack' ho => h0 ho.2.1
  by_cases h1 : ty = 1
  · subst h1
    by_cases h0 : fl = 0
    · subst h0; exact toH_read1 A m c xs w hin hm
    · exact (toH_e2 A m c fl w (by simpa using h0)).mono fun e w' h => h.post fun h' ack' ho => h0 ho.2.1
  exact (toH_e3 A m c ty fl w (by simpa using h2) (by simpa using h1)).mono fun e w' h => h.post fun h' ack' ho => by
    have := ho.1
    cases ack' <;> simp at this <;> contradiction
end Go.Proofs.Ytgikgcepeniekaa
namespace Go.Proofs.Ytgikgcepeniekaa
open Go Go.RowKit
set_option linter.unusedVariables false
set_option linter.unusedSimpArgs false
/-! The reference's FromHello. -/
theorem rput' (A : Option Addr) (m c : Nat) (s : Nat) (xs : List Int) (n : Int) (w : World) (h : InB w A m c xs) (hk : m ≤ 100000) (hs1 : 1 ≤ s) (hs8 : s ≤ 8) :
    Calls Try.prog 37 #[.slice A m c, .int .u64 n, .int .i64 (s : Int)] w fun e w' => ∃ A' N c', e = .returned (.slice A' N c') ∧ Hid (N = m + s) ∧ Hid (OwnI .u8 5 w.heap.size w' A' N c' (xs ++ be n s)) ∧ Hid (InB w' A' N c' (xs ++ be n s)) ∧ Hid (Up w w') :=
  (rput A m c s xs n w h (by omega) hs1 hs8).mono fun e w' ⟨A', N, c', he, ho, hu⟩ => ⟨A', N, c', he, Lib.hid (by rw [← ho.len, List.length_append, be_length, h.len]), Lib.hid ho, Lib.hid (own_inB ho (h.byt.append (be_byt n s))), Lib.hid hu⟩
set_option maxRecDepth 100000 in
theorem rfromH_a (h : Ck.Hel) (A : Option Addr) (m c : Nat) (ack : Bool) (w : World) (h1 : (h.tag == 0) = true) : Calls Try.prog 18 #[helV h (.slice A m c), .bool ack] w (ChErr 2 w) := by
  obtain ⟨W, hW⟩ : ∃ W, W = (w.alloc (.cells #[.int .u32 h.tag, .int .u32 h.win, .int .u16 h.out, .int .u16 h.inn, .int .u32 h.tsn, .slice A m c] 39)).alloc (.cells #[.int .u8 0, .int .u8 0, .slice none 0 0] 41) := ⟨_, rfl⟩
  have u1 := up_alloc w (.cells #[.int .u32 h.tag, .int .u32 h.win, .int .u16 h.out, .int .u16 h.inn, .int .u32 h.tsn, .slice A m c] 39)
  have a1 := new_at w (.cells #[.int .u32 h.tag, .int .u32 h.win, .int .u16 h.out, .int .u16 h.inn, .int .u32 h.tsn, .slice A m c] 39)
  have u2 := up_alloc (w.alloc (.cells #[.int .u32 h.tag, .int .u32 h.win, .int .u16 h.out, .int .u16 h.inn, .int .u32 h.tsn, .slice A m c] 39)) (.cells #[.int .u8 0, .int .u8 0, .slice none 0 0] 41)
  have a2 := new_at (w.alloc (.cells #[.int .u32 h.tag, .int .u32 h.win, .int .u16 h.out, .int .u16 h.inn, .int .u32 h.tsn, .slice A m c] 39)) (.cells #[.int .u8 0, .int .u8 0, .slice none 0 0] 41)
  have b1 := (u2.block _ (lt_of_blk a1)).trans a1
  have s1 : (w.alloc (.cells #[.int .u32 h.tag, .int .u32 h.win, .int .u16 h.out, .int .u16 h.inn, .int .u32 h.tsn, .slice A m c] 39)).heap.size = w.heap.size + 1 := by simp
  rw [s1] at a2
  have HS := Lib.hid (show ((w.alloc (.cells #[.int .u32 h.tag, .int .u32 h.win, .int .u16 h.out, .int .u16 h.inn, .int .u32 h.tsn, .slice A m c] 39)).alloc (.cells #[.int .u8 0, .int .u8 0, .slice none 0 0] 41)).heap.size = w.heap.size + 1 + 1 by simp)
  have HU := Lib.hid (u1.trans u2)
  rw [← hW] at a2 b1 HU HS
  have HW := Lib.hid hW
  have HQ := Lib.hid a2
  have HB := Lib.hid b1
  have c0 := cell_of b1 (j := 0) rfl
  have c1 := cell_of b1 (j := 1) rfl
  have c2 := cell_of b1 (j := 2) rfl
  have c3 := cell_of b1 (j := 3) rfl
  have c4 := cell_of b1 (j := 4) rfl
  have c5 := cell_of b1 (j := 5) rfl
  clear u1 a1 u2 a2 b1 s1 hW
  unfold helV
  go_enter Try.func18, Try.ntmps18
  go_upto_region 1 with (fail)
  rw [← HW.out]
  have e0 := cell_of HQ.out (j := 0) rfl
  have f0 := frozen_at (j := 0) HQ.out
  have e1 := cell_of HQ.out (j := 1) rfl
  have f1 := frozen_at (j := 1) HQ.out
  have e2 := cell_of HQ.out (j := 2) rfl
  have f2 := frozen_at (j := 2) HQ.out
  go_wp2_with fail
  have hs := set3 (a := .int .u8 0) (b := .int .u8 0) (c := .slice none 0 0) HQ.out rfl
  exact bodyPost_ret (results_row_tmp (fn := Try.f18) (p := 4) (u := 5) (ty := 41) rfl _ _ (w.heap.size + 1) 41 _ (0, 0) _ rfl hs.1 Try.underlying41 rfl rfl) rfl ⟨rfl, Lib.hid (Below.out HU.out hs.2 (fun k hk => by rw [hk]; omega) HU.out.size)⟩
set_option maxRecDepth 100000 in
theorem rfromH_b (h : Ck.Hel) (A : Option Addr) (m c : Nat) (ack : Bool) (w : World) (h1 : (h.tag == 0) = false) (h2 : (h.out == 0) = true) : Calls Try.prog 18 #[helV h (.slice A m c), .bool ack] w (ChErr 2 w) := by
  obtain ⟨W, hW⟩ : ∃ W, W = (w.alloc (.cells #[.int .u32 h.tag, .int .u32 h.win, .int .u16 h.out, .int .u16 h.inn, .int .u32 h.tsn, .slice A m c] 39)).alloc (.cells #[.int .u8 0, .int .u8 0, .slice none 0 0] 41) := ⟨_, rfl⟩
  have u1 := up_alloc w (.cells #[.int .u32 h.tag, .int .u32 h.win, .int .u16 h.out, .int .u16 h.inn, .int .u32 h.tsn, .slice A m c] 39)
  have a1 := new_at w (.cells #[.int .u32 h.tag, .int .u32 h.win, .int .u16 h.out, .int .u16 h.inn, .int .u32 h.tsn, .slice A m c] 39)
  have u2 := up_alloc (w.alloc (.cells #[.int .u32 h.tag, .int .u32 h.win, .int .u16 h.out, .int .u16 h.inn, .int .u32 h.tsn, .slice A m c] 39)) (.cells #[.int .u8 0, .int .u8 0, .slice none 0 0] 41)
  have a2 := new_at (w.alloc (.cells #[.int .u32 h.tag, .int .u32 h.win, .int .u16 h.out, .int .u16 h.inn, .int .u32 h.tsn, .slice A m c] 39)) (.cells #[.int .u8 0, .int .u8 0, .slice none 0 0] 41)
  have b1 := (u2.block _ (lt_of_blk a1)).trans a1
  have s1 : (w.alloc (.cells #[.int .u32 h.tag, .int .u32 h.win, .int .u16 h.out, .int .u16 h.inn, .int .u32 h.tsn, .slice A m c] 39)).heap.size = w.heap.size + 1 := by simp
  rw [s1] at a2
  have HS := Lib.hid (show ((w.alloc (.cells #[.int .u32 h.tag, .int .u32 h.win, .int .u16 h.out, .int .u16 h.inn, .int .u32 h.tsn, .slice A m c] 39)).alloc (.cells #[.int .u8 0, .int .u8 0, .slice none 0 0] 41)).heap.size = w.heap.size + 1 + 1 by simp)
  have HU := Lib.hid (u1.trans u2)
  rw [← hW] at a2 b1 HU HS
  have HW := Lib.hid hW
  have HQ := Lib.hid a2
  have HB := Lib.hid b1
  have c0 := cell_of b1 (j := 0) rfl
  have c1 := cell_of b1 (j := 1) rfl
  have c2 := cell_of b1 (j := 2) rfl
  have c3 := cell_of b1 (j := 3) rfl
  have c4 := cell_of b1 (j := 4) rfl
  have c5 := cell_of b1 (j := 5) rfl
  clear u1 a1 u2 a2 b1 s1 hW
  unfold helV
  go_enter Try.func18, Try.ntmps18
  go_upto_region 1 with (fail)
  rw [← HW.out]
  have e0 := cell_of HQ.out (j := 0) rfl
  have f0 := frozen_at (j := 0) HQ.out
  have e1 := cell_of HQ.out (j := 1) rfl
  have f1 := frozen_at (j := 1) HQ.out
  have e2 := cell_of HQ.out (j := 2) rfl
  have f2 := frozen_at (j := 2) HQ.out
  go_wp2_with fail
  have hs := set3 (a := .int .u8 0) (b := .int .u8 0) (c := .slice none 0 0) HQ.out rfl
  exact bodyPost_ret (results_row_tmp (fn := Try.f18) (p := 4) (u := 5) (ty := 41) rfl _ _ (w.heap.size + 1) 41 _ (0, 0) _ rfl hs.1 Try.underlying41 rfl rfl) rfl ⟨rfl, Lib.hid (Below.out HU.out hs.2 (fun k hk => by rw [hk]; omega) HU.out.size)⟩
set_option maxRecDepth 100000 in
theorem rfromH_c (h : Ck.Hel) (A : Option Addr) (m c : Nat) (ack : Bool) (w : World) (h1 : (h.tag == 0) = false) (h2 : (h.out == 0) = false) (h3 : (h.inn == 0) = true) : Calls Try.prog 18 #[helV h (.slice A m c), .bool ack] w (ChErr 2 w) := by
  obtain ⟨W, hW⟩ : ∃ W, W = (w.alloc (.cells #[.int .u32 h.tag, .int .u32 h.win, .int .u16 h.out, .int .u16 h.inn, .int .u32 h.tsn, .slice A m c] 39)).alloc (.cells #[.int .u8 0, .int .u8 0, .slice none 0 0] 41) := ⟨_, rfl⟩
  have u1 := up_alloc w (.cells #[.int .u32 h.tag, .int .u32 h.win, .int .u16 h.out, .int .u16 h.inn, .int .u32 h.tsn, .slice A m c] 39)
  have a1 := new_at w (.cells #[.int .u32 h.tag, .int .u32 h.win, .int .u16 h.out, .int .u16 h.inn, .int .u32 h.tsn, .slice A m c] 39)
  have u2 := up_alloc (w.alloc (.cells #[.int .u32 h.tag, .int .u32 h.win, .int .u16 h.out, .int .u16 h.inn, .int .u32 h.tsn, .slice A m c] 39)) (.cells #[.int .u8 0, .int .u8 0, .slice none 0 0] 41)
  have a2 := new_at (w.alloc (.cells #[.int .u32 h.tag, .int .u32 h.win, .int .u16 h.out, .int .u16 h.inn, .int .u32 h.tsn, .slice A m c] 39)) (.cells #[.int .u8 0, .int .u8 0, .slice none 0 0] 41)
  have b1 := (u2.block _ (lt_of_blk a1)).trans a1
  have s1 : (w.alloc (.cells #[.int .u32 h.tag, .int .u32 h.win, .int .u16 h.out, .int .u16 h.inn, .int .u32 h.tsn, .slice A m c] 39)).heap.size = w.heap.size + 1 := by simp
  rw [s1] at a2
  have HS := Lib.hid (show ((w.alloc (.cells #[.int .u32 h.tag, .int .u32 h.win, .int .u16 h.out, .int .u16 h.inn, .int .u32 h.tsn, .slice A m c] 39)).alloc (.cells #[.int .u8 0, .int .u8 0, .slice none 0 0] 41)).heap.size = w.heap.size + 1 + 1 by simp)
  have HU := Lib.hid (u1.trans u2)
  rw [← hW] at a2 b1 HU HS
  have HW := Lib.hid hW
  have HQ := Lib.hid a2
  have HB := Lib.hid b1
  have c0 := cell_of b1 (j := 0) rfl
  have c1 := cell_of b1 (j := 1) rfl
  have c2 := cell_of b1 (j := 2) rfl
  have c3 := cell_of b1 (j := 3) rfl
  have c4 := cell_of b1 (j := 4) rfl
  have c5 := cell_of b1 (j := 5) rfl
  clear u1 a1 u2 a2 b1 s1 hW
  unfold helV
  go_enter Try.func18, Try.ntmps18
  go_upto_region 1 with (fail)
  rw [← HW.out]
  have e0 := cell_of HQ.out (j := 0) rfl
  have f0 := frozen_at (j := 0) HQ.out
  have e1 := cell_of HQ.out (j := 1) rfl
  have f1 := frozen_at (j := 1) HQ.out
  have e2 := cell_of HQ.out (j := 2) rfl
  have f2 := frozen_at (j := 2) HQ.out
  go_wp2_with fail
  have hs := set3 (a := .int .u8 0) (b := .int .u8 0) (c := .slice none 0 0) HQ.out rfl
  exact bodyPost_ret (results_row_tmp (fn := Try.f18) (p := 4) (u := 5) (ty := 41) rfl _ _ (w.heap.size + 1) 41 _ (0, 0) _ rfl hs.1 Try.underlying41 rfl rfl) rfl ⟨rfl, Lib.hid (Below.out HU.out hs.2 (fun k hk => by rw [hk]; omega) HU.out.size)⟩
set_option maxRecDepth 100000 in
theorem rfromH_d (h : Ck.Hel) (A : Option Addr) (m c : Nat) (ack : Bool) (w : World) (h1 : (h.tag == 0) = false) (h2 : (h.out == 0) = false) (h3 : (h.inn == 0) = false) (h4 : 0 < m) : Calls Try.prog 18 #[helV h (.slice A m c), .bool false] w (ChErr 2 w) := by
  obtain ⟨W, hW⟩ : ∃ W, W = (w.alloc (.cells #[.int .u32 h.tag, .int .u32 h.win, .int .u16 h.out, .int .u16 h.inn, .int .u32 h.tsn, .slice A m c] 39)).alloc (.cells #[.int .u8 0, .int .u8 0, .slice none 0 0] 41) := ⟨_, rfl⟩
  have u1 := up_alloc w (.cells #[.int .u32 h.tag, .int .u32 h.win, .int .u16 h.out, .int .u16 h.inn, .int .u32 h.tsn, .slice A m c] 39)
  have a1 := new_at w (.cells #[.int .u32 h.tag, .int .u32 h.win, .int .u16 h.out, .int .u16 h.inn, .int .u32 h.tsn, .slice A m c] 39)
  have u2 := up_alloc (w.alloc (.cells #[.int .u32 h.tag, .int .u32 h.win, .int .u16 h.out, .int .u16 h.inn, .int .u32 h.tsn, .slice A m c] 39)) (.cells #[.int .u8 0, .int .u8 0, .slice none 0 0] 41)
  have a2 := new_at (w.alloc (.cells #[.int .u32 h.tag, .int .u32 h.win, .int .u16 h.out, .int .u16 h.inn, .int .u32 h.tsn, .slice A m c] 39)) (.cells #[.int .u8 0, .int .u8 0, .slice none 0 0] 41)
  have b1 := (u2.block _ (lt_of_blk a1)).trans a1
  have s1 : (w.alloc (.cells #[.int .u32 h.tag, .int .u32 h.win, .int .u16 h.out, .int .u16 h.inn, .int .u32 h.tsn, .slice A m c] 39)).heap.size = w.heap.size + 1 := by simp
  rw [s1] at a2
  have HS := Lib.hid (show ((w.alloc (.cells #[.int .u32 h.tag, .int .u32 h.win, .int .u16 h.out, .int .u16 h.inn, .int .u32 h.tsn, .slice A m c] 39)).alloc (.cells #[.int .u8 0, .int .u8 0, .slice none 0 0] 41)).heap.size = w.heap.size + 1 + 1 by simp)
  have HU := Lib.hid (u1.trans u2)
  rw [← hW] at a2 b1 HU HS
  have HW := Lib.hid hW
  have HQ := Lib.hid a2
  have HB := Lib.hid b1
  have c0 := cell_of b1 (j := 0) rfl
  have c1 := cell_of b1 (j := 1) rfl
  have c2 := cell_of b1 (j := 2) rfl
  have c3 := cell_of b1 (j := 3) rfl
  have c4 := cell_of b1 (j := 4) rfl
  have c5 := cell_of b1 (j := 5) rfl
  clear u1 a1 u2 a2 b1 s1 hW
  unfold helV
  go_enter Try.func18, Try.ntmps18
  go_upto_region 1 with (fail)
  rw [← HW.out]
  have e0 := cell_of HQ.out (j := 0) rfl
  have f0 := frozen_at (j := 0) HQ.out
  have e1 := cell_of HQ.out (j := 1) rfl
  have f1 := frozen_at (j := 1) HQ.out
  have e2 := cell_of HQ.out (j := 2) rfl
  have f2 := frozen_at (j := 2) HQ.out
  go_wp2_with fail
  have hs := set3 (a := .int .u8 0) (b := .int .u8 0) (c := .slice none 0 0) HQ.out rfl
  exact bodyPost_ret (results_row_tmp (fn := Try.f18) (p := 4) (u := 5) (ty := 41) rfl _ _ (w.heap.size + 1) 41 _ (0, 0) _ rfl hs.1 Try.underlying41 rfl rfl) rfl ⟨rfl, Lib.hid (Below.out HU.out hs.2 (fun k hk => by rw [hk]; omega) HU.out.size)⟩
set_option maxRecDepth 100000 in
theorem rfromH_f (h : Ck.Hel) (A : Option Addr) (m c : Nat) (ack : Bool) (w : World) (h1 : (h.tag == 0) = false) (h2 : (h.out == 0) = false) (h3 : (h.inn == 0) = false) (h4 : 256 < m) : Calls Try.prog 18 #[helV h (.slice A m c), .bool true] w (ChErr 4 w) := by
  obtain ⟨W, hW⟩ : ∃ W, W = (w.alloc (.cells #[.int .u32 h.tag, .int .u32 h.win, .int .u16 h.out, .int .u16 h.inn, .int .u32 h.tsn, .slice A m c] 39)).alloc (.cells #[.int .u8 0, .int .u8 0, .slice none 0 0] 41) := ⟨_, rfl⟩
  have u1 := up_alloc w (.cells #[.int .u32 h.tag, .int .u32 h.win, .int .u16 h.out, .int .u16 h.inn, .int .u32 h.tsn, .slice A m c] 39)
  have a1 := new_at w (.cells #[.int .u32 h.tag, .int .u32 h.win, .int .u16 h.out, .int .u16 h.inn, .int .u32 h.tsn, .slice A m c] 39)
  have u2 := up_alloc (w.alloc (.cells #[.int .u32 h.tag, .int .u32 h.win, .int .u16 h.out, .int .u16 h.inn, .int .u32 h.tsn, .slice A m c] 39)) (.cells #[.int .u8 0, .int .u8 0, .slice none 0 0] 41)
  have a2 := new_at (w.alloc (.cells #[.int .u32 h.tag, .int .u32 h.win, .int .u16 h.out, .int .u16 h.inn, .int .u32 h.tsn, .slice A m c] 39)) (.cells #[.int .u8 0, .int .u8 0, .slice none 0 0] 41)
  have b1 := (u2.block _ (lt_of_blk a1)).trans a1
  have s1 : (w.alloc (.cells #[.int .u32 h.tag, .int .u32 h.win, .int .u16 h.out, .int .u16 h.inn, .int .u32 h.tsn, .slice A m c] 39)).heap.size = w.heap.size + 1 := by simp
  rw [s1] at a2
  have HS := Lib.hid (show ((w.alloc (.cells #[.int .u32 h.tag, .int .u32 h.win, .int .u16 h.out, .int .u16 h.inn, .int .u32 h.tsn, .slice A m c] 39)).alloc (.cells #[.int .u8 0, .int .u8 0, .slice none 0 0] 41)).heap.size = w.heap.size + 1 + 1 by simp)
  have HU := Lib.hid (u1.trans u2)
  rw [← hW] at a2 b1 HU HS
  have HW := Lib.hid hW
  have HQ := Lib.hid a2
  have HB := Lib.hid b1
  have c0 := cell_of b1 (j := 0) rfl
  have c1 := cell_of b1 (j := 1) rfl
  have c2 := cell_of b1 (j := 2) rfl
  have c3 := cell_of b1 (j := 3) rfl
  have c4 := cell_of b1 (j := 4) rfl
  have c5 := cell_of b1 (j := 5) rfl
  clear u1 a1 u2 a2 b1 s1 hW
  unfold helV
  go_enter Try.func18, Try.ntmps18
  go_upto_region 1 with (fail)
  rw [← HW.out]
  have e0 := cell_of HQ.out (j := 0) rfl
  have f0 := frozen_at (j := 0) HQ.out
  have e1 := cell_of HQ.out (j := 1) rfl
  have f1 := frozen_at (j := 1) HQ.out
  have e2 := cell_of HQ.out (j := 2) rfl
  have f2 := frozen_at (j := 2) HQ.out
  go_wp2_with fail
  have hs := set3 (a := .int .u8 0) (b := .int .u8 0) (c := .slice none 0 0) HQ.out rfl
  exact bodyPost_ret (results_row_tmp (fn := Try.f18) (p := 4) (u := 5) (ty := 41) rfl _ _ (w.heap.size + 1) 41 _ (0, 0) _ rfl hs.1 Try.underlying41 rfl rfl) rfl ⟨rfl, Lib.hid (Below.out HU.out hs.2 (fun k hk => by rw [hk]; omega) HU.out.size)⟩
theorem rfromH_err (h : Ck.Hel) (A : Option Addr) (m c : Nat) (ack : Bool) (k : Int) (w : World) (hm : m = h.ck.length) (hk : Ck.chkH h ack = k) (hk2 : k = 2 ∨ k = 4) : Calls Try.prog 18 #[helV h (.slice A m c), .bool ack] w (ChErr k w) := by
  unfold Ck.chkH at hk
  by_cases h1 : h.tag = 0
  · rw [if_pos (.inl h1)] at hk; subst hk; exact rfromH_a h A m c ack w (by simpa using h1)
  by_cases h2 : h.out = 0
  · rw [if_pos (.inr (.inl h2))] at hk; subst hk; exact rfromH_b h A m c ack w (by simpa using h1) (by simpa using h2)
  by_cases h3 : h.inn = 0
  · rw [if_pos (.inr (.inr (.inl h3)))] at hk; subst hk; exact rfromH_c h A m c ack w (by simpa using h1) (by simpa using h2) (by simpa using h3)
  cases ack
  · by_cases h4 : 0 < h.ck.length
    · rw [if_pos (.inr (.inr (.inr ⟨rfl, h4⟩)))] at hk; subst hk; exact rfromH_d h A m c false w (by simpa using h1) (by simpa using h2) (by simpa using h3) (by omega)
    · rw [if_neg (fun hc => hc.elim h1 fun hc => hc.elim h2 fun hc => hc.elim h3 fun hc => h4 hc.2), if_neg (by omega)] at hk; omega
  · by_cases h4 : 256 < h.ck.length
    · rw [if_neg (by simp [h1, h2, h3]), if_pos h4] at hk; subst hk; exact rfromH_f h A m c true w (by simpa using h1) (by simpa using h2) (by simpa using h3) (by omega)
    · rw [if_neg (by simp [h1, h2, h3]), if_neg h4] at hk; omega
set_option maxRecDepth 100000 in
set_option maxHeartbeats 2000000 in
theorem rfromH_ok_f (h : Ck.Hel) (A : Option Addr) (m c : Nat) (w : World) (hin : InB w A m c h.ck) (ho : Ck.HelOk h) (hm : m = 0) (h1 : (h.tag == 0) = false) (h2 : (h.out == 0) = false) (h3 : (h.inn == 0) = false) : Calls Try.prog 18 #[helV h (.slice A m c), .bool false] w (ChPost 1 0 (encH h false) w) := by
  obtain ⟨W, hW⟩ : ∃ W, W = (w.alloc (.cells #[.int .u32 h.tag, .int .u32 h.win, .int .u16 h.out, .int .u16 h.inn, .int .u32 h.tsn, .slice A m c] 39)).alloc (.cells #[.int .u8 0, .int .u8 0, .slice none 0 0] 41) := ⟨_, rfl⟩
  have u1 := up_alloc w (.cells #[.int .u32 h.tag, .int .u32 h.win, .int .u16 h.out, .int .u16 h.inn, .int .u32 h.tsn, .slice A m c] 39)
  have a1 := new_at w (.cells #[.int .u32 h.tag, .int .u32 h.win, .int .u16 h.out, .int .u16 h.inn, .int .u32 h.tsn, .slice A m c] 39)
  have u2 := up_alloc (w.alloc (.cells #[.int .u32 h.tag, .int .u32 h.win, .int .u16 h.out, .int .u16 h.inn, .int .u32 h.tsn, .slice A m c] 39)) (.cells #[.int .u8 0, .int .u8 0, .slice none 0 0] 41)
  have a2 := new_at (w.alloc (.cells #[.int .u32 h.tag, .int .u32 h.win, .int .u16 h.out, .int .u16 h.inn, .int .u32 h.tsn, .slice A m c] 39)) (.cells #[.int .u8 0, .int .u8 0, .slice none 0 0] 41)
  have b1 := (u2.block _ (lt_of_blk a1)).trans a1
  have s1 : (w.alloc (.cells #[.int .u32 h.tag, .int .u32 h.win, .int .u16 h.out, .int .u16 h.inn, .int .u32 h.tsn, .slice A m c] 39)).heap.size = w.heap.size + 1 := by simp
  rw [s1] at a2
  have HS := Lib.hid (show ((w.alloc (.cells #[.int .u32 h.tag, .int .u32 h.win, .int .u16 h.out, .int .u16 h.inn, .int .u32 h.tsn, .slice A m c] 39)).alloc (.cells #[.int .u8 0, .int .u8 0, .slice none 0 0] 41)).heap.size = w.heap.size + 1 + 1 by simp)
  have HU := Lib.hid (u1.trans u2)
  rw [← hW] at a2 b1 HU HS
  have HW := Lib.hid hW
  have HQ := Lib.hid a2
  have HB := Lib.hid b1
  have c0 := cell_of b1 (j := 0) rfl
  have c1 := cell_of b1 (j := 1) rfl
  have c2 := cell_of b1 (j := 2) rfl
  have c3 := cell_of b1 (j := 3) rfl
  have c4 := cell_of b1 (j := 4) rfl
  have c5 := cell_of b1 (j := 5) rfl
  clear u1 a1 u2 a2 b1 s1 hW
  have HI := Lib.hid hin
  have HO := Lib.hid ho
  have q0 := ho.tag.1
  have q1 := ho.tag.2
  have q2 := ho.win.1
  have q3 := ho.win.2
  have q4 := ho.out.1
  have q5 := ho.out.2
  have q6 := ho.inn.1
  have q7 := ho.inn.2
  have q8 := ho.tsn.1
  have q9 := ho.tsn.2
  clear hin ho
  subst hm
  unfold helV
  go_enter Try.func18, Try.ntmps18
  go_upto_region 5 with (fail)
  rw [← HW.out]
  clear c1 c2 c3 c4 c5
  have V0 := Lib.hid (show Up W W from Up.refl W)
  go_wp2_with fail
  refine (rput' none 0 0 4 [] h.tag W (inB_nil W) (by omega) (by omega) (by omega)).mono ?_
  rintro e v1 ⟨A1, N1, e1, rfl, hN1, hO1, hI1, hu1⟩
  have V1 := Lib.hid (V0.out.trans hu1.out)
  have k1 := cell_up (cell_of HB.out (j := 1) rfl) V1.out
  clear c0 V0
  have n1 : N1 ≤ 4 := by have := hN1.out; omega
  go_wp2_with fail
  refine (rput' A1 N1 e1 4 _ h.win v1 hI1.out (by omega) (by omega) (by omega)).mono ?_
  rintro e v2 ⟨A2, N2, e2, rfl, hN2, hO2, hI2, hu2⟩
  have V2 := Lib.hid (V1.out.trans hu2.out)
  have k2 := cell_up (cell_of HB.out (j := 2) rfl) V2.out
  clear k1 V1 hO1 hI1 hu1
  have n2 : N2 ≤ 8 := by have := hN2.out; omega
  go_wp2_with fail
  refine (rput' A2 N2 e2 2 _ h.out v2 hI2.out (by omega) (by omega) (by omega)).mono ?_
  rintro e v3 ⟨A3, N3, e3, rfl, hN3, hO3, hI3, hu3⟩
  have V3 := Lib.hid (V2.out.trans hu3.out)
  have k3 := cell_up (cell_of HB.out (j := 3) rfl) V3.out
  clear k2 V2 hO2 hI2 hu2
  have n3 : N3 ≤ 10 := by have := hN3.out; omega
  go_wp2_with fail
  refine (rput' A3 N3 e3 2 _ h.inn v3 hI3.out (by omega) (by omega) (by omega)).mono ?_
  rintro e v4 ⟨A4, N4, e4, rfl, hN4, hO4, hI4, hu4⟩
  have V4 := Lib.hid (V3.out.trans hu4.out)
  have k4 := cell_up (cell_of HB.out (j := 4) rfl) V4.out
  clear k3 V3 hO3 hI3 hu3
  have n4 : N4 ≤ 12 := by have := hN4.out; omega
  go_wp2_with fail
  refine (rput' A4 N4 e4 4 _ h.tsn v4 hI4.out (by omega) (by omega) (by omega)).mono ?_
  rintro e v5 ⟨A5, N5, e5, rfl, hN5, hO5, hI5, hu5⟩
  have V5 := Lib.hid (V4.out.trans hu5.out)
  have HV4 := Lib.hid (show W.heap.size ≤ v4.heap.size from V4.out.size)
  clear k4 V4 hO4 hI4 hu4
  have hq9 := (V5.out.block _ (lt_of_blk HQ.out)).trans HQ.out
  have e0 := cell_of hq9 (j := 0) rfl
  have f0 := frozen_at (j := 0) hq9
  have e1 := cell_of hq9 (j := 1) rfl
  have f1 := frozen_at (j := 1) hq9
  have e2 := cell_of hq9 (j := 2) rfl
  have f2 := frozen_at (j := 2) hq9
  go_wp2_with fail
  have hs := set3 (a := .int .u8 1) (b := .int .u8 0) (c := .slice A5 N5 e5) hq9 rfl
  have hb9 : ∀ k, blk? A5 = some k → w.heap.size + 1 < k := fun k hk => by
    have h1 := (row_lt hO5.out hk).1
    have h2 := HV4.out
    have h3 := HS.out
    omega
  refine bodyPost_ret (results_row_tmp (fn := Try.f18) (p := 4) (u := 5) (ty := 41) rfl _ _ (w.heap.size + 1) 41 _ (0, 0) _ rfl hs.1 Try.underlying41 rfl rfl) rfl ⟨A5, N5, e5, rfl, Lib.hid ?_, Lib.hid ?_, Lib.hid (Below.out (HU.out.trans V5.out) hs.2 (fun k hk => by rw [hk]; omega) (by have := (HU.out.trans V5.out).size; omega))⟩
  · have a1 := hN1.out
    have a2 := hN2.out
    have a3 := hN3.out
    have a4 := hN4.out
    have a5 := hN5.out
    simp [encH, encH0, be_length]
    omega
  · have h8 : OwnI .u8 5 0 v5 A5 N5 e5 (encH h false) := by
      have e1 : encH h false = [] ++ be h.tag 4 ++ be h.win 4 ++ be h.out 2 ++ be h.inn 2 ++ be h.tsn 4 := by simp [encH, encH0]
      rw [e1]; exact OwnI.base hO5.out (Nat.zero_le _)
    exact OwnI.rebase (show OwnI .u8 5 0 _ A5 N5 e5 _ from hs.2.own h8 (fun q hq e => by have := hb9 q (by rwa [ownBlock_slice] at hq); have e1 : q = w.heap.size + 1 := e; omega)) (fun q hq => by have := hb9 q hq; omega)
set_option maxRecDepth 100000 in
set_option maxHeartbeats 2000000 in
theorem rfromH_ok_t (h : Ck.Hel) (A : Option Addr) (m c : Nat) (w : World) (hin : InB w A m c h.ck) (ho : Ck.HelOk h) (hm : m ≤ 256) (h1 : (h.tag == 0) = false) (h2 : (h.out == 0) = false) (h3 : (h.inn == 0) = false) : Calls Try.prog 18 #[helV h (.slice A m c), .bool true] w (ChPost 2 0 (encH h true) w) := by
  obtain ⟨W, hW⟩ : ∃ W, W = (w.alloc (.cells #[.int .u32 h.tag, .int .u32 h.win, .int .u16 h.out, .int .u16 h.inn, .int .u32 h.tsn, .slice A m c] 39)).alloc (.cells #[.int .u8 0, .int .u8 0, .slice none 0 0] 41) := ⟨_, rfl⟩
  have u1 := up_alloc w (.cells #[.int .u32 h.tag, .int .u32 h.win, .int .u16 h.out, .int .u16 h.inn, .int .u32 h.tsn, .slice A m c] 39)
  have a1 := new_at w (.cells #[.int .u32 h.tag, .int .u32 h.win, .int .u16 h.out, .int .u16 h.inn, .int .u32 h.tsn, .slice A m c] 39)
  have u2 := up_alloc (w.alloc (.cells #[.int .u32 h.tag, .int .u32 h.win, .int .u16 h.out, .int .u16 h.inn, .int .u32 h.tsn, .slice A m c] 39)) (.cells #[.int .u8 0, .int .u8 0, .slice none 0 0] 41)
  have a2 := new_at (w.alloc (.cells #[.int .u32 h.tag, .int .u32 h.win, .int .u16 h.out, .int .u16 h.inn, .int .u32 h.tsn, .slice A m c] 39)) (.cells #[.int .u8 0, .int .u8 0, .slice none 0 0] 41)
  have b1 := (u2.block _ (lt_of_blk a1)).trans a1
  have s1 : (w.alloc (.cells #[.int .u32 h.tag, .int .u32 h.win, .int .u16 h.out, .int .u16 h.inn, .int .u32 h.tsn, .slice A m c] 39)).heap.size = w.heap.size + 1 := by simp
  rw [s1] at a2
  have HS := Lib.hid (show ((w.alloc (.cells #[.int .u32 h.tag, .int .u32 h.win, .int .u16 h.out, .int .u16 h.inn, .int .u32 h.tsn, .slice A m c] 39)).alloc (.cells #[.int .u8 0, .int .u8 0, .slice none 0 0] 41)).heap.size = w.heap.size + 1 + 1 by simp)
  have HU := Lib.hid (u1.trans u2)
  rw [← hW] at a2 b1 HU HS
  have HW := Lib.hid hW
  have HQ := Lib.hid a2
  have HB := Lib.hid b1
  have c0 := cell_of b1 (j := 0) rfl
  have c1 := cell_of b1 (j := 1) rfl
  have c2 := cell_of b1 (j := 2) rfl
  have c3 := cell_of b1 (j := 3) rfl
  have c4 := cell_of b1 (j := 4) rfl
  have c5 := cell_of b1 (j := 5) rfl
  clear u1 a1 u2 a2 b1 s1 hW
  have HI := Lib.hid hin
  have HO := Lib.hid ho
  have q0 := ho.tag.1
  have q1 := ho.tag.2
  have q2 := ho.win.1
  have q3 := ho.win.2
  have q4 := ho.out.1
  have q5 := ho.out.2
  have q6 := ho.inn.1
  have q7 := ho.inn.2
  have q8 := ho.tsn.1
  have q9 := ho.tsn.2
  clear hin ho

  unfold helV
  go_enter Try.func18, Try.ntmps18
  go_upto_region 5 with (fail)
  rw [← HW.out]
  clear c1 c2 c3 c4 c5
  have V0 := Lib.hid (show Up W W from Up.refl W)
  go_wp2_with fail
  refine (rput' none 0 0 4 [] h.tag W (inB_nil W) (by omega) (by omega) (by omega)).mono ?_
  rintro e v1 ⟨A1, N1, e1, rfl, hN1, hO1, hI1, hu1⟩
  have V1 := Lib.hid (V0.out.trans hu1.out)
  have k1 := cell_up (cell_of HB.out (j := 1) rfl) V1.out
  clear c0 V0
  have n1 : N1 ≤ 4 := by have := hN1.out; omega
  go_wp2_with fail
  refine (rput' A1 N1 e1 4 _ h.win v1 hI1.out (by omega) (by omega) (by omega)).mono ?_
  rintro e v2 ⟨A2, N2, e2, rfl, hN2, hO2, hI2, hu2⟩
  have V2 := Lib.hid (V1.out.trans hu2.out)
  have k2 := cell_up (cell_of HB.out (j := 2) rfl) V2.out
  clear k1 V1 hO1 hI1 hu1
  have n2 : N2 ≤ 8 := by have := hN2.out; omega
  go_wp2_with fail
  refine (rput' A2 N2 e2 2 _ h.out v2 hI2.out (by omega) (by omega) (by omega)).mono ?_
  rintro e v3 ⟨A3, N3, e3, rfl, hN3, hO3, hI3, hu3⟩
  have V3 := Lib.hid (V2.out.trans hu3.out)
  have k3 := cell_up (cell_of HB.out (j := 3) rfl) V3.out
  clear k2 V2 hO2 hI2 hu2
  have n3 : N3 ≤ 10 := by have := hN3.out; omega
  go_wp2_with fail
  refine (rput' A3 N3 e3 2 _ h.inn v3 hI3.out (by omega) (by omega) (by omega)).mono ?_
  rintro e v4 ⟨A4, N4, e4, rfl, hN4, hO4, hI4, hu4⟩
  have V4 := Lib.hid (V3.out.trans hu4.out)
  have k4 := cell_up (cell_of HB.out (j := 4) rfl) V4.out
  clear k3 V3 hO3 hI3 hu3
  have n4 : N4 ≤ 12 := by have := hN4.out; omega
  go_wp2_with fail
  refine (rput' A4 N4 e4 4 _ h.tsn v4 hI4.out (by omega) (by omega) (by omega)).mono ?_
  rintro e v5 ⟨A5, N5, e5, rfl, hN5, hO5, hI5, hu5⟩
  have V5 := Lib.hid (V4.out.trans hu5.out)
  have HV4 := Lib.hid (show W.heap.size ≤ v4.heap.size from V4.out.size)
  clear k4 V4 hO4 hI4 hu4
  have n5 : N5 ≤ 16 := by have := hN5.out; omega
  go_wp2_with fail
  refine (rput' A5 N5 e5 2 _ 7 v5 hI5.out (by omega) (by omega) (by omega)).mono ?_
  rintro e v6 ⟨A6, N6, e6, rfl, hN6, hO6, hI6, hu6⟩
  have V6 := Lib.hid (V5.out.trans hu6.out)
  have k6 := cell_up (cell_of HB.out (j := 5) rfl) V6.out
  have n6 : N6 ≤ 18 := by have := hN6.out; omega
  clear V5 hO5 hI5 hu5
  go_wp2_with fail
  refine (rput' A6 N6 e6 2 _ (4 + (m : Int)) v6 hI6.out (by omega) (by omega) (by omega)).mono ?_
  rintro e v7 ⟨A7, N7, e7, rfl, hN7, hO7, hI7, hu7⟩
  have V7 := Lib.hid (V6.out.trans hu7.out)
  have k7 := cell_up (cell_of HB.out (j := 5) rfl) V7.out
  have n7 : N7 ≤ 20 := by have := hN7.out; omega
  have HV6 := Lib.hid (show W.heap.size ≤ v6.heap.size from V6.out.size)
  clear k6 V6 hO6 hI6 hu6
  go_wp2_with fail
  refine (refpadded_any A m c h.ck v7 (HI.out.up (HU.out.trans V7.out)) (by omega)).mono ?_
  rintro e v8 ⟨A8, N8, e8, rfl, hN8, hO8, hu8⟩
  have V8 := Lib.hid (V7.out.trans hu8.out)
  have HO7 := Lib.hid (own_up hO7.out hu8.out)
  have n8 : N8 ≤ 1000 := by have := hN8.out; rw [padL_length, HI.out.len] at this; have := padN_lt m; omega
  clear k7
  go_wp2_with (at_builtin; refine wpList_appendG rfl (.tmp 73) (.tmp 76) 23 rfl 0 5 (.int .u8 0) 1 1 Try.underlying23 info5 rfl (by decide) A7 N7 e7 _ rfl (show OwnI .u8 5 0 _ _ _ _ _ from OwnI.base HO7.out (Nat.zero_le _)) A8 N8 e8 (ints .u8 (padL h.ck)) rfl (by rw [ints_length, ← hN8.out, Nat.mul_one]) hO8.out.cells (ints_one .u8 _) (by omega) (by omega) (Nat.zero_le _) ?_; intro A9 N9 e9 v9 HN HR HX HBk; have hq9 := HX.out.blk ((V8.out.block _ (lt_of_blk HQ.out)).trans HQ.out) (fun e => by have h1 := (row_lt HO7.out e).1; have h2 := HV6.out; have h3 := HS.out; omega); have E0 := cell_of hq9 (j := 0) rfl; have E1 := cell_of hq9 (j := 1) rfl; have E2 := cell_of hq9 (j := 2) rfl; have F0 := frozen_at (j := 0) hq9; have F1 := frozen_at (j := 1) hq9; have F2 := frozen_at (j := 2) hq9)
  have V9 := Lib.hid (Below.out (HU.out.trans V8.out) HX.out (fun k hk => by have h1 := (row_lt HO7.out hk).1; have h2 := HV6.out; have h3 := HS.out; omega) (by have h3 := HS.out; have := V8.out.size; omega))
  have hs := set3 (a := .int .u8 2) (b := .int .u8 0) (c := .slice A9 N9 e9) hq9 rfl
  have hb9 : ∀ k, blk? A9 = some k → w.heap.size + 1 < k := fun k hk => by
    have h2 := HV6.out
    have h3 := HS.out
    rcases HBk.out with hb | hb
    · have h1 := (row_lt HO7.out (show blk? A7 = some k by rw [← hb]; exact hk)).1; omega
    · rw [hb] at hk; injection hk with hk; have := V8.out.size; omega
  refine bodyPost_ret (results_row_tmp (fn := Try.f18) (p := 4) (u := 5) (ty := 41) rfl _ _ (w.heap.size + 1) 41 _ (0, 0) _ rfl hs.1 Try.underlying41 rfl rfl) rfl ⟨A9, N9, e9, rfl, Lib.hid ?_, Lib.hid ?_, Lib.hid (Below.out V9.out hs.2 (fun k hk => by rw [hk]; omega) V9.out.size)⟩
  · have := HN.out
    have a1 := hN1.out
    have a2 := hN2.out
    have a3 := hN3.out
    have a4 := hN4.out
    have a5 := hN5.out
    have a6 := hN6.out
    have a7 := hN7.out
    have a8 := hN8.out
    simp [encH, encH0, be_length]
    omega
  · have h8 : OwnI .u8 5 0 v9 A9 N9 e9 (encH h true) := by
      unfold OwnI
      have e1 : ints .u8 (encH h true) = ints .u8 ([] ++ be h.tag 4 ++ be h.win 4 ++ be h.out 2 ++ be h.inn 2 ++ be h.tsn 4 ++ be 7 2 ++ be (4 + (m : Int)) 2) ++ ints .u8 (padL h.ck) := by
        rw [← ints_append]; simp [encH, encH0, HI.out.len]
      rw [e1]; exact HR.out
    exact OwnI.rebase (show OwnI .u8 5 0 _ A9 N9 e9 _ from hs.2.own h8 (fun q hq e => by have := hb9 q (by rwa [ownBlock_slice] at hq); have e1 : q = w.heap.size + 1 := e; omega)) (fun q hq => by have := hb9 q hq; omega)
theorem rfromH_ok (h : Ck.Hel) (A : Option Addr) (m c : Nat) (ack : Bool) (w : World) (hin : InB w A m c h.ck) (hk : Ck.chkH h ack = 0) (ho : Ck.HelOk h) :
    Calls Try.prog 18 #[helV h (.slice A m c), .bool ack] w (ChPost (if ack then 2 else 1) 0 (encH h ack) w) := by
  have hl := chkH_len hk
  have hne : ¬ h.tag = 0 ∧ ¬ h.out = 0 ∧ ¬ h.inn = 0 := by
    unfold Ck.chkH at hk
    refine ⟨fun e => ?_, fun e => ?_, fun e => ?_⟩
    · rw [if_pos (.inl e)] at hk; omega
    · rw [if_pos (.inr (.inl e))] at hk; omega
    · rw [if_pos (.inr (.inr (.inl e)))] at hk; omega
  obtain ⟨h1, h2, h3⟩ := hne
  cases ack
  · exact rfromH_ok_f h A m c w hin ho (by rw [← hin.len, hl.2 rfl]; rfl) (by simpa using h1) (by simpa using h2) (by simpa using h3)
  · exact rfromH_ok_t h A m c w hin ho (by rw [← hin.len]; exact hl.1) (by simpa using h1) (by simpa using h2) (by simpa using h3)
end Go.Proofs.Ytgikgcepeniekaa
