import Derived.Test.YtccilbgbjikmpaaCk0
import Derived.Test.YtccilbgbjikmpaaCk17
import Derived.Test.YtccilbgbjikmpaaCk21
namespace Go.Proofs.Ytccilbgbjikmpaa
open Go Go.RowKit
set_option linter.unusedVariables false
set_option linter.unusedSimpArgs false
/-! The reference's Apart and FromHeard. -/
set_option maxRecDepth 100000 in
set_option maxHeartbeats 2000000 in
theorem apart_any (gs : List (Int × Int)) (A : Option Addr) (n c : Nat) (w : World) (hg : InG w A n c gs) (hn : n ≤ 140737488351232) : Calls Try.prog 23 #[.slice A n c] w (RetB (Ck.apB 2 gs) w) := by
  have HG := Lib.hid hg
  have hcap := hg.cap
  clear hg
  go_enter Try.func23, Try.ntmps23
  go_wp2_with fail
  go_loopw [3, 4] (fun v i wr => ∃ (k : Nat) (last : Int), k ≤ n ∧ i = .int .i64 (k : Int) ∧ v = .int .i64 last ∧ 0 ≤ last ∧ last < 65536 ∧ Hid (Ck.apB 2 gs = Ck.apB (last + 2) (gs.drop k)) ∧ Hid (Up w wr)) (fun _ i _ => n - (intOf i).toNat)
  case atStart => exact ⟨0, 0, Nat.zero_le _, rfl, rfl, by omega, by omega, Lib.hid rfl, Lib.hid (Up.refl _)⟩
  case round =>
    obtain ⟨k, last, hk, rfl, rfl, hl0, hl1, hap, hu⟩ := hrel
    by_cases hlt : k < n
    · obtain ⟨x, hx⟩ : ∃ x, gs[k]? = some x := ⟨_, List.getElem?_eq_getElem (by rw [HG.out.len]; exact hlt)⟩
      obtain ⟨f, t⟩ := x
      have hxo := HG.out.ok _ (List.mem_of_getElem? hx)
      obtain ⟨⟨hf0, hf1⟩, ht0, ht1⟩ := hxo
      simp only at hf0 hf1 ht0 ht1
      obtain ⟨ga, o, rfl, gb, hc⟩ := HG.out.cells (by intro e; have := congrArg List.length e; rw [gapc_length, HG.out.len] at this; simp at this; omega)
      have k0 := cell_up (hc (k * 2) _ (gapc_at hx).1) hu.out
      have k1 := cell_up (hc (k * 2 + 1) _ (gapc_at hx).2) hu.out
      rw [← Nat.add_assoc] at k1
      have HAP := Lib.hid (hap.out.trans (apB_step hx))
      have hkn : (k : Int) < (n : Int) := by omega
      clear hx hc hap gb
      by_cases hlf : last + 2 ≤ f
      · have d1 : decide (f < last + 2) = false := by simp; omega
        by_cases hft : f ≤ t
        · have d2 : decide (t < f) = false := by simp; omega
          have HA2 := Lib.hid (show Ck.apB 2 gs = Ck.apB (t + 2) (gs.drop (k + 1)) by rw [HAP.out]; simp [hlf, hft])
          go_upto_region 5 with (fail)
          go_quiet (fail)
          have k1' := cell_up k1 (up_drewN wr nq)
          clear k0 k1
          go_wp2_with fail
          go_roundw
          case rel => exact ⟨k + 1, t, by omega, by go_num, rfl, by omega, by omega, HA2, Lib.hid (hu.out.trans (up_drewN _ _))⟩
          case measure => simp [intOf]; omega
        · have d2 : decide (t < f) = true := by simp; omega
          have HA2 := Lib.hid (show Ck.apB 2 gs = false by rw [HAP.out]; simp [hlf, hft])
          clear hft
          go_upto_region 5 with (fail)
          go_quiet (fail)
          go_wp2_with fail
          go_ret
          exact ⟨by rw [HA2.out]; rfl, Lib.hid (hu.out.trans (up_drewN _ _))⟩
      · have d1 : decide (f < last + 2) = true := by simp; omega
        have HA2 := Lib.hid (show Ck.apB 2 gs = false by rw [HAP.out]; simp [hlf])
        clear hlf
        go_upto_region 5 with (fail)
        go_quiet (fail)
        go_wp2_with fail
        go_ret
        exact ⟨by rw [HA2.out]; rfl, Lib.hid (hu.out.trans (up_drewN _ _))⟩
    · obtain rfl : k = n := by omega
      have HA2 := Lib.hid (show Ck.apB 2 gs = true by rw [hap.out, ← HG.out.len, List.drop_length]; simp [Ck.apB])
      go_wp2_with fail
      go_ret
      exact ⟨by rw [HA2.out]; rfl, hu⟩
end Go.Proofs.Ytccilbgbjikmpaa
namespace Go.Proofs.Ytccilbgbjikmpaa
open Go Go.RowKit
set_option linter.unusedVariables false
set_option linter.unusedSimpArgs false
set_option maxRecDepth 100000 in
theorem rfromD_a (h : Ck.Hrd) (A B : Option Addr) (n c m d : Nat) (w : World) (hg : InG w A n c h.gaps) (hn : n ≤ 140737488351232) (ha : Ck.apB 2 h.gaps = false) : Calls Try.prog 13 #[heV h (.slice A n c) (.slice B m d)] w (ChErr 2 w) := by
  obtain ⟨W, hW⟩ : ∃ W, W = (w.alloc (.cells #[.int .u32 h.cum, .int .u32 h.win, .slice A n c, .slice B m d] 35)).alloc (.cells #[.int .u8 0, .int .u8 0, .slice none 0 0] 38) := ⟨_, rfl⟩
  have u1 := up_alloc w (.cells #[.int .u32 h.cum, .int .u32 h.win, .slice A n c, .slice B m d] 35)
  have a1 := new_at w (.cells #[.int .u32 h.cum, .int .u32 h.win, .slice A n c, .slice B m d] 35)
  have u2 := up_alloc (w.alloc (.cells #[.int .u32 h.cum, .int .u32 h.win, .slice A n c, .slice B m d] 35)) (.cells #[.int .u8 0, .int .u8 0, .slice none 0 0] 38)
  have a2 := new_at (w.alloc (.cells #[.int .u32 h.cum, .int .u32 h.win, .slice A n c, .slice B m d] 35)) (.cells #[.int .u8 0, .int .u8 0, .slice none 0 0] 38)
  have b1 := (u2.block _ (lt_of_blk a1)).trans a1
  have s1 : (w.alloc (.cells #[.int .u32 h.cum, .int .u32 h.win, .slice A n c, .slice B m d] 35)).heap.size = w.heap.size + 1 := by simp
  rw [s1] at a2
  have HS := Lib.hid (show ((w.alloc (.cells #[.int .u32 h.cum, .int .u32 h.win, .slice A n c, .slice B m d] 35)).alloc (.cells #[.int .u8 0, .int .u8 0, .slice none 0 0] 38)).heap.size = w.heap.size + 1 + 1 by simp)
  have HU := Lib.hid (u1.trans u2)
  rw [← hW] at a2 b1 HU HS
  have HW := Lib.hid hW
  have HQ := Lib.hid a2
  have HB := Lib.hid b1
  have c0 := cell_of b1 (j := 0) rfl
  have c1 := cell_of b1 (j := 1) rfl
  have c2 := cell_of b1 (j := 2) rfl
  have c3 := cell_of b1 (j := 3) rfl
  clear u1 a1 u2 a2 b1 s1 hW
  have HG := Lib.hid (hg.up HU.out)
  clear hg
  have HA := Lib.hid ha
  clear ha
  unfold heV
  go_enter Try.func13, Try.ntmps13
  go_upto_region 1 with (fail)
  rw [← HW.out]
  go_wp2_with fail
  refine (apart_any h.gaps A n c W HG.out hn).mono ?_
  rintro e w1 ⟨rfl, hu⟩
  rw [HA.out]
  have HQ1 := Lib.hid ((hu.out.block _ (lt_of_blk HQ.out)).trans HQ.out)
  have HU1 := Lib.hid (HU.out.trans hu.out)
  have m2 := cell_up (cell_of HB.out (j := 2) rfl) hu.out
  have m3 := cell_up (cell_of HB.out (j := 3) rfl) hu.out
  clear c0 c1 c2 c3 hu
  have e0 := cell_of HQ1.out (j := 0) rfl
  have f0 := frozen_at (j := 0) HQ1.out
  have e1 := cell_of HQ1.out (j := 1) rfl
  have f1 := frozen_at (j := 1) HQ1.out
  have e2 := cell_of HQ1.out (j := 2) rfl
  have f2 := frozen_at (j := 2) HQ1.out
  go_wp2_with fail
  have hs := set3 (a := .int .u8 0) (b := .int .u8 0) (c := .slice none 0 0) HQ1.out rfl
  exact bodyPost_ret (results_row_tmp (fn := Try.f13) (p := 2) (u := 3) (ty := 38) rfl _ _ (w.heap.size + 1) 38 _ (0, 0) _ rfl hs.1 Try.underlying38 rfl rfl) rfl ⟨rfl, Lib.hid (Below.out HU1.out hs.2 (fun k hk => by rw [hk]; omega) HU1.out.size)⟩
set_option maxRecDepth 100000 in
theorem rfromD_b (h : Ck.Hrd) (A B : Option Addr) (n c m d : Nat) (w : World) (hg : InG w A n c h.gaps) (hn : n ≤ 140737488351232) (ha : Ck.apB 2 h.gaps = true) (h1 : 64 < n) : Calls Try.prog 13 #[heV h (.slice A n c) (.slice B m d)] w (ChErr 4 w) := by
  obtain ⟨W, hW⟩ : ∃ W, W = (w.alloc (.cells #[.int .u32 h.cum, .int .u32 h.win, .slice A n c, .slice B m d] 35)).alloc (.cells #[.int .u8 0, .int .u8 0, .slice none 0 0] 38) := ⟨_, rfl⟩
  have u1 := up_alloc w (.cells #[.int .u32 h.cum, .int .u32 h.win, .slice A n c, .slice B m d] 35)
  have a1 := new_at w (.cells #[.int .u32 h.cum, .int .u32 h.win, .slice A n c, .slice B m d] 35)
  have u2 := up_alloc (w.alloc (.cells #[.int .u32 h.cum, .int .u32 h.win, .slice A n c, .slice B m d] 35)) (.cells #[.int .u8 0, .int .u8 0, .slice none 0 0] 38)
  have a2 := new_at (w.alloc (.cells #[.int .u32 h.cum, .int .u32 h.win, .slice A n c, .slice B m d] 35)) (.cells #[.int .u8 0, .int .u8 0, .slice none 0 0] 38)
  have b1 := (u2.block _ (lt_of_blk a1)).trans a1
  have s1 : (w.alloc (.cells #[.int .u32 h.cum, .int .u32 h.win, .slice A n c, .slice B m d] 35)).heap.size = w.heap.size + 1 := by simp
  rw [s1] at a2
  have HS := Lib.hid (show ((w.alloc (.cells #[.int .u32 h.cum, .int .u32 h.win, .slice A n c, .slice B m d] 35)).alloc (.cells #[.int .u8 0, .int .u8 0, .slice none 0 0] 38)).heap.size = w.heap.size + 1 + 1 by simp)
  have HU := Lib.hid (u1.trans u2)
  rw [← hW] at a2 b1 HU HS
  have HW := Lib.hid hW
  have HQ := Lib.hid a2
  have HB := Lib.hid b1
  have c0 := cell_of b1 (j := 0) rfl
  have c1 := cell_of b1 (j := 1) rfl
  have c2 := cell_of b1 (j := 2) rfl
  have c3 := cell_of b1 (j := 3) rfl
  clear u1 a1 u2 a2 b1 s1 hW
  have HG := Lib.hid (hg.up HU.out)
  clear hg
  have HA := Lib.hid ha
  clear ha
  have d1 : decide (64 < (n : Int)) = true := by simp; omega
  unfold heV
  go_enter Try.func13, Try.ntmps13
  go_upto_region 1 with (fail)
  rw [← HW.out]
  go_wp2_with fail
  refine (apart_any h.gaps A n c W HG.out hn).mono ?_
  rintro e w1 ⟨rfl, hu⟩
  rw [HA.out]
  have HQ1 := Lib.hid ((hu.out.block _ (lt_of_blk HQ.out)).trans HQ.out)
  have HU1 := Lib.hid (HU.out.trans hu.out)
  have m2 := cell_up (cell_of HB.out (j := 2) rfl) hu.out
  have m3 := cell_up (cell_of HB.out (j := 3) rfl) hu.out
  clear c0 c1 c2 c3 hu
  have e0 := cell_of HQ1.out (j := 0) rfl
  have f0 := frozen_at (j := 0) HQ1.out
  have e1 := cell_of HQ1.out (j := 1) rfl
  have f1 := frozen_at (j := 1) HQ1.out
  have e2 := cell_of HQ1.out (j := 2) rfl
  have f2 := frozen_at (j := 2) HQ1.out
  go_wp2_with fail
  have hs := set3 (a := .int .u8 0) (b := .int .u8 0) (c := .slice none 0 0) HQ1.out rfl
  exact bodyPost_ret (results_row_tmp (fn := Try.f13) (p := 2) (u := 3) (ty := 38) rfl _ _ (w.heap.size + 1) 38 _ (0, 0) _ rfl hs.1 Try.underlying38 rfl rfl) rfl ⟨rfl, Lib.hid (Below.out HU1.out hs.2 (fun k hk => by rw [hk]; omega) HU1.out.size)⟩
set_option maxRecDepth 100000 in
theorem rfromD_c (h : Ck.Hrd) (A B : Option Addr) (n c m d : Nat) (w : World) (hg : InG w A n c h.gaps) (hn : n ≤ 140737488351232) (ha : Ck.apB 2 h.gaps = true) (h1 : n ≤ 64) (h2 : 64 < m) (hm2 : m ≤ 140737488351232) : Calls Try.prog 13 #[heV h (.slice A n c) (.slice B m d)] w (ChErr 4 w) := by
  obtain ⟨W, hW⟩ : ∃ W, W = (w.alloc (.cells #[.int .u32 h.cum, .int .u32 h.win, .slice A n c, .slice B m d] 35)).alloc (.cells #[.int .u8 0, .int .u8 0, .slice none 0 0] 38) := ⟨_, rfl⟩
  have u1 := up_alloc w (.cells #[.int .u32 h.cum, .int .u32 h.win, .slice A n c, .slice B m d] 35)
  have a1 := new_at w (.cells #[.int .u32 h.cum, .int .u32 h.win, .slice A n c, .slice B m d] 35)
  have u2 := up_alloc (w.alloc (.cells #[.int .u32 h.cum, .int .u32 h.win, .slice A n c, .slice B m d] 35)) (.cells #[.int .u8 0, .int .u8 0, .slice none 0 0] 38)
  have a2 := new_at (w.alloc (.cells #[.int .u32 h.cum, .int .u32 h.win, .slice A n c, .slice B m d] 35)) (.cells #[.int .u8 0, .int .u8 0, .slice none 0 0] 38)
  have b1 := (u2.block _ (lt_of_blk a1)).trans a1
  have s1 : (w.alloc (.cells #[.int .u32 h.cum, .int .u32 h.win, .slice A n c, .slice B m d] 35)).heap.size = w.heap.size + 1 := by simp
  rw [s1] at a2
  have HS := Lib.hid (show ((w.alloc (.cells #[.int .u32 h.cum, .int .u32 h.win, .slice A n c, .slice B m d] 35)).alloc (.cells #[.int .u8 0, .int .u8 0, .slice none 0 0] 38)).heap.size = w.heap.size + 1 + 1 by simp)
  have HU := Lib.hid (u1.trans u2)
  rw [← hW] at a2 b1 HU HS
  have HW := Lib.hid hW
  have HQ := Lib.hid a2
  have HB := Lib.hid b1
  have c0 := cell_of b1 (j := 0) rfl
  have c1 := cell_of b1 (j := 1) rfl
  have c2 := cell_of b1 (j := 2) rfl
  have c3 := cell_of b1 (j := 3) rfl
  clear u1 a1 u2 a2 b1 s1 hW
  have HG := Lib.hid (hg.up HU.out)
  clear hg
  have HA := Lib.hid ha
  clear ha
  have d1 : decide (64 < (n : Int)) = false := by simp; omega
  have d2 : decide (64 < (m : Int)) = true := by simp; omega
  unfold heV
  go_enter Try.func13, Try.ntmps13
  go_upto_region 1 with (fail)
  rw [← HW.out]
  go_wp2_with fail
  refine (apart_any h.gaps A n c W HG.out hn).mono ?_
  rintro e w1 ⟨rfl, hu⟩
  rw [HA.out]
  have HQ1 := Lib.hid ((hu.out.block _ (lt_of_blk HQ.out)).trans HQ.out)
  have HU1 := Lib.hid (HU.out.trans hu.out)
  have m2 := cell_up (cell_of HB.out (j := 2) rfl) hu.out
  have m3 := cell_up (cell_of HB.out (j := 3) rfl) hu.out
  clear c0 c1 c2 c3 hu
  have e0 := cell_of HQ1.out (j := 0) rfl
  have f0 := frozen_at (j := 0) HQ1.out
  have e1 := cell_of HQ1.out (j := 1) rfl
  have f1 := frozen_at (j := 1) HQ1.out
  have e2 := cell_of HQ1.out (j := 2) rfl
  have f2 := frozen_at (j := 2) HQ1.out
  go_wp2_with fail
  have hs := set3 (a := .int .u8 0) (b := .int .u8 0) (c := .slice none 0 0) HQ1.out rfl
  exact bodyPost_ret (results_row_tmp (fn := Try.f13) (p := 2) (u := 3) (ty := 38) rfl _ _ (w.heap.size + 1) 38 _ (0, 0) _ rfl hs.1 Try.underlying38 rfl rfl) rfl ⟨rfl, Lib.hid (Below.out HU1.out hs.2 (fun k hk => by rw [hk]; omega) HU1.out.size)⟩
theorem rfromD_err (h : Ck.Hrd) (A B : Option Addr) (n c m d : Nat) (k : Int) (w : World) (hg : InG w A n c h.gaps) (hn : n ≤ 140737488351232) (hm : m = h.dups.length) (hmn : m ≤ 140737488351232) (hk : Ck.chkD h = k) (hk2 : k = 2 ∨ k = 4) : Calls Try.prog 13 #[heV h (.slice A n c) (.slice B m d)] w (ChErr k w) := by
  have hl := hg.len
  unfold Ck.chkD at hk
  by_cases ha : Ck.apB 2 h.gaps = false
  · rw [if_pos ha] at hk; subst hk; exact rfromD_a h A B n c m d w hg hn ha
  rw [if_neg ha] at hk
  have ha2 : Ck.apB 2 h.gaps = true := by simpa using ha
  by_cases h1 : 64 < n
  · rw [if_pos (.inl (by omega))] at hk; subst hk; exact rfromD_b h A B n c m d w hg hn ha2 h1
  by_cases h2 : 64 < m
  · rw [if_pos (.inr (by omega))] at hk; subst hk; exact rfromD_c h A B n c m d w hg hn ha2 (by omega) h2 hmn
  · rw [if_neg (by omega)] at hk; omega
set_option maxRecDepth 100000 in
set_option maxHeartbeats 4000000 in
theorem rfromD_ok (h : Ck.Hrd) (A B : Option Addr) (n c m d : Nat) (w : World) (hg : InG w A n c h.gaps) (hd : InD w B m d h.dups) (hk : Ck.chkD h = 0) (ho : Ck.HrdOk h) : Calls Try.prog 13 #[heV h (.slice A n c) (.slice B m d)] w (ChPost 3 0 (encD h) w) := by
  have hn64 : n ≤ 64 := by have := (chkD_zero hk).2.1; have := hg.len; omega
  have hm64 : m ≤ 64 := by have := (chkD_zero hk).2.2; have := hd.len; omega
  obtain ⟨W, hW⟩ : ∃ W, W = (w.alloc (.cells #[.int .u32 h.cum, .int .u32 h.win, .slice A n c, .slice B m d] 35)).alloc (.cells #[.int .u8 0, .int .u8 0, .slice none 0 0] 38) := ⟨_, rfl⟩
  have u1 := up_alloc w (.cells #[.int .u32 h.cum, .int .u32 h.win, .slice A n c, .slice B m d] 35)
  have a1 := new_at w (.cells #[.int .u32 h.cum, .int .u32 h.win, .slice A n c, .slice B m d] 35)
  have u2 := up_alloc (w.alloc (.cells #[.int .u32 h.cum, .int .u32 h.win, .slice A n c, .slice B m d] 35)) (.cells #[.int .u8 0, .int .u8 0, .slice none 0 0] 38)
  have a2 := new_at (w.alloc (.cells #[.int .u32 h.cum, .int .u32 h.win, .slice A n c, .slice B m d] 35)) (.cells #[.int .u8 0, .int .u8 0, .slice none 0 0] 38)
  have b1 := (u2.block _ (lt_of_blk a1)).trans a1
  have s1 : (w.alloc (.cells #[.int .u32 h.cum, .int .u32 h.win, .slice A n c, .slice B m d] 35)).heap.size = w.heap.size + 1 := by simp
  rw [s1] at a2
  have HS := Lib.hid (show ((w.alloc (.cells #[.int .u32 h.cum, .int .u32 h.win, .slice A n c, .slice B m d] 35)).alloc (.cells #[.int .u8 0, .int .u8 0, .slice none 0 0] 38)).heap.size = w.heap.size + 1 + 1 by simp)
  have HU := Lib.hid (u1.trans u2)
  rw [← hW] at a2 b1 HU HS
  have HW := Lib.hid hW
  have HQ := Lib.hid a2
  have HB := Lib.hid b1
  have c0 := cell_of b1 (j := 0) rfl
  have c1 := cell_of b1 (j := 1) rfl
  have c2 := cell_of b1 (j := 2) rfl
  have c3 := cell_of b1 (j := 3) rfl
  clear u1 a1 u2 a2 b1 s1 hW
  have HG := Lib.hid hg
  have HGW := Lib.hid (hg.up HU.out)
  have HDW := Lib.hid (hd.up HU.out)
  have hcn := hg.cap
  have hcm := hd.cap
  have HAP := Lib.hid (chkD_zero hk).1
  have q0 := ho.cum.1
  have q1 := ho.cum.2
  have q2 := ho.win.1
  have q3 := ho.win.2
  have d1 : decide (64 < (n : Int)) = false := by simp; omega
  have d2 : decide (64 < (m : Int)) = false := by simp; omega
  clear hg hd hk ho
  unfold heV
  go_enter Try.func13, Try.ntmps13
  go_upto_region 1 with (fail)
  rw [← HW.out]
  go_wp2_with fail
  refine (apart_any h.gaps A n c W HGW.out (by omega)).mono ?_
  rintro e w1 ⟨rfl, hu⟩
  rw [HAP.out]
  have V0 := Lib.hid hu.out
  have m0 := cell_up (cell_of HB.out (j := 0) rfl) V0.out
  have m2 := cell_up (cell_of HB.out (j := 2) rfl) V0.out
  have m3 := cell_up (cell_of HB.out (j := 3) rfl) V0.out
  clear c0 c1 c2 c3 hu
  go_wp2_with fail
  refine (rput' none 0 0 4 [] h.cum w1 (inB_nil w1) (by omega) (by omega) (by omega)).mono ?_
  rintro e v1 ⟨A1, N1, e1, rfl, hN1, hO1, hI1, hu1⟩
  have V1 := Lib.hid (V0.out.trans hu1.out)
  have k1 := cell_up (cell_of HB.out (j := 1) rfl) V1.out
  have n1 : N1 ≤ 4 := by have := hN1.out; omega
  clear m0 m2 m3 d1 d2 V0 hO1
  go_wp2_with fail
  refine (rput' A1 N1 e1 4 _ h.win v1 hI1.out (by omega) (by omega) (by omega)).mono ?_
  rintro e v2 ⟨A2, N2, e2, rfl, hN2, hO2, hI2, hu2⟩
  have V2 := Lib.hid (V1.out.trans hu2.out)
  have k2 := cell_up (cell_of HB.out (j := 2) rfl) V2.out
  have n2 : N2 ≤ 8 := by have := hN2.out; omega
  clear k1 V1 hO2 hI1
  go_wp2_with fail
  refine (rput' A2 N2 e2 2 _ (n : Int) v2 hI2.out (by omega) (by omega) (by omega)).mono ?_
  rintro e v3 ⟨A3, N3, e3, rfl, hN3, hO3, hI3, hu3⟩
  have V3 := Lib.hid (V2.out.trans hu3.out)
  have HV3 := Lib.hid V3.out.size
  have k3 := cell_up (cell_of HB.out (j := 3) rfl) V3.out
  have n3 : N3 ≤ 10 := by have := hN3.out; omega
  clear k2 V2 hO3 hI2
  go_wp2_with fail
  refine (rput' A3 N3 e3 2 _ (m : Int) v3 hI3.out (by omega) (by omega) (by omega)).mono ?_
  rintro e v4 ⟨A4, N4, e4, rfl, hN4, hO4, hI4, hu4⟩
  have V4 := Lib.hid (V3.out.trans hu4.out)
  have HN4 := Lib.hid (show N4 = 12 by have := hN4.out; have := hN3.out; have := hN2.out; have := hN1.out; omega)
  obtain ⟨pre, hpre⟩ : ∃ pre, pre = [] ++ be h.cum 4 ++ be h.win 4 ++ be (n : Int) 2 ++ be (m : Int) 2 := ⟨_, rfl⟩
  rw [← hpre] at hI4 hO4
  have HP := Lib.hid hpre
  have HO4 := Lib.hid (show OwnI .u8 5 W.heap.size v4 A4 N4 e4 pre from hO4.out.base HV3.out)
  clear k3 V3 hO4 hI3 hI4 hpre hN1 hN2 hN3 hN4 n1 n2 n3 hu1 hu2 hu3 hu4
  go_wp2_with fail
  go_loopw [4, 5] (fun v i wr => ∃ (k : Nat) (A5 : Option Addr) (N5 e5 : Nat), k ≤ n ∧ i = .int .i64 (k : Int) ∧ v = .slice A5 N5 e5 ∧ Hid (N5 = 12 + 4 * k) ∧ Hid (OwnI .u8 5 W.heap.size wr A5 N5 e5 (pre ++ encG (h.gaps.take k))) ∧ Hid (Byt (pre ++ encG (h.gaps.take k))) ∧ Hid (Up W wr)) (fun _ i _ => n - (intOf i).toNat)
  case atStart => exact ⟨0, A4, N4, e4, Nat.zero_le _, rfl, rfl, Lib.hid (by rw [HN4.out]), Lib.hid (by simpa [encG] using HO4.out), Lib.hid (by rw [HP.out]; simp only [List.take_zero, encG, List.flatMap_nil, List.append_nil, List.nil_append]; exact (((be_byt _ _).append (be_byt _ _)).append (be_byt _ _)).append (be_byt _ _)), V4⟩
  case round =>
    obtain ⟨k, A5, N5, e5, hk, rfl, rfl, hN, hO, hBy, hu⟩ := hrel
    have m2 := cell_up (cell_of HB.out (j := 2) rfl) hu.out
    by_cases hlt : k < n
    · obtain ⟨x, hx⟩ : ∃ x, h.gaps[k]? = some x := ⟨_, List.getElem?_eq_getElem (by rw [HG.out.len]; exact hlt)⟩
      obtain ⟨f, t⟩ := x
      have hxo := HG.out.ok _ (List.mem_of_getElem? hx)
      obtain ⟨⟨hf0, hf1⟩, ht0, ht1⟩ := hxo
      simp only at hf0 hf1 ht0 ht1
      obtain ⟨ga, o, rfl, gb, hc⟩ := HGW.out.cells (by intro e; have := congrArg List.length e; rw [gapc_length, HGW.out.len] at this; simp at this; omega)
      have k0 := cell_up (hc (k * 2) _ (gapc_at hx).1) hu.out
      have hc1 := Lib.hid (hc (k * 2 + 1) _ (gapc_at hx).2)
      have HX := Lib.hid (show h.gaps.take (k + 1) = h.gaps.take k ++ [(f, t)] by
        obtain ⟨hl, he⟩ := List.getElem?_eq_some_iff.1 hx
        rw [List.take_succ_eq_append_getElem hl, he])
      have n5 : N5 ≤ 300 := by have := hN.out; omega
      clear hx hc gb
      go_wp2_with fail
      refine (rput' A5 N5 e5 2 _ f wr (own_inB hO.out hBy.out) (by omega) (by omega) (by omega)).mono ?_
      rintro e v6 ⟨A6, N6, e6, rfl, hN6, hO6, hI6, hu6⟩
      have V6 := Lib.hid (hu.out.trans hu6.out)
      have k2 := cell_up (cell_of HB.out (j := 2) rfl) V6.out
      have k1 := cell_up hc1.out V6.out
      rw [← Nat.add_assoc] at k1
      have n6 : N6 ≤ 302 := by have := hN6.out; omega
      have HV6 := Lib.hid V6.out.size
      clear k0 m2
      go_wp2_with fail
      refine (rput' A6 N6 e6 2 _ t v6 hI6.out (by omega) (by omega) (by omega)).mono ?_
      rintro e v7 ⟨A7, N7, e7, rfl, hN7, hO7, hI7, hu7⟩
      have V7 := Lib.hid (V6.out.trans hu7.out)
      have HO7 := Lib.hid (show OwnI .u8 5 W.heap.size v7 A7 N7 e7 (pre ++ encG (h.gaps.take (k + 1))) by rw [HX.out, encG_snoc]; have := hO7.out.base HV6.out; simpa using this)
      have HB7 := Lib.hid (show Byt (pre ++ encG (h.gaps.take (k + 1))) by rw [HX.out, encG_snoc]; have := hI7.out.byt; simpa using this)
      clear k1 k2 V6 hO6 hI6 hO7 hI7
      go_wp2_with fail
      go_roundw
      case rel => exact ⟨k + 1, A7, N7, e7, by omega, by go_num, rfl, Lib.hid (by have := hN7.out; have := hN6.out; have := hN.out; omega), HO7, HB7, V7⟩
      case measure => simp [intOf]; omega
    · obtain rfl : k = n := by omega
      have hO0 := hO.out
      have hB0 := hBy.out
      rw [List.take_of_length_le (by rw [HG.out.len]; exact Nat.le_refl _)] at hO0 hB0
      have HO0 := Lib.hid hO0
      have HB0 := Lib.hid hB0
      clear hO0 hB0 hO hBy
      go_wp2_with fail
      clear m2
      go_loopw [4, 6] (fun v i wr => ∃ (j : Nat) (A6 : Option Addr) (N6 e6 : Nat), j ≤ m ∧ i = .int .i64 (j : Int) ∧ v = .slice A6 N6 e6 ∧ Hid (N6 = 12 + 4 * k + 4 * j) ∧ Hid (OwnI .u8 5 W.heap.size wr A6 N6 e6 (pre ++ encG h.gaps ++ encDs (h.dups.take j))) ∧ Hid (Byt (pre ++ encG h.gaps ++ encDs (h.dups.take j))) ∧ Hid (Up W wr)) (fun _ i _ => m - (intOf i).toNat)
      case atStart => exact ⟨0, A5, N5, e5, Nat.zero_le _, rfl, rfl, Lib.hid (by have := hN.out; omega), Lib.hid (by simpa [encDs] using HO0.out), Lib.hid (by simpa [encDs] using HB0.out), hu⟩
      case round =>
        clear HO0 HB0 hu hN
        obtain ⟨j, A6, N6, e6, hj, rfl, rfl, hN, hO, hBy, hu⟩ := hrel
        have m3 := cell_up (cell_of HB.out (j := 3) rfl) hu.out
        by_cases hlt2 : j < m
        · obtain ⟨x, hx⟩ : ∃ x, h.dups[j]? = some x := ⟨_, List.getElem?_eq_getElem (by rw [HDW.out.len]; exact hlt2)⟩
          obtain ⟨hx0, hx1⟩ := HDW.out.ok _ (List.mem_of_getElem? hx)
          obtain ⟨ga, o, rfl, gb, hc⟩ := HDW.out.cells (by intro e; have := congrArg List.length e; rw [ints_length, HDW.out.len] at this; simp at this; omega)
          have k0 := cell_up (hc j (.int .u32 x) (by simp [ints, hx])) hu.out
          have HX := Lib.hid (show h.dups.take (j + 1) = h.dups.take j ++ [x] by
            obtain ⟨hl, he⟩ := List.getElem?_eq_some_iff.1 hx
            rw [List.take_succ_eq_append_getElem hl, he])
          have n5 : N6 ≤ 600 := by have := hN.out; omega
          have HV6 := Lib.hid hu.out.size
          clear hx hc gb
          go_wp2_with fail
          refine (rput' A6 N6 e6 4 _ x wr (own_inB hO.out hBy.out) (by omega) (by omega) (by omega)).mono ?_
          rintro e v7 ⟨A7, N7, e7, rfl, hN7, hO7, hI7, hu7⟩
          have V7 := Lib.hid (hu.out.trans hu7.out)
          have HO7 := Lib.hid (show OwnI .u8 5 W.heap.size v7 A7 N7 e7 (pre ++ encG h.gaps ++ encDs (h.dups.take (j + 1))) by rw [HX.out, encDs_snoc]; have := hO7.out.base HV6.out; simpa using this)
          have HB7 := Lib.hid (show Byt (pre ++ encG h.gaps ++ encDs (h.dups.take (j + 1))) by rw [HX.out, encDs_snoc]; have := hI7.out.byt; simpa using this)
          clear k0 m3 hO7 hI7
          go_wp2_with fail
          go_roundw
          case rel => exact ⟨j + 1, A7, N7, e7, by omega, by go_num, rfl, Lib.hid (by have := hN7.out; have := hN.out; omega), HO7, HB7, V7⟩
          case measure => simp [intOf]; omega
        · obtain rfl : j = m := by omega
          have hO0 := hO.out
          rw [List.take_of_length_le (by rw [HDW.out.len]; exact Nat.le_refl _)] at hO0
          have hE := show pre ++ encG h.gaps ++ encDs h.dups = encD h by rw [HP.out]; unfold encD; rw [HGW.out.len, HDW.out.len]; simp
          rw [hE] at hO0
          have HO0 := Lib.hid hO0
          have hq9 := Lib.hid ((hu.out.block _ (lt_of_blk HQ.out)).trans HQ.out)
          clear hO0 hO hBy hE
          have e0 := cell_of hq9.out (j := 0) rfl
          have f0 := frozen_at (j := 0) hq9.out
          have e1 := cell_of hq9.out (j := 1) rfl
          have f1 := frozen_at (j := 1) hq9.out
          have e2 := cell_of hq9.out (j := 2) rfl
          have f2 := frozen_at (j := 2) hq9.out
          go_wp2_with fail
          have hs := set3 (a := .int .u8 3) (b := .int .u8 0) (c := .slice A6 N6 e6) hq9.out rfl
          have HU9 := HU.out.trans hu.out
          refine bodyPost_ret (results_row_tmp (fn := Try.f13) (p := 2) (u := 3) (ty := 38) rfl _ _ (w.heap.size + 1) 38 _ (0, 0) _ rfl hs.1 Try.underlying38 rfl rfl) rfl ⟨A6, N6, e6, rfl, Lib.hid HO0.out.len.symm, Lib.hid ?_, Lib.hid (Below.out HU9 hs.2 (fun k hk => by rw [hk]; omega) HU9.size)⟩
          exact OwnI.base (show OwnI .u8 5 W.heap.size _ A6 N6 e6 _ from hs.2.own HO0.out (fun q hq e => by have h1 := (row_lt HO0.out (by rwa [ownBlock_slice] at hq)).1; have h2 := HS.out; have e1 : q = w.heap.size + 1 := e; omega)) (by have := HS.out; omega)
end Go.Proofs.Ytccilbgbjikmpaa
