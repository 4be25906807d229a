import Derived.Test.YtgikgcepeniekaaCk56
namespace Go.Proofs.Ytgikgcepeniekaa
open Go Go.RowKit
set_option linter.unusedVariables false
set_option linter.unusedSimpArgs false
theorem gw_c {C : R → World → Prop} {rs : Nat → R} {hb : Nat} {cf : Option Addr → Nat → Nat → Array Value} {B0 : Nat} {X : Nat → Prop} {E : TypeId} {s : Nat} {A : Option Addr} {n c : Nat} {row row' : List Value} {BB j : Nat} {w : World} (h : GW 0 C rs hb cf B0 X E s A n c row row' BB j w) (hrs : ∀ i j, rs i = rs j := by intros; rfl) : C (rs 0) w := by
  unfold GW at h
  split at h
  · rw [hrs 0 j]; exact h.1
  · split at h
    · exact h.1
    · obtain ⟨A', c', h1, _⟩ := h; exact h1
set_option maxRecDepth 1000000 in
set_option maxHeartbeats 16000000 in
theorem rtoD_main (A : Option Addr) (m c : Nat) (fl : Int) (xs : List Int) (w : World) (hin : InB w A m c xs) (hm : m ≤ 140737488351232) (h12 : 12 ≤ m) : Calls Try.prog 32 #[chV 3 fl (.slice A m c)] w (ToDPost 3 fl xs w) := by
  obtain ⟨W, hW⟩ : ∃ W, W = (w.alloc (.cells #[.int .u8 3, .int .u8 fl, .slice A m c] 41)).alloc (.cells #[.int .u32 0, .int .u32 0, .slice none 0 0, .slice none 0 0] 59) := ⟨_, rfl⟩
  have u1 := up_alloc w (.cells #[.int .u8 3, .int .u8 fl, .slice A m c] 41)
  have a1 := new_at w (.cells #[.int .u8 3, .int .u8 fl, .slice A m c] 41)
  have u2 := up_alloc (w.alloc (.cells #[.int .u8 3, .int .u8 fl, .slice A m c] 41)) (.cells #[.int .u32 0, .int .u32 0, .slice none 0 0, .slice none 0 0] 59)
  have a2 := new_at (w.alloc (.cells #[.int .u8 3, .int .u8 fl, .slice A m c] 41)) (.cells #[.int .u32 0, .int .u32 0, .slice none 0 0, .slice none 0 0] 59)
  have b1 := (u2.block _ (lt_of_blk a1)).trans a1
  have s1 : (w.alloc (.cells #[.int .u8 3, .int .u8 fl, .slice A m c] 41)).heap.size = w.heap.size + 1 := by simp
  rw [s1] at a2
  have HS := Lib.hid (show ((w.alloc (.cells #[.int .u8 3, .int .u8 fl, .slice A m c] 41)).alloc (.cells #[.int .u32 0, .int .u32 0, .slice none 0 0, .slice none 0 0] 59)).heap.size = w.heap.size + 1 + 1 by simp)
  have HU := Lib.hid (u1.trans u2)
  rw [← hW] at a2 b1 HU HS
  have HW := Lib.hid hW
  have HQ := Lib.hid a2
  have HB := Lib.hid b1
  have c0 := cell_of b1 (j := 0) rfl
  have c1 := cell_of b1 (j := 1) rfl
  have c2 := cell_of b1 (j := 2) rfl
  clear u1 a1 u2 a2 b1 s1 hW
  have HI := Lib.hid hin
  have hcap := hin.cap
  have HLM := Lib.hid hin.len
  have HIW := Lib.hid (hin.up HU.out)
  obtain ⟨ga, go, rfl, -, -⟩ := hin.cells (by intro e; have := congrArg List.length e; rw [ints_length, hin.len] at this; simp at this; omega)
  clear hin
  unfold chV
  go_enter Try.func32, Try.ntmps32
  go_upto_region 2 with (fail)
  rw [← HW.out]
  go_wp2_with fail
  refine (rnumI (some ⟨ga, go, none⟩) m c 8 2 xs W (HIW.out) (by omega) (by omega) (by omega) (by omega)).mono ?_
  rintro e v1 ⟨t1, rfl, E1, b1, u1⟩
  obtain ⟨ng, rfl⟩ : ∃ n : Nat, t1 = n := ⟨t1.toNat, by have := b1.out.1; omega⟩
  have hng : (ng : Int) < 65536 := by have := b1.out.2; simpa using this
  clear c0 c1 c2
  go_wp2_with fail
  refine (rnumI (some ⟨ga, go, none⟩) m c 10 2 xs v1 (HIW.out.up u1.out) (by omega) (by omega) (by omega) (by omega)).mono ?_
  rintro e v2 ⟨t2, rfl, E2, b2, u2⟩
  obtain ⟨nd, rfl⟩ : ∃ n : Nat, t2 = n := ⟨t2.toNat, by have := b2.out.1; omega⟩
  have hnd : (nd : Int) < 65536 := by have := b2.out.2; simpa using this
  have V2 := Lib.hid (u1.out.trans u2.out)
  have HQ2 := Lib.hid ((V2.out.block _ (lt_of_blk HQ.out)).trans HQ.out)
  have HU2 := Lib.hid (HU.out.trans V2.out)
  clear u1 u2 b1 b2
  by_cases hg64 : 64 < ng
  · have d1 : decide (64 < (ng : Int)) = true := by simp; omega
    have e0 := cell_of HQ2.out (j := 0) rfl
    have f0 := frozen_at (j := 0) HQ2.out
    have e1 := cell_of HQ2.out (j := 1) rfl
    have f1 := frozen_at (j := 1) HQ2.out
    have e2 := cell_of HQ2.out (j := 2) rfl
    have f2 := frozen_at (j := 2) HQ2.out
    have e3 := cell_of HQ2.out (j := 3) rfl
    have f3 := frozen_at (j := 3) HQ2.out
    go_wp2_with fail
    have hs := set4 (a := .int .u32 0) (b := .int .u32 0) (c := .slice none 0 0) (d := .slice none 0 0) HQ2.out rfl
    refine bodyPost_ret (results_row_tmp (fn := Try.f32) (p := 2) (u := 3) (ty := 59) rfl _ _ (w.heap.size + 1) 59 _ (0, 0) _ rfl hs.1 Try.underlying59 rfl rfl) rfl (DNo.post ⟨rfl, Lib.hid (Below.out HU2.out hs.2 (fun k hk => by rw [hk]; omega) HU2.out.size)⟩ (fun h hp => by obtain ⟨q1, q2, q3, q4, q5, q6, q7, q8⟩ := rD_f hp; rw [← E1.out] at q3; rw [← E2.out] at q4; have := HLM.out; omega))
  by_cases hd64 : 64 < nd
  · have d1 : decide (64 < (ng : Int)) = false := by simp; omega
    have d2 : decide (64 < (nd : Int)) = true := by simp; omega
    have e0 := cell_of HQ2.out (j := 0) rfl
    have f0 := frozen_at (j := 0) HQ2.out
    have e1 := cell_of HQ2.out (j := 1) rfl
    have f1 := frozen_at (j := 1) HQ2.out
    have e2 := cell_of HQ2.out (j := 2) rfl
    have f2 := frozen_at (j := 2) HQ2.out
    have e3 := cell_of HQ2.out (j := 3) rfl
    have f3 := frozen_at (j := 3) HQ2.out
    go_wp2_with fail
    have hs := set4 (a := .int .u32 0) (b := .int .u32 0) (c := .slice none 0 0) (d := .slice none 0 0) HQ2.out rfl
    refine bodyPost_ret (results_row_tmp (fn := Try.f32) (p := 2) (u := 3) (ty := 59) rfl _ _ (w.heap.size + 1) 59 _ (0, 0) _ rfl hs.1 Try.underlying59 rfl rfl) rfl (DNo.post ⟨rfl, Lib.hid (Below.out HU2.out hs.2 (fun k hk => by rw [hk]; omega) HU2.out.size)⟩ (fun h hp => by obtain ⟨q1, q2, q3, q4, q5, q6, q7, q8⟩ := rD_f hp; rw [← E1.out] at q3; rw [← E2.out] at q4; have := HLM.out; omega))
  have d1 : decide (64 < (ng : Int)) = false := by simp; omega
  have d2 : decide (64 < (nd : Int)) = false := by simp; omega
  by_cases hlen : m = 12 + 4 * ng + 4 * nd
  rotate_left
  · have d3 : ((m : Int) != 12 + 4 * (ng : Int) + 4 * (nd : Int)) = true := by rw [bne_iff_ne]; omega
    have e0 := cell_of HQ2.out (j := 0) rfl
    have f0 := frozen_at (j := 0) HQ2.out
    have e1 := cell_of HQ2.out (j := 1) rfl
    have f1 := frozen_at (j := 1) HQ2.out
    have e2 := cell_of HQ2.out (j := 2) rfl
    have f2 := frozen_at (j := 2) HQ2.out
    have e3 := cell_of HQ2.out (j := 3) rfl
    have f3 := frozen_at (j := 3) HQ2.out
    go_wp2_with fail
    have hs := set4 (a := .int .u32 0) (b := .int .u32 0) (c := .slice none 0 0) (d := .slice none 0 0) HQ2.out rfl
    refine bodyPost_ret (results_row_tmp (fn := Try.f32) (p := 2) (u := 3) (ty := 59) rfl _ _ (w.heap.size + 1) 59 _ (0, 0) _ rfl hs.1 Try.underlying59 rfl rfl) rfl (DNo.post ⟨rfl, Lib.hid (Below.out HU2.out hs.2 (fun k hk => by rw [hk]; omega) HU2.out.size)⟩ (fun h hp => by obtain ⟨q1, q2, q3, q4, q5, q6, q7, q8⟩ := rD_f hp; rw [← E1.out] at q3; rw [← E2.out] at q4; have := HLM.out; omega))
  have d3 : ((m : Int) != 12 + 4 * (ng : Int) + 4 * (nd : Int)) = false := by rw [bne_eq_false_iff_eq]; omega
  have hng4 : ng ≤ 64 := by omega
  have hnd4 : nd ≤ 64 := by omega
  have HML := Lib.hid hlen
  have hmle : m ≤ 600 := by omega
  have hmge : 12 + 4 * ng + 4 * nd ≤ m := by omega
  clear hg64 hd64 hlen
  go_wp2_with fail
  refine (rnumI (some ⟨ga, go, none⟩) m c 0 4 xs v2 (HIW.out.up V2.out) (by omega) (by omega) (by omega) (by omega)).mono ?_
  rintro e v3 ⟨t3, rfl, E3, b3, u3⟩
  have l3 := b3.out.1
  have g3 : t3 < 4294967296 := by have := b3.out.2; simpa using this
  have V3 := Lib.hid (V2.out.trans u3.out)
  clear d1 d2 d3 u3 b3 HQ2 HU2 V2
  go_wp2_with fail
  refine (rnumI (some ⟨ga, go, none⟩) m c 4 4 xs v3 (HIW.out.up V3.out) (by omega) (by omega) (by omega) (by omega)).mono ?_
  rintro e v4 ⟨t4, rfl, E4, b4, u4⟩
  have l4 := b4.out.1
  have g4 : t4 < 4294967296 := by have := b4.out.2; simpa using this
  have V4 := Lib.hid (V3.out.trans u4.out)
  clear u4 b4 V3
  go_upto_region 9 with (fail)
  have hal := up_alloc v4 (.cells #[.int .u32 t3, .int .u32 t4, .slice none 0 0, .slice none 0 0] 59)
  have V5 := Lib.hid (V4.out.trans hal)
  have HH5 := Lib.hid (new_at v4 (.cells #[.int .u32 t3, .int .u32 t4, .slice none 0 0, .slice none 0 0] 59))
  have HBW := Lib.hid (show W.heap.size ≤ v4.heap.size from V4.out.size)
  clear hal
  generalize v4.alloc (.cells #[.int .u32 t3, .int .u32 t4, .slice none 0 0, .slice none 0 0] 59) = v5 at V5 HH5 ⊢
  generalize v4.heap.size = hb at HH5 HBW ⊢
  clear V4 l3 g3 l4 g4
  have HRD := Lib.hid (show hrN xs ng nd = ⟨t3, t4, gapsN xs ng, dupsN xs (12 + 4 * ng) nd⟩ by rw [E3.out, E4.out]; rfl)
  have HONLY := Lib.hid (show ∀ h, HeardOK 3 fl xs h → fl = 0 ∧ h = hrN xs ng nd from fun h hp => by
    obtain ⟨q1, q2, q3, q4, q5, q6, q7, q8⟩ := rD_f hp
    rw [← E1.out] at q3
    rw [← E2.out] at q4
    have e1 : h.gaps.length = ng := by omega
    have e2 : h.dups.length = nd := by omega
    rw [e1, e2] at q8
    exact ⟨q1, q8⟩)
  have HOKH := Lib.hid (show Ck.HrdOk (hrN xs ng nd) from hrN_ok HI.out.byt (by rw [HLM.out]; exact HML.out))
  have HGO := Lib.hid (show GapOk (gapsN xs ng) from gapsN_ok HI.out.byt (by rw [HLM.out]; omega))
  have HDO := Lib.hid (show DupOk (dupsN xs (12 + 4 * ng) nd) from dupsN_ok HI.out.byt (by rw [HLM.out]; omega))
  go_wp2_with fail
  go_loopw [8] (fun i wr => ∃ (k : Nat) (A1 : Option Addr) (c1 : Nat), k ≤ ng ∧ i = .int .i64 (k : Int) ∧ Hid (Up W wr) ∧ Hid (wr.heap[hb]? = some (.cells #[.int .u32 t3, .int .u32 t4, .slice A1 k c1, .slice none 0 0] 59 (0, 0))) ∧ Hid (Row W.heap.size (fun q => q = hb) 93 2 wr A1 k c1 (gapc (gapsN xs k)))) (fun i _ => ng - (intOf i).toNat)
  case atStart => exact ⟨0, none, 0, Nat.zero_le _, rfl, V5, HH5, Lib.hid (row_nil _ _ _ _ _)⟩
  case round =>
    obtain ⟨k, A1, c1, hk, rfl, hG, hH, hR⟩ := hrel
    by_cases hlt : k < ng
    · have HHWR := Lib.hid (lt_of_blk hH.out)
      have HAWR := Lib.hid (show ∀ q, blk? A1 = some q → q < wr.heap.size from fun q hq => hR.out.lt hq)
      have HWW := hG.out.size
      have HCU : ∀ (r : R) (w1 w2 : World), Up W w1 → Up w1 w2 → Up W w2 := fun r w1 w2 h hu => h.trans hu
      have HN1 := Lib.hid (show 0 ≤ nmA xs (12 + 4 * k) 2 ∧ nmA xs (12 + 4 * k) 2 < 65536 from by have p2 : (256 : Int) ^ 2 = 65536 := (by decide); exact p2 ▸ nmA_bd HI.out.byt (by rw [HLM.out]; omega))
      have HN2 := Lib.hid (show 0 ≤ nmA xs (14 + 4 * k) 2 ∧ nmA xs (14 + 4 * k) 2 < 65536 from by have p2 : (256 : Int) ^ 2 = 65536 := (by decide); exact p2 ▸ nmA_bd HI.out.byt (by rw [HLM.out]; omega))
      go_upto_region 12 with (fail)
      have HK : ∀ φ ∈ [Is (.pointer (some ⟨hb, 2, none⟩)), Is (.slice A1 k c1), Is (.slice (some ⟨ga, go, none⟩) m c), Is (.int .i64 (k : Int)), Is (.int .i64 ((4 * k : Nat) : Int)), Is (.int .i64 ((12 + 4 * k : Nat) : Int)), Is (.int .i64 (nmA xs (12 + 4 * k) 2)), Is (.int .u16 (nmA xs (12 + 4 * k) 2)), Is (.slice (some ⟨ga, go, none⟩) m c), Is (.int .i64 (k : Int)), Is (.int .i64 ((4 * k : Nat) : Int)), Is (.int .i64 ((14 + 4 * k : Nat) : Int)), Is (.int .i64 (nmA xs (14 + 4 * k) 2)), Is (.int .u16 (nmA xs (14 + 4 * k) 2)), Is (.agg #[.int .u16 (nmA xs (12 + 4 * k) 2), .int .u16 (nmA xs (14 + 4 * k) 2)]), PhS wr.heap.size 93 [.int .u16 (nmA xs (12 + 4 * k) 2), .int .u16 (nmA xs (14 + 4 * k) 2)], PhR W.heap.size (fun q => q = hb) 93 2 (k + 1) (gapc (gapsN xs k) ++ [.int .u16 (nmA xs (12 + 4 * k) 2), .int .u16 (nmA xs (14 + 4 * k) 2)]), Is (.pointer (some ⟨hb, 2, none⟩)), Tru], Keeps φ := by
        intro φ hφ
        simp only [List.mem_cons, List.mem_nil_iff, or_false] at hφ
        rcases hφ with rfl | rfl | rfl | rfl | rfl | rfl | rfl | rfl | rfl | rfl | rfl | rfl | rfl | rfl | rfl | rfl | rfl | rfl | rfl <;> first | exact keeps_is _ | exact keeps_PhS | exact keeps_PhR | exact fun _ _ _ _ _ => trivial
      have HKh : ∀ φ ∈ [Is (.pointer (some ⟨hb, 2, none⟩)), Is (.slice A1 k c1), Is (.slice (some ⟨ga, go, none⟩) m c), Is (.int .i64 (k : Int)), Is (.int .i64 ((4 * k : Nat) : Int)), Is (.int .i64 ((12 + 4 * k : Nat) : Int)), Is (.int .i64 (nmA xs (12 + 4 * k) 2)), Is (.int .u16 (nmA xs (12 + 4 * k) 2)), Is (.slice (some ⟨ga, go, none⟩) m c), Is (.int .i64 (k : Int)), Is (.int .i64 ((4 * k : Nat) : Int)), Is (.int .i64 ((14 + 4 * k : Nat) : Int)), Is (.int .i64 (nmA xs (14 + 4 * k) 2)), Is (.int .u16 (nmA xs (14 + 4 * k) 2)), Is (.agg #[.int .u16 (nmA xs (12 + 4 * k) 2), .int .u16 (nmA xs (14 + 4 * k) 2)]), PhS wr.heap.size 93 [.int .u16 (nmA xs (12 + 4 * k) 2), .int .u16 (nmA xs (14 + 4 * k) 2)], PhR W.heap.size (fun q => q = hb) 93 2 (k + 1) (gapc (gapsN xs k) ++ [.int .u16 (nmA xs (12 + 4 * k) 2), .int .u16 (nmA xs (14 + 4 * k) 2)]), Is (.pointer (some ⟨hb, 2, none⟩)), Tru], KpT (fun k => k = hb) φ := by
        intro φ hφ
        simp only [List.mem_cons, List.mem_nil_iff, or_false] at hφ
        rcases hφ with rfl | rfl | rfl | rfl | rfl | rfl | rfl | rfl | rfl | rfl | rfl | rfl | rfl | rfl | rfl | rfl | rfl | rfl | rfl <;> first | exact kpT_is _ _ | exact kpT_PhS (fun k hk => by rw [hk]; exact HHWR.out) | exact kpT_PhR (fun k hk => hk) | exact kpT_tru _
      have HNE : ∀ j φ, [Is (.pointer (some ⟨hb, 2, none⟩)), Is (.slice A1 k c1), Is (.slice (some ⟨ga, go, none⟩) m c), Is (.int .i64 (k : Int)), Is (.int .i64 ((4 * k : Nat) : Int)), Is (.int .i64 ((12 + 4 * k : Nat) : Int)), Is (.int .i64 (nmA xs (12 + 4 * k) 2)), Is (.int .u16 (nmA xs (12 + 4 * k) 2)), Is (.slice (some ⟨ga, go, none⟩) m c), Is (.int .i64 (k : Int)), Is (.int .i64 ((4 * k : Nat) : Int)), Is (.int .i64 ((14 + 4 * k : Nat) : Int)), Is (.int .i64 (nmA xs (14 + 4 * k) 2)), Is (.int .u16 (nmA xs (14 + 4 * k) 2)), Is (.agg #[.int .u16 (nmA xs (12 + 4 * k) 2), .int .u16 (nmA xs (14 + 4 * k) 2)]), PhS wr.heap.size 93 [.int .u16 (nmA xs (12 + 4 * k) 2), .int .u16 (nmA xs (14 + 4 * k) 2)], PhR W.heap.size (fun q => q = hb) 93 2 (k + 1) (gapc (gapsN xs k) ++ [.int .u16 (nmA xs (12 + 4 * k) 2), .int .u16 (nmA xs (14 + 4 * k) 2)]), Is (.pointer (some ⟨hb, 2, none⟩)), Tru][j]? = some φ → j ≠ 16 → KpT (fun k => blk? A1 = some k) φ := by
        intro j φ hj hne
        rcases j with _ | _ | _ | _ | _ | _ | _ | _ | _ | _ | _ | _ | _ | _ | _ | _ | _ | _ | _ | j <;> first | exact absurd rfl hne | (simp at hj; done) | (have hj2 := Option.some.inj hj; subst hj2; first | exact kpT_is _ _ | exact kpT_PhS (fun k hk => HAWR.out k hk) | exact kpT_tru _)
      refine staged_lit (by kernel_rfl) (facts [Is (.pointer (some ⟨hb, 2, none⟩)), Is (.slice A1 k c1), Is (.slice (some ⟨ga, go, none⟩) m c), Is (.int .i64 (k : Int)), Is (.int .i64 ((4 * k : Nat) : Int)), Is (.int .i64 ((12 + 4 * k : Nat) : Int)), Is (.int .i64 (nmA xs (12 + 4 * k) 2)), Is (.int .u16 (nmA xs (12 + 4 * k) 2)), Is (.slice (some ⟨ga, go, none⟩) m c), Is (.int .i64 (k : Int)), Is (.int .i64 ((4 * k : Nat) : Int)), Is (.int .i64 ((14 + 4 * k : Nat) : Int)), Is (.int .i64 (nmA xs (14 + 4 * k) 2)), Is (.int .u16 (nmA xs (14 + 4 * k) 2)), Is (.agg #[.int .u16 (nmA xs (12 + 4 * k) 2), .int .u16 (nmA xs (14 + 4 * k) 2)]), PhS wr.heap.size 93 [.int .u16 (nmA xs (12 + 4 * k) 2), .int .u16 (nmA xs (14 + 4 * k) 2)], PhR W.heap.size (fun q => q = hb) 93 2 (k + 1) (gapc (gapsN xs k) ++ [.int .u16 (nmA xs (12 + 4 * k) 2), .int .u16 (nmA xs (14 + 4 * k) 2)]), Is (.pointer (some ⟨hb, 2, none⟩)), Tru]) (Stg [16, 18] (GW 0 (fun _ wx => Up W wx) (fun _ => ⟨0, 0⟩) hb (fun A n c => #[.int .u32 t3, .int .u32 t4, .slice A n c, .slice none 0 0]) W.heap.size (fun q => q = hb) 93 2 A1 k c1 (gapc (gapsN xs k)) (gapc (gapsN xs k) ++ [.int .u16 (nmA xs (12 + 4 * k) 2), .int .u16 (nmA xs (14 + 4 * k) 2)]) wr.heap.size)) 109 rfl (by decide +kernel) (by decide +kernel) (Stg.start (gw_lo' (by omega) ⟨hG.out.trans (Up.drew wr), ((Up.drew wr).block _ (lt_of_blk hH.out)).trans hH.out, hR.out.up (Up.drew wr), (Up.drew wr).size⟩)) ?_ ?_
      · refine ⟨?_, ?_, ?_, ?_, ?_, ?_, ?_, ?_, ?_, ?_, ?_, ?_, ?_, ?_, ?_, ?_, ?_, ?_, ?_, trivial⟩
        · refine opS_same rfl rfl fun L ac w1 hJ hl hc ho hd => ?_
          have s7 : ac.eval (.tmp 7) = .pointer (some ⟨hb, 0, none⟩) := ho 7 rfl
          exact ⟨_, x_field 59 (.tmp 7) 2 rfl s7 (fld592 _ _ _), rfl⟩
        · refine opS_same rfl rfl fun L ac w1 hJ hl hc ho hd => ?_
          have d0 : ac.eval (.tmp 57) = .pointer (some ⟨hb, 2, none⟩) := hd 0 _ _ rfl rfl rfl
          obtain ⟨k1, hk1, hW⟩ := hJ.ahead (j := 0) (x := 16) rfl (reach_not hc (n := 19) (k := 16) (by kernel_rfl) hl)
          have hW := gw_lo hW hk1
          exact ⟨_, x_load 56 (.tmp 57) rfl d0 (run_load1 agg56 (cell_of hW.2.1 (j := 2) rfl)), rfl⟩
        · refine opS_same rfl rfl fun L ac w1 hJ hl hc ho hd => ?_
          have s4 : ac.eval (.tmp 4) = .slice (some ⟨ga, go, none⟩) m c := ho 4 rfl
          exact ⟨_, x_move (.tmp 4) rfl s4, rfl⟩
        · refine opS_same rfl rfl fun L ac w1 hJ hl hc ho hd => ?_
          have s8 : ac.eval (.tmp 8) = .int .i64 (k : Int) := ho 8 rfl
          exact ⟨_, x_move (.tmp 8) rfl s8, rfl⟩
        · refine opS_same rfl rfl fun L ac w1 hJ hl hc ho hd => ?_
          have d3 : ac.eval (.tmp 60) = .int .i64 (k : Int) := hd 3 _ _ rfl rfl rfl
          exact ⟨_, x_bin .mul 3 3 (.const (.int .i64 4)) (.tmp 60) rfl rfl d3 (grd3m _ _ _ _ _) (run_mul4 k (by omega) _), rfl⟩
        · refine opS_same rfl rfl fun L ac w1 hJ hl hc ho hd => ?_
          have d4 : ac.eval (.tmp 61) = .int .i64 ((4 * k : Nat) : Int) := hd 4 _ _ rfl rfl rfl
          exact ⟨_, x_bin .add 3 3 (.const (.int .i64 12)) (.tmp 61) rfl rfl d4 (grd3a _ _ _ _ _) (run_add3 12 (4 * k) (by omega) _), rfl⟩
        · refine opS_callUp rfl rfl (fun k wa wb h hu => gw_up HCU h hu) (facts_keep HK) fun L ac w1 hJ hl hc ho hd => ?_
          have d2 : ac.eval (.tmp 59) = .slice (some ⟨ga, go, none⟩) m c := hd 2 _ _ rfl rfl rfl
          have d5 : ac.eval (.tmp 62) = .int .i64 ((12 + 4 * k : Nat) : Int) := hd 5 _ _ rfl rfl rfl
          obtain ⟨k9, _, hW9⟩ := hJ
          have hUW := (gw_c hW9)
          refine ⟨42, _, x_fcall 42 [.tmp 59, .tmp 62, .const (.int .i64 2)] _ rfl (by kernel_rfl), ?_⟩
          simp only [List.map_cons, List.map_nil, d2, d5]
          refine (rnumI (some ⟨ga, go, none⟩) m c (12 + 4 * k) 2 xs w1 (HIW.out.up hUW) (by omega) (by omega) (by omega) (by omega)).mono fun e w2 ⟨v, he, hv, _, hu⟩ => ⟨_, he, hu.out, ?_⟩
          rw [hv.out]; rfl
        · refine opS_same rfl rfl fun L ac w1 hJ hl hc ho hd => ?_
          have d6 : ac.eval (.tmp 63) = .int .i64 (nmA xs (12 + 4 * k) 2) := hd 6 _ _ rfl rfl rfl
          exact ⟨_, x_conv 3 37 (.tmp 63) rfl d6 (run_cv37 _ HN1.out _), rfl⟩
        · refine opS_same rfl rfl fun L ac w1 hJ hl hc ho hd => ?_
          have s4 : ac.eval (.tmp 4) = .slice (some ⟨ga, go, none⟩) m c := ho 4 rfl
          exact ⟨_, x_move (.tmp 4) rfl s4, rfl⟩
        · refine opS_same rfl rfl fun L ac w1 hJ hl hc ho hd => ?_
          have s8 : ac.eval (.tmp 8) = .int .i64 (k : Int) := ho 8 rfl
          exact ⟨_, x_move (.tmp 8) rfl s8, rfl⟩
        · refine opS_same rfl rfl fun L ac w1 hJ hl hc ho hd => ?_
          have d9 : ac.eval (.tmp 66) = .int .i64 (k : Int) := hd 9 _ _ rfl rfl rfl
          exact ⟨_, x_bin .mul 3 3 (.const (.int .i64 4)) (.tmp 66) rfl rfl d9 (grd3m _ _ _ _ _) (run_mul4 k (by omega) _), rfl⟩
        · refine opS_same rfl rfl fun L ac w1 hJ hl hc ho hd => ?_
          have d10 : ac.eval (.tmp 67) = .int .i64 ((4 * k : Nat) : Int) := hd 10 _ _ rfl rfl rfl
          exact ⟨_, x_bin .add 3 3 (.const (.int .i64 14)) (.tmp 67) rfl rfl d10 (grd3a _ _ _ _ _) (run_add3 14 (4 * k) (by omega) _), rfl⟩
        · refine opS_callUp rfl rfl (fun k wa wb h hu => gw_up HCU h hu) (facts_keep HK) fun L ac w1 hJ hl hc ho hd => ?_
          have d8 : ac.eval (.tmp 65) = .slice (some ⟨ga, go, none⟩) m c := hd 8 _ _ rfl rfl rfl
          have d11 : ac.eval (.tmp 68) = .int .i64 ((14 + 4 * k : Nat) : Int) := hd 11 _ _ rfl rfl rfl
          obtain ⟨k9, _, hW9⟩ := hJ
          have hUW := (gw_c hW9)
          refine ⟨42, _, x_fcall 42 [.tmp 65, .tmp 68, .const (.int .i64 2)] _ rfl (by kernel_rfl), ?_⟩
          simp only [List.map_cons, List.map_nil, d8, d11]
          refine (rnumI (some ⟨ga, go, none⟩) m c (14 + 4 * k) 2 xs w1 (HIW.out.up hUW) (by omega) (by omega) (by omega) (by omega)).mono fun e w2 ⟨v, he, hv, _, hu⟩ => ⟨_, he, hu.out, ?_⟩
          rw [hv.out]; rfl
        · refine opS_same rfl rfl fun L ac w1 hJ hl hc ho hd => ?_
          have d12 : ac.eval (.tmp 69) = .int .i64 (nmA xs (14 + 4 * k) 2) := hd 12 _ _ rfl rfl rfl
          exact ⟨_, x_conv 3 37 (.tmp 69) rfl d12 (run_cv37 _ HN2.out _), rfl⟩
        · refine opS_same rfl rfl fun L ac w1 hJ hl hc ho hd => ?_
          have d7 : ac.eval (.tmp 64) = .int .u16 (nmA xs (12 + 4 * k) 2) := hd 7 _ _ rfl rfl rfl
          have d13 : ac.eval (.tmp 70) = .int .u16 (nmA xs (14 + 4 * k) 2) := hd 13 _ _ rfl rfl rfl
          exact ⟨_, x_build 93 _ rfl (by simp only [List.map_toArray, List.map_cons, List.map_nil, d7, d13]; exact build_gap _ _ w1), rfl⟩
        · refine opS_grow rfl rfl (fun k wa wb h hu => gw_up HCU h hu) (facts_keep HK) fun L ac w1 hJ hl hc ho hd => ?_
          have d14 : ac.eval (.tmp 71) = .agg #[.int .u16 (nmA xs (12 + 4 * k) 2), .int .u16 (nmA xs (14 + 4 * k) 2)] := hd 14 _ _ rfl rfl rfl
          obtain ⟨k1, hk1, hW⟩ := hJ.ahead (j := 0) (x := 16) rfl (reach_not hc (n := 19) (k := 16) (by kernel_rfl) hl)
          have hW := gw_lo hW hk1
          exact fine_run (.slice (some ⟨w1.heap.size, 0, none⟩) 1 1) (w1.alloc (.cells #[.int .u16 (nmA xs (12 + 4 * k) 2), .int .u16 (nmA xs (14 + 4 * k) 2)] 93)) (x_bslice 56 1 _ rfl (by simp only [List.map_toArray, List.map_cons, List.map_nil, d14]; exact bs_gap _ _ w1)) (up_alloc _ _) ⟨w1.heap.size, rfl, hW.2.2.2, new_at _ _⟩
        · refine opS_writeV (j := 0) rfl (by decide) rfl (fun y hy h0 => absurd h0 (by omega)) fun ac w1 hW ho hd => ?_
          have d1 : ac.eval (.tmp 58) = .slice A1 k c1 := hd 1 _ _ rfl rfl rfl
          have d15 := hd 15 _ _ rfl rfl rfl
          have hW := gw_lo hW (by omega)
          obtain ⟨u, w2, hr, ho2, hu⟩ := app_step (ty := 56) Try.underlying56 info93 rfl (by decide) hW.2.2.1 d15 rfl (by simp [Value.oneCell']) (fun q hq => by rw [hq]; exact lt_of_blk hW.2.1) (by have := hW.1.size; omega) (by omega) (by omega)
          exact ⟨u, w2, x_append (.tmp 58) (.tmp 72) 56 56 rfl d1 rfl hr, gw_mid' ⟨Below.out hW.1 ho2 (fun q hq => (hW.2.2.1.blk q hq).1) hW.1.size, ho2.blk hW.2.1 (fun e => (hW.2.2.1.blk _ e).2 rfl), Nat.le_trans hW.2.2.2 ho2.size⟩, hu, fun j x hj hx => facts_ne HNE j x w1 w2 hj hx ho2⟩
        · refine opS_same rfl rfl fun L ac w1 hJ hl hc ho hd => ?_
          have s7 : ac.eval (.tmp 7) = .pointer (some ⟨hb, 0, none⟩) := ho 7 rfl
          exact ⟨_, x_field 59 (.tmp 7) 2 rfl s7 (fld592 _ _ _), rfl⟩
        · refine opS_write (j := 1) rfl rfl (by decide) rfl (fun y hy _ => by cases hy; rfl) fun ac w1 hW ho hd => ?_
          have d17 : ac.eval (.tmp 74) = .pointer (some ⟨hb, 2, none⟩) := hd 17 _ _ rfl rfl rfl
          have d16 := hd 16 _ _ rfl rfl rfl
          have hW := gw_mid hW
          obtain ⟨A7, c7, e7, row7⟩ := d16
          have hs := setCell_out w1 hb 2 (.slice A7 (k + 1) c7)
          exact ⟨_, x_store 56 (.tmp 74) (.tmp 73) rfl d17 e7 (run_store1 sz56 hW.2.1 (j := 2) (by simp) rfl rfl), gw_hi' ⟨A7, c7, Below.out hW.1 hs (fun q hq => by rw [hq]; exact HBW.out) hW.1.size, (setCell_at _ hW.2.1).trans rfl, row7.outX hs (fun k hk => hk)⟩, fun _ => trivial, fun j x hx => facts_kp HKh j x w1 _ hx hs⟩
      · intro L a1 w9 hI hall
        obtain ⟨j, hj, hW⟩ := hI.done hall (by simp)
        obtain ⟨j, rfl⟩ : ∃ q, j = q + 0 + 2 := ⟨j - 2, by simp at hj; omega⟩
        obtain ⟨A8, c8, hC8, hH8, hR8⟩ := gw_hi hW
        clear hj hW j HK HKh HNE
        have l0 : a1.tmps.getD 0 undef = Value.agg #[Value.int IntKind.u8 3, Value.int IntKind.u8 fl, Value.slice (some { block := ga, off := go }) m c] := hI.old 0 rfl
        have l1 : a1.tmps.getD 1 undef = Value.pointer (some { block := w.heap.size, off := 0 }) := hI.old 1 rfl
        have l2 : a1.tmps.getD 2 undef = Value.pointer (some { block := w.heap.size + 1, off := 0 }) := hI.old 2 rfl
        have l3 : a1.tmps.getD 3 undef = Value.int IntKind.i64 0 := hI.old 3 rfl
        have l4 : a1.tmps.getD 4 undef = Value.slice (some { block := ga, off := go }) m c := hI.old 4 rfl
        have l5 : a1.tmps.getD 5 undef = Value.int IntKind.i64 ↑ng := hI.old 5 rfl
        have l6 : a1.tmps.getD 6 undef = Value.int IntKind.i64 ↑nd := hI.old 6 rfl
        have l7 : a1.tmps.getD 7 undef = Value.pointer (some { block := hb, off := 0 }) := hI.old 7 rfl
        have l8 : a1.tmps.getD 8 undef = Value.int IntKind.i64 ↑k := hI.old 8 rfl
        have l9 : a1.tmps.getD 9 undef = undef := hI.old 9 rfl
        have l10 : a1.tmps.getD 10 undef = undef := hI.old 10 rfl
        have l11 : a1.tmps.getD 11 undef = undef := hI.old 11 rfl
        have l12 : a1.tmps.getD 12 undef = Value.pointer (some { block := w.heap.size, off := 2 }) := hI.old 12 rfl
        have l13 : a1.tmps.getD 13 undef = Value.slice (some { block := ga, off := go }) m c := hI.old 13 rfl
        have l14 : a1.tmps.getD 14 undef = Value.pointer (some { block := w.heap.size, off := 0 }) := hI.old 14 rfl
        have l15 : a1.tmps.getD 15 undef = Value.int IntKind.u8 3 := hI.old 15 rfl
        have l16 : a1.tmps.getD 16 undef = Value.bool false := hI.old 16 rfl
        have l17 : a1.tmps.getD 17 undef = Value.bool false := hI.old 17 rfl
        have l18 : a1.tmps.getD 18 undef = Value.slice (some { block := ga, off := go }) m c := hI.old 18 rfl
        have l19 : a1.tmps.getD 19 undef = Value.int IntKind.i64 ↑m := hI.old 19 rfl
        have l20 : a1.tmps.getD 20 undef = Value.bool (decide ((m : Int) < (12 : Int))) := hI.old 20 rfl
        have l21 : a1.tmps.getD 21 undef = Value.bool (decide ((m : Int) < (12 : Int))) := hI.old 21 rfl
        have l22 : a1.tmps.getD 22 undef = undef := hI.old 22 rfl
        have l23 : a1.tmps.getD 23 undef = Value.slice (some { block := ga, off := go }) m c := hI.old 23 rfl
        have l24 : a1.tmps.getD 24 undef = Value.int IntKind.i64 ↑ng := hI.old 24 rfl
        have l25 : a1.tmps.getD 25 undef = Value.slice (some { block := ga, off := go }) m c := hI.old 25 rfl
        have l26 : a1.tmps.getD 26 undef = Value.int IntKind.i64 ↑nd := hI.old 26 rfl
        have l27 : a1.tmps.getD 27 undef = Value.int IntKind.i64 ↑ng := hI.old 27 rfl
        have l28 : a1.tmps.getD 28 undef = Value.bool false := hI.old 28 rfl
        have l29 : a1.tmps.getD 29 undef = Value.bool false := hI.old 29 rfl
        have l30 : a1.tmps.getD 30 undef = Value.int IntKind.i64 ↑nd := hI.old 30 rfl
        have l31 : a1.tmps.getD 31 undef = Value.bool false := hI.old 31 rfl
        have l32 : a1.tmps.getD 32 undef = Value.bool false := hI.old 32 rfl
        have l33 : a1.tmps.getD 33 undef = Value.bool false := hI.old 33 rfl
        have l34 : a1.tmps.getD 34 undef = Value.slice (some { block := ga, off := go }) m c := hI.old 34 rfl
        have l35 : a1.tmps.getD 35 undef = Value.int IntKind.i64 ↑m := hI.old 35 rfl
        have l36 : a1.tmps.getD 36 undef = Value.int IntKind.i64 ↑ng := hI.old 36 rfl
        have l37 : a1.tmps.getD 37 undef = Value.int IntKind.i64 (4 * ↑ng) := hI.old 37 rfl
        have l38 : a1.tmps.getD 38 undef = Value.int IntKind.i64 (12 + 4 * ↑ng) := hI.old 38 rfl
        have l39 : a1.tmps.getD 39 undef = Value.int IntKind.i64 ↑nd := hI.old 39 rfl
        have l40 : a1.tmps.getD 40 undef = Value.int IntKind.i64 (4 * ↑nd) := hI.old 40 rfl
        have l41 : a1.tmps.getD 41 undef = Value.int IntKind.i64 (12 + 4 * ↑ng + 4 * ↑nd) := hI.old 41 rfl
        have l42 : a1.tmps.getD 42 undef = Value.bool false := hI.old 42 rfl
        have l43 : a1.tmps.getD 43 undef = Value.bool false := hI.old 43 rfl
        have l44 : a1.tmps.getD 44 undef = undef := hI.old 44 rfl
        have l45 : a1.tmps.getD 45 undef = Value.slice (some { block := ga, off := go }) m c := hI.old 45 rfl
        have l46 : a1.tmps.getD 46 undef = Value.int IntKind.i64 t3 := hI.old 46 rfl
        have l47 : a1.tmps.getD 47 undef = Value.int IntKind.u32 t3 := hI.old 47 rfl
        have l48 : a1.tmps.getD 48 undef = Value.slice (some { block := ga, off := go }) m c := hI.old 48 rfl
        have l49 : a1.tmps.getD 49 undef = Value.int IntKind.i64 t4 := hI.old 49 rfl
        have l50 : a1.tmps.getD 50 undef = Value.int IntKind.u32 t4 := hI.old 50 rfl
        have l51 : a1.tmps.getD 51 undef = Value.agg #[Value.int IntKind.u32 t3, Value.int IntKind.u32 t4, Value.slice none 0 0, Value.slice none 0 0] := hI.old 51 rfl
        have l52 : a1.tmps.getD 52 undef = Value.int IntKind.i64 ↑k := hI.old 52 rfl
        have l53 : a1.tmps.getD 53 undef = Value.int IntKind.i64 ↑ng := hI.old 53 rfl
        have l54 : a1.tmps.getD 54 undef = Value.bool true := hI.old 54 rfl
        have l75 : a1.tmps.getD 75 undef = undef := hI.old 75 rfl
        have l76 : a1.tmps.getD 76 undef = undef := hI.old 76 rfl
        have l77 : a1.tmps.getD 77 undef = undef := hI.old 77 rfl
        have l78 : a1.tmps.getD 78 undef = undef := hI.old 78 rfl
        have l79 : a1.tmps.getD 79 undef = undef := hI.old 79 rfl
        have l80 : a1.tmps.getD 80 undef = undef := hI.old 80 rfl
        have l81 : a1.tmps.getD 81 undef = undef := hI.old 81 rfl
        have l82 : a1.tmps.getD 82 undef = undef := hI.old 82 rfl
        have l83 : a1.tmps.getD 83 undef = undef := hI.old 83 rfl
        have l84 : a1.tmps.getD 84 undef = undef := hI.old 84 rfl
        have l85 : a1.tmps.getD 85 undef = undef := hI.old 85 rfl
        have l86 : a1.tmps.getD 86 undef = undef := hI.old 86 rfl
        have l87 : a1.tmps.getD 87 undef = undef := hI.old 87 rfl
        have l88 : a1.tmps.getD 88 undef = undef := hI.old 88 rfl
        have l89 : a1.tmps.getD 89 undef = undef := hI.old 89 rfl
        have l90 : a1.tmps.getD 90 undef = undef := hI.old 90 rfl
        have l91 : a1.tmps.getD 91 undef = undef := hI.old 91 rfl
        have l92 : a1.tmps.getD 92 undef = undef := hI.old 92 rfl
        have l93 : a1.tmps.getD 93 undef = undef := hI.old 93 rfl
        have l94 : a1.tmps.getD 94 undef = undef := hI.old 94 rfl
        have l95 : a1.tmps.getD 95 undef = undef := hI.old 95 rfl
        have l96 : a1.tmps.getD 96 undef = undef := hI.old 96 rfl
        have l97 : a1.tmps.getD 97 undef = undef := hI.old 97 rfl
        have l98 : a1.tmps.getD 98 undef = undef := hI.old 98 rfl
        have l99 : a1.tmps.getD 99 undef = undef := hI.old 99 rfl
        have l100 : a1.tmps.getD 100 undef = undef := hI.old 100 rfl
        have l101 : a1.tmps.getD 101 undef = undef := hI.old 101 rfl
        have l102 : a1.tmps.getD 102 undef = undef := hI.old 102 rfl
        have l103 : a1.tmps.getD 103 undef = undef := hI.old 103 rfl
        have l104 : a1.tmps.getD 104 undef = undef := hI.old 104 rfl
        have l105 : a1.tmps.getD 105 undef = undef := hI.old 105 rfl
        have l106 : a1.tmps.getD 106 undef = undef := hI.old 106 rfl
        have l107 : a1.tmps.getD 107 undef = undef := hI.old 107 rfl
        have l108 : a1.tmps.getD 108 undef = undef := hI.old 108 rfl
        have hde : a1.defers = [] := hI.defers
        have hal := act_lit a1 109 hI.size
        clear hI
        simp only [List.range, List.range.loop, List.map_cons, List.map_nil] at hal
        rw [l0, l1, l2, l3, l4, l5, l6, l7, l8, l9, l10, l11, l12, l13, l14, l15, l16, l17, l18, l19, l20, l21, l22, l23, l24, l25, l26, l27, l28, l29, l30, l31, l32, l33, l34, l35, l36, l37, l38, l39, l40, l41, l42, l43, l44, l45, l46, l47, l48, l49, l50, l51, l52, l53, l54, l75, l76, l77, l78, l79, l80, l81, l82, l83, l84, l85, l86, l87, l88, l89, l90, l91, l92, l93, l94, l95, l96, l97, l98, l99, l100, l101, l102, l103, l104, l105, l106, l107, l108, hde] at hal
        generalize a1.tmps.getD 55 undef = tm55 at hal
        generalize a1.tmps.getD 56 undef = tm56 at hal
        generalize a1.tmps.getD 57 undef = tm57 at hal
        generalize a1.tmps.getD 58 undef = tm58 at hal
        generalize a1.tmps.getD 59 undef = tm59 at hal
        generalize a1.tmps.getD 60 undef = tm60 at hal
        generalize a1.tmps.getD 61 undef = tm61 at hal
        generalize a1.tmps.getD 62 undef = tm62 at hal
        generalize a1.tmps.getD 63 undef = tm63 at hal
        generalize a1.tmps.getD 64 undef = tm64 at hal
        generalize a1.tmps.getD 65 undef = tm65 at hal
        generalize a1.tmps.getD 66 undef = tm66 at hal
        generalize a1.tmps.getD 67 undef = tm67 at hal
        generalize a1.tmps.getD 68 undef = tm68 at hal
        generalize a1.tmps.getD 69 undef = tm69 at hal
        generalize a1.tmps.getD 70 undef = tm70 at hal
        generalize a1.tmps.getD 71 undef = tm71 at hal
        generalize a1.tmps.getD 72 undef = tm72 at hal
        generalize a1.tmps.getD 73 undef = tm73 at hal
        generalize a1.tmps.getD 74 undef = tm74 at hal
        clear l0 l1 l2 l3 l4 l5 l6 l7 l8 l9 l10 l11 l12 l13 l14 l15 l16 l17 l18 l19 l20 l21 l22 l23 l24 l25 l26 l27 l28 l29 l30 l31 l32 l33 l34 l35 l36 l37 l38 l39 l40 l41 l42 l43 l44 l45 l46 l47 l48 l49 l50 l51 l52 l53 l54 l75 l76 l77 l78 l79 l80 l81 l82 l83 l84 l85 l86 l87 l88 l89 l90 l91 l92 l93 l94 l95 l96 l97 l98 l99 l100 l101 l102 l103 l104 l105 l106 l107 l108 hde
        subst hal
        have HC8 := Lib.hid hC8
        have HH8 := Lib.hid hH8
        have HR8 := Lib.hid (show Row W.heap.size (fun q => q = hb) 93 2 w9 A8 (k + 1) c8 (gapc (gapsN xs (k + 1))) by rw [gapsN_step]; simpa [gapc, gpc] using hR8)
        clear hC8 hH8 hR8 HCU
        go_wp2_with fail
        go_roundw
        case rel => exact ⟨k + 1, A8, c8, by omega, by go_num, HC8, HH8, HR8⟩
        case measure => simp [intOf]; omega
    · obtain rfl : k = ng := by omega
      go_wp2_with fail
      go_loopw [9] (fun i wr => ∃ (u : Nat) (B1 : Option Addr) (d1 : Nat), u ≤ nd ∧ i = .int .i64 (u : Int) ∧ Hid (Up W wr) ∧ Hid (wr.heap[hb]? = some (.cells #[.int .u32 t3, .int .u32 t4, .slice A1 k c1, .slice B1 u d1] 59 (0, 0))) ∧ Hid (Row W.heap.size (fun q => q = hb) 93 2 wr A1 k c1 (gapc (gapsN xs k))) ∧ Hid (Row W.heap.size (fun q => q = hb ∨ blk? A1 = some q) 36 1 wr B1 u d1 (ints .u32 (dupsN xs (12 + 4 * k) u)))) (fun i _ => nd - (intOf i).toNat)
      case atStart => exact ⟨0, none, 0, Nat.zero_le _, rfl, hG, hH, hR, Lib.hid (row_nil _ _ _ _ _)⟩
      case round =>
        clear hG hH hR
        obtain ⟨u, B1, d1, hu, rfl, hG, hH, hRg, hR⟩ := hrel
        by_cases hlt2 : u < nd
        · have HHWR := Lib.hid (lt_of_blk hH.out)
          have HAWR := Lib.hid (show ∀ q, blk? B1 = some q → q < wr.heap.size from fun q hq => hR.out.lt hq)
          have HWW := hG.out.size
          have HCU : ∀ (r : R) (w1 w2 : World), (Up W w1 ∧ Row W.heap.size (fun q => q = hb) 93 2 w1 A1 k c1 (gapc (gapsN xs k))) → Up w1 w2 → (Up W w2 ∧ Row W.heap.size (fun q => q = hb) 93 2 w2 A1 k c1 (gapc (gapsN xs k))) := fun r w1 w2 h hu => ⟨h.1.trans hu, h.2.up hu⟩
          have HN1 := Lib.hid (show 0 ≤ nmA xs (12 + 4 * k + 4 * u) 4 ∧ nmA xs (12 + 4 * k + 4 * u) 4 < 4294967296 from by have p4 : (256 : Int) ^ 4 = 4294967296 := (by decide); exact p4 ▸ nmA_bd HI.out.byt (by rw [HLM.out]; omega))
          go_upto_region 16 with (fail)
          have HK : ∀ φ ∈ [Is (.pointer (some ⟨hb, 3, none⟩)), Is (.slice B1 u d1), Is (.slice (some ⟨ga, go, none⟩) m c), Is (.int .i64 (k : Int)), Is (.int .i64 ((4 * k : Nat) : Int)), Is (.int .i64 ((12 + 4 * k : Nat) : Int)), Is (.int .i64 (u : Int)), Is (.int .i64 ((4 * u : Nat) : Int)), Is (.int .i64 ((12 + 4 * k + 4 * u : Nat) : Int)), Is (.int .i64 (nmA xs (12 + 4 * k + 4 * u) 4)), Is (.int .u32 (nmA xs (12 + 4 * k + 4 * u) 4)), PhS wr.heap.size 36 [.int .u32 (nmA xs (12 + 4 * k + 4 * u) 4)], PhR W.heap.size (fun q => q = hb ∨ blk? A1 = some q) 36 1 (u + 1) (ints .u32 (dupsN xs (12 + 4 * k) u) ++ [.int .u32 (nmA xs (12 + 4 * k + 4 * u) 4)]), Is (.pointer (some ⟨hb, 3, none⟩)), Tru], Keeps φ := by
            intro φ hφ
            simp only [List.mem_cons, List.mem_nil_iff, or_false] at hφ
            rcases hφ with rfl | rfl | rfl | rfl | rfl | rfl | rfl | rfl | rfl | rfl | rfl | rfl | rfl | rfl | rfl <;> first | exact keeps_is _ | exact keeps_PhS | exact keeps_PhR | exact fun _ _ _ _ _ => trivial
          have HKh : ∀ φ ∈ [Is (.pointer (some ⟨hb, 3, none⟩)), Is (.slice B1 u d1), Is (.slice (some ⟨ga, go, none⟩) m c), Is (.int .i64 (k : Int)), Is (.int .i64 ((4 * k : Nat) : Int)), Is (.int .i64 ((12 + 4 * k : Nat) : Int)), Is (.int .i64 (u : Int)), Is (.int .i64 ((4 * u : Nat) : Int)), Is (.int .i64 ((12 + 4 * k + 4 * u : Nat) : Int)), Is (.int .i64 (nmA xs (12 + 4 * k + 4 * u) 4)), Is (.int .u32 (nmA xs (12 + 4 * k + 4 * u) 4)), PhS wr.heap.size 36 [.int .u32 (nmA xs (12 + 4 * k + 4 * u) 4)], PhR W.heap.size (fun q => q = hb ∨ blk? A1 = some q) 36 1 (u + 1) (ints .u32 (dupsN xs (12 + 4 * k) u) ++ [.int .u32 (nmA xs (12 + 4 * k + 4 * u) 4)]), Is (.pointer (some ⟨hb, 3, none⟩)), Tru], KpT (fun k => k = hb) φ := by
            intro φ hφ
            simp only [List.mem_cons, List.mem_nil_iff, or_false] at hφ
            rcases hφ with rfl | rfl | rfl | rfl | rfl | rfl | rfl | rfl | rfl | rfl | rfl | rfl | rfl | rfl | rfl <;> first | exact kpT_is _ _ | exact kpT_PhS (fun k hk => by rw [hk]; exact HHWR.out) | exact kpT_PhR (fun k hk => .inl hk) | exact kpT_tru _
          have HNE : ∀ j φ, [Is (.pointer (some ⟨hb, 3, none⟩)), Is (.slice B1 u d1), Is (.slice (some ⟨ga, go, none⟩) m c), Is (.int .i64 (k : Int)), Is (.int .i64 ((4 * k : Nat) : Int)), Is (.int .i64 ((12 + 4 * k : Nat) : Int)), Is (.int .i64 (u : Int)), Is (.int .i64 ((4 * u : Nat) : Int)), Is (.int .i64 ((12 + 4 * k + 4 * u : Nat) : Int)), Is (.int .i64 (nmA xs (12 + 4 * k + 4 * u) 4)), Is (.int .u32 (nmA xs (12 + 4 * k + 4 * u) 4)), PhS wr.heap.size 36 [.int .u32 (nmA xs (12 + 4 * k + 4 * u) 4)], PhR W.heap.size (fun q => q = hb ∨ blk? A1 = some q) 36 1 (u + 1) (ints .u32 (dupsN xs (12 + 4 * k) u) ++ [.int .u32 (nmA xs (12 + 4 * k + 4 * u) 4)]), Is (.pointer (some ⟨hb, 3, none⟩)), Tru][j]? = some φ → j ≠ 12 → KpT (fun k => blk? B1 = some k) φ := by
            intro j φ hj hne
            rcases j with _ | _ | _ | _ | _ | _ | _ | _ | _ | _ | _ | _ | _ | _ | _ | j <;> first | exact absurd rfl hne | (simp at hj; done) | (have hj2 := Option.some.inj hj; subst hj2; first | exact kpT_is _ _ | exact kpT_PhS (fun k hk => HAWR.out k hk) | exact kpT_tru _)
          refine staged_lit (by kernel_rfl) (facts [Is (.pointer (some ⟨hb, 3, none⟩)), Is (.slice B1 u d1), Is (.slice (some ⟨ga, go, none⟩) m c), Is (.int .i64 (k : Int)), Is (.int .i64 ((4 * k : Nat) : Int)), Is (.int .i64 ((12 + 4 * k : Nat) : Int)), Is (.int .i64 (u : Int)), Is (.int .i64 ((4 * u : Nat) : Int)), Is (.int .i64 ((12 + 4 * k + 4 * u : Nat) : Int)), Is (.int .i64 (nmA xs (12 + 4 * k + 4 * u) 4)), Is (.int .u32 (nmA xs (12 + 4 * k + 4 * u) 4)), PhS wr.heap.size 36 [.int .u32 (nmA xs (12 + 4 * k + 4 * u) 4)], PhR W.heap.size (fun q => q = hb ∨ blk? A1 = some q) 36 1 (u + 1) (ints .u32 (dupsN xs (12 + 4 * k) u) ++ [.int .u32 (nmA xs (12 + 4 * k + 4 * u) 4)]), Is (.pointer (some ⟨hb, 3, none⟩)), Tru]) (Stg [12, 14] (GW 0 (fun _ wx => Up W wx ∧ Row W.heap.size (fun q => q = hb) 93 2 wx A1 k c1 (gapc (gapsN xs k))) (fun _ => ⟨0, 0⟩) hb (fun B n d => #[.int .u32 t3, .int .u32 t4, .slice A1 k c1, .slice B n d]) W.heap.size (fun q => q = hb ∨ blk? A1 = some q) 36 1 B1 u d1 (ints .u32 (dupsN xs (12 + 4 * k) u)) (ints .u32 (dupsN xs (12 + 4 * k) u) ++ [.int .u32 (nmA xs (12 + 4 * k + 4 * u) 4)]) wr.heap.size)) 109 rfl (by decide +kernel) (by decide +kernel) (Stg.start (gw_lo' (by omega) ⟨⟨hG.out.trans (Up.drew wr), hRg.out.up (Up.drew wr)⟩, ((Up.drew wr).block _ (lt_of_blk hH.out)).trans hH.out, hR.out.up (Up.drew wr), (Up.drew wr).size⟩)) ?_ ?_
          · refine ⟨?_, ?_, ?_, ?_, ?_, ?_, ?_, ?_, ?_, ?_, ?_, ?_, ?_, ?_, ?_, trivial⟩
            · refine opS_same rfl rfl fun L ac w1 hJ hl hc ho hd => ?_
              have s7 : ac.eval (.tmp 7) = .pointer (some ⟨hb, 0, none⟩) := ho 7 rfl
              exact ⟨_, x_field 59 (.tmp 7) 3 rfl s7 (fld593 _ _ _), rfl⟩
            · refine opS_same rfl rfl fun L ac w1 hJ hl hc ho hd => ?_
              have d0 : ac.eval (.tmp 80) = .pointer (some ⟨hb, 3, none⟩) := hd 0 _ _ rfl rfl rfl
              obtain ⟨k1, hk1, hW⟩ := hJ.ahead (j := 0) (x := 12) rfl (reach_not hc (n := 15) (k := 12) (by kernel_rfl) hl)
              have hW := gw_lo hW hk1
              exact ⟨_, x_load 57 (.tmp 80) rfl d0 (run_load1 agg57 (cell_of hW.2.1 (j := 3) rfl)), rfl⟩
            · refine opS_same rfl rfl fun L ac w1 hJ hl hc ho hd => ?_
              have s4 : ac.eval (.tmp 4) = .slice (some ⟨ga, go, none⟩) m c := ho 4 rfl
              exact ⟨_, x_move (.tmp 4) rfl s4, rfl⟩
            · refine opS_same rfl rfl fun L ac w1 hJ hl hc ho hd => ?_
              have s5 : ac.eval (.tmp 5) = .int .i64 (k : Int) := ho 5 rfl
              exact ⟨_, x_move (.tmp 5) rfl s5, rfl⟩
            · refine opS_same rfl rfl fun L ac w1 hJ hl hc ho hd => ?_
              have d3 : ac.eval (.tmp 83) = .int .i64 (k : Int) := hd 3 _ _ rfl rfl rfl
              exact ⟨_, x_bin .mul 3 3 (.const (.int .i64 4)) (.tmp 83) rfl rfl d3 (grd3m _ _ _ _ _) (run_mul4 k (by omega) _), rfl⟩
            · refine opS_same rfl rfl fun L ac w1 hJ hl hc ho hd => ?_
              have d4 : ac.eval (.tmp 84) = .int .i64 ((4 * k : Nat) : Int) := hd 4 _ _ rfl rfl rfl
              exact ⟨_, x_bin .add 3 3 (.const (.int .i64 12)) (.tmp 84) rfl rfl d4 (grd3a _ _ _ _ _) (run_add3 12 (4 * k) (by omega) _), rfl⟩
            · refine opS_same rfl rfl fun L ac w1 hJ hl hc ho hd => ?_
              have s9 : ac.eval (.tmp 9) = .int .i64 (u : Int) := ho 9 rfl
              exact ⟨_, x_move (.tmp 9) rfl s9, rfl⟩
            · refine opS_same rfl rfl fun L ac w1 hJ hl hc ho hd => ?_
              have d6 : ac.eval (.tmp 86) = .int .i64 (u : Int) := hd 6 _ _ rfl rfl rfl
              exact ⟨_, x_bin .mul 3 3 (.const (.int .i64 4)) (.tmp 86) rfl rfl d6 (grd3m _ _ _ _ _) (run_mul4 u (by omega) _), rfl⟩
            · refine opS_same rfl rfl fun L ac w1 hJ hl hc ho hd => ?_
              have d5 : ac.eval (.tmp 85) = .int .i64 ((12 + 4 * k : Nat) : Int) := hd 5 _ _ rfl rfl rfl
              have d7 : ac.eval (.tmp 87) = .int .i64 ((4 * u : Nat) : Int) := hd 7 _ _ rfl rfl rfl
              exact ⟨_, x_bin .add 3 3 (.tmp 85) (.tmp 87) rfl d5 d7 (grd3a _ _ _ _ _) (run_add3 (12 + 4 * k) (4 * u) (by omega) _), rfl⟩
            · refine opS_callUp rfl rfl (fun k wa wb h hu => gw_up HCU h hu) (facts_keep HK) fun L ac w1 hJ hl hc ho hd => ?_
              have d2 : ac.eval (.tmp 82) = .slice (some ⟨ga, go, none⟩) m c := hd 2 _ _ rfl rfl rfl
              have d8 : ac.eval (.tmp 88) = .int .i64 ((12 + 4 * k + 4 * u : Nat) : Int) := hd 8 _ _ rfl rfl rfl
              obtain ⟨k9, _, hW9⟩ := hJ
              have hUW := (gw_c hW9).1
              refine ⟨42, _, x_fcall 42 [.tmp 82, .tmp 88, .const (.int .i64 4)] _ rfl (by kernel_rfl), ?_⟩
              simp only [List.map_cons, List.map_nil, d2, d8]
              refine (rnumI (some ⟨ga, go, none⟩) m c (12 + 4 * k + 4 * u) 4 xs w1 (HIW.out.up hUW) (by omega) (by omega) (by omega) (by omega)).mono fun e w2 ⟨v, he, hv, _, hu⟩ => ⟨_, he, hu.out, ?_⟩
              rw [hv.out]; rfl
            · refine opS_same rfl rfl fun L ac w1 hJ hl hc ho hd => ?_
              have d9 : ac.eval (.tmp 89) = .int .i64 (nmA xs (12 + 4 * k + 4 * u) 4) := hd 9 _ _ rfl rfl rfl
              exact ⟨_, x_conv 3 36 (.tmp 89) rfl d9 (run_cv36 _ HN1.out _), rfl⟩
            · refine opS_grow rfl rfl (fun k wa wb h hu => gw_up HCU h hu) (facts_keep HK) fun L ac w1 hJ hl hc ho hd => ?_
              have d10 : ac.eval (.tmp 90) = .int .u32 (nmA xs (12 + 4 * k + 4 * u) 4) := hd 10 _ _ rfl rfl rfl
              obtain ⟨k1, hk1, hW⟩ := hJ.ahead (j := 0) (x := 12) rfl (reach_not hc (n := 15) (k := 12) (by kernel_rfl) hl)
              have hW := gw_lo hW hk1
              exact fine_run (.slice (some ⟨w1.heap.size, 0, none⟩) 1 1) (w1.alloc (.cells #[.int .u32 (nmA xs (12 + 4 * k + 4 * u) 4)] 36)) (x_bslice 57 1 _ rfl (by simp only [List.map_toArray, List.map_cons, List.map_nil, d10]; exact bs_dup _ w1)) (up_alloc _ _) ⟨w1.heap.size, rfl, hW.2.2.2, new_at _ _⟩
            · refine opS_writeV (j := 0) rfl (by decide) rfl (fun y hy h0 => absurd h0 (by omega)) fun ac w1 hW ho hd => ?_
              have d1 : ac.eval (.tmp 81) = .slice B1 u d1 := hd 1 _ _ rfl rfl rfl
              have d11 := hd 11 _ _ rfl rfl rfl
              have hW := gw_lo hW (by omega)
              obtain ⟨u, w2, hr, ho2, hu⟩ := app_step (ty := 57) Try.underlying57 info36 rfl (by decide) hW.2.2.1 d11 rfl (by simp [Value.oneCell']) (fun q hq => by rcases hq with hq | hq; rw [hq]; exact lt_of_blk hW.2.1; exact hW.1.2.lt hq) (by have := hW.1.1.size; omega) (by omega) (by omega)
              exact ⟨u, w2, x_append (.tmp 81) (.tmp 91) 57 57 rfl d1 rfl hr, gw_mid' ⟨⟨Below.out hW.1.1 ho2 (fun q hq => (hW.2.2.1.blk q hq).1) hW.1.1.size, hW.1.2.out ho2 (fun q hq e => (hW.2.2.1.blk q e).2 (.inr hq))⟩, ho2.blk hW.2.1 (fun e => (hW.2.2.1.blk _ e).2 (.inl rfl)), Nat.le_trans hW.2.2.2 ho2.size⟩, hu, fun j x hj hx => facts_ne HNE j x w1 w2 hj hx ho2⟩
            · refine opS_same rfl rfl fun L ac w1 hJ hl hc ho hd => ?_
              have s7 : ac.eval (.tmp 7) = .pointer (some ⟨hb, 0, none⟩) := ho 7 rfl
              exact ⟨_, x_field 59 (.tmp 7) 3 rfl s7 (fld593 _ _ _), rfl⟩
            · refine opS_write (j := 1) rfl rfl (by decide) rfl (fun y hy _ => by cases hy; rfl) fun ac w1 hW ho hd => ?_
              have d13 : ac.eval (.tmp 93) = .pointer (some ⟨hb, 3, none⟩) := hd 13 _ _ rfl rfl rfl
              have d12 := hd 12 _ _ rfl rfl rfl
              have hW := gw_mid hW
              obtain ⟨A7, c7, e7, row7⟩ := d12
              have hs := setCell_out w1 hb 3 (.slice A7 (u + 1) c7)
              exact ⟨_, x_store 57 (.tmp 93) (.tmp 92) rfl d13 e7 (run_store1 sz57 hW.2.1 (j := 3) (by simp) rfl rfl), gw_hi' ⟨A7, c7, ⟨Below.out hW.1.1 hs (fun q hq => by rw [hq]; exact HBW.out) hW.1.1.size, hW.1.2.outX hs (fun q hq => hq)⟩, (setCell_at _ hW.2.1).trans rfl, row7.outX hs (fun k hk => .inl hk)⟩, fun _ => trivial, fun j x hx => facts_kp HKh j x w1 _ hx hs⟩
          · intro L a1 w9 hI hall
            obtain ⟨j, hj, hW⟩ := hI.done hall (by simp)
            obtain ⟨j, rfl⟩ : ∃ q, j = q + 0 + 2 := ⟨j - 2, by simp at hj; omega⟩
            obtain ⟨A8, c8, hC8, hH8, hR8⟩ := gw_hi hW
            clear hj hW j HK HKh HNE
            have l0 : a1.tmps.getD 0 undef = Value.agg #[Value.int IntKind.u8 3, Value.int IntKind.u8 fl, Value.slice (some { block := ga, off := go }) m c] := hI.old 0 rfl
            have l1 : a1.tmps.getD 1 undef = Value.pointer (some { block := w.heap.size, off := 0 }) := hI.old 1 rfl
            have l2 : a1.tmps.getD 2 undef = Value.pointer (some { block := w.heap.size + 1, off := 0 }) := hI.old 2 rfl
            have l3 : a1.tmps.getD 3 undef = Value.int IntKind.i64 0 := hI.old 3 rfl
            have l4 : a1.tmps.getD 4 undef = Value.slice (some { block := ga, off := go }) m c := hI.old 4 rfl
            have l5 : a1.tmps.getD 5 undef = Value.int IntKind.i64 ↑k := hI.old 5 rfl
            have l6 : a1.tmps.getD 6 undef = Value.int IntKind.i64 ↑nd := hI.old 6 rfl
            have l7 : a1.tmps.getD 7 undef = Value.pointer (some { block := hb, off := 0 }) := hI.old 7 rfl
            have l8 : a1.tmps.getD 8 undef = Value.int IntKind.i64 ↑k := hI.old 8 rfl
            have l9 : a1.tmps.getD 9 undef = Value.int IntKind.i64 ↑u := hI.old 9 rfl
            have l10 : a1.tmps.getD 10 undef = undef := hI.old 10 rfl
            have l11 : a1.tmps.getD 11 undef = undef := hI.old 11 rfl
            have l12 : a1.tmps.getD 12 undef = Value.pointer (some { block := w.heap.size, off := 2 }) := hI.old 12 rfl
            have l13 : a1.tmps.getD 13 undef = Value.slice (some { block := ga, off := go }) m c := hI.old 13 rfl
            have l14 : a1.tmps.getD 14 undef = Value.pointer (some { block := w.heap.size, off := 0 }) := hI.old 14 rfl
            have l15 : a1.tmps.getD 15 undef = Value.int IntKind.u8 3 := hI.old 15 rfl
            have l16 : a1.tmps.getD 16 undef = Value.bool false := hI.old 16 rfl
            have l17 : a1.tmps.getD 17 undef = Value.bool false := hI.old 17 rfl
            have l18 : a1.tmps.getD 18 undef = Value.slice (some { block := ga, off := go }) m c := hI.old 18 rfl
            have l19 : a1.tmps.getD 19 undef = Value.int IntKind.i64 ↑m := hI.old 19 rfl
            have l20 : a1.tmps.getD 20 undef = Value.bool (decide ((m : Int) < (12 : Int))) := hI.old 20 rfl
            have l21 : a1.tmps.getD 21 undef = Value.bool (decide ((m : Int) < (12 : Int))) := hI.old 21 rfl
            have l22 : a1.tmps.getD 22 undef = undef := hI.old 22 rfl
            have l23 : a1.tmps.getD 23 undef = Value.slice (some { block := ga, off := go }) m c := hI.old 23 rfl
            have l24 : a1.tmps.getD 24 undef = Value.int IntKind.i64 ↑k := hI.old 24 rfl
            have l25 : a1.tmps.getD 25 undef = Value.slice (some { block := ga, off := go }) m c := hI.old 25 rfl
            have l26 : a1.tmps.getD 26 undef = Value.int IntKind.i64 ↑nd := hI.old 26 rfl
            have l27 : a1.tmps.getD 27 undef = Value.int IntKind.i64 ↑k := hI.old 27 rfl
            have l28 : a1.tmps.getD 28 undef = Value.bool false := hI.old 28 rfl
            have l29 : a1.tmps.getD 29 undef = Value.bool false := hI.old 29 rfl
            have l30 : a1.tmps.getD 30 undef = Value.int IntKind.i64 ↑nd := hI.old 30 rfl
            have l31 : a1.tmps.getD 31 undef = Value.bool false := hI.old 31 rfl
            have l32 : a1.tmps.getD 32 undef = Value.bool false := hI.old 32 rfl
            have l33 : a1.tmps.getD 33 undef = Value.bool false := hI.old 33 rfl
            have l34 : a1.tmps.getD 34 undef = Value.slice (some { block := ga, off := go }) m c := hI.old 34 rfl
            have l35 : a1.tmps.getD 35 undef = Value.int IntKind.i64 ↑m := hI.old 35 rfl
            have l36 : a1.tmps.getD 36 undef = Value.int IntKind.i64 ↑k := hI.old 36 rfl
            have l37 : a1.tmps.getD 37 undef = Value.int IntKind.i64 (4 * ↑k) := hI.old 37 rfl
            have l38 : a1.tmps.getD 38 undef = Value.int IntKind.i64 (12 + 4 * ↑k) := hI.old 38 rfl
            have l39 : a1.tmps.getD 39 undef = Value.int IntKind.i64 ↑nd := hI.old 39 rfl
            have l40 : a1.tmps.getD 40 undef = Value.int IntKind.i64 (4 * ↑nd) := hI.old 40 rfl
            have l41 : a1.tmps.getD 41 undef = Value.int IntKind.i64 (12 + 4 * ↑k + 4 * ↑nd) := hI.old 41 rfl
            have l42 : a1.tmps.getD 42 undef = Value.bool false := hI.old 42 rfl
            have l43 : a1.tmps.getD 43 undef = Value.bool false := hI.old 43 rfl
            have l44 : a1.tmps.getD 44 undef = undef := hI.old 44 rfl
            have l45 : a1.tmps.getD 45 undef = Value.slice (some { block := ga, off := go }) m c := hI.old 45 rfl
            have l46 : a1.tmps.getD 46 undef = Value.int IntKind.i64 t3 := hI.old 46 rfl
            have l47 : a1.tmps.getD 47 undef = Value.int IntKind.u32 t3 := hI.old 47 rfl
            have l48 : a1.tmps.getD 48 undef = Value.slice (some { block := ga, off := go }) m c := hI.old 48 rfl
            have l49 : a1.tmps.getD 49 undef = Value.int IntKind.i64 t4 := hI.old 49 rfl
            have l50 : a1.tmps.getD 50 undef = Value.int IntKind.u32 t4 := hI.old 50 rfl
            have l51 : a1.tmps.getD 51 undef = Value.agg #[Value.int IntKind.u32 t3, Value.int IntKind.u32 t4, Value.slice none 0 0, Value.slice none 0 0] := hI.old 51 rfl
            have l52 : a1.tmps.getD 52 undef = Value.int IntKind.i64 ↑k := hI.old 52 rfl
            have l53 : a1.tmps.getD 53 undef = Value.int IntKind.i64 ↑k := hI.old 53 rfl
            have l54 : a1.tmps.getD 54 undef = Value.bool false := hI.old 54 rfl
            have l55 : a1.tmps.getD 55 undef = u55 := hI.old 55 rfl
            have l56 : a1.tmps.getD 56 undef = u56 := hI.old 56 rfl
            have l57 : a1.tmps.getD 57 undef = u57 := hI.old 57 rfl
            have l58 : a1.tmps.getD 58 undef = u58 := hI.old 58 rfl
            have l59 : a1.tmps.getD 59 undef = u59 := hI.old 59 rfl
            have l60 : a1.tmps.getD 60 undef = u60 := hI.old 60 rfl
            have l61 : a1.tmps.getD 61 undef = u61 := hI.old 61 rfl
            have l62 : a1.tmps.getD 62 undef = u62 := hI.old 62 rfl
            have l63 : a1.tmps.getD 63 undef = u63 := hI.old 63 rfl
            have l64 : a1.tmps.getD 64 undef = u64 := hI.old 64 rfl
            have l65 : a1.tmps.getD 65 undef = u65 := hI.old 65 rfl
            have l66 : a1.tmps.getD 66 undef = u66 := hI.old 66 rfl
            have l67 : a1.tmps.getD 67 undef = u67 := hI.old 67 rfl
            have l68 : a1.tmps.getD 68 undef = u68 := hI.old 68 rfl
            have l69 : a1.tmps.getD 69 undef = u69 := hI.old 69 rfl
            have l70 : a1.tmps.getD 70 undef = u70 := hI.old 70 rfl
            have l71 : a1.tmps.getD 71 undef = u71 := hI.old 71 rfl
            have l72 : a1.tmps.getD 72 undef = u72 := hI.old 72 rfl
            have l73 : a1.tmps.getD 73 undef = u73 := hI.old 73 rfl
            have l74 : a1.tmps.getD 74 undef = u74 := hI.old 74 rfl
            have l75 : a1.tmps.getD 75 undef = Value.int IntKind.i64 ↑u := hI.old 75 rfl
            have l76 : a1.tmps.getD 76 undef = Value.int IntKind.i64 ↑nd := hI.old 76 rfl
            have l77 : a1.tmps.getD 77 undef = Value.bool true := hI.old 77 rfl
            have l94 : a1.tmps.getD 94 undef = undef := hI.old 94 rfl
            have l95 : a1.tmps.getD 95 undef = undef := hI.old 95 rfl
            have l96 : a1.tmps.getD 96 undef = undef := hI.old 96 rfl
            have l97 : a1.tmps.getD 97 undef = undef := hI.old 97 rfl
            have l98 : a1.tmps.getD 98 undef = undef := hI.old 98 rfl
            have l99 : a1.tmps.getD 99 undef = undef := hI.old 99 rfl
            have l100 : a1.tmps.getD 100 undef = undef := hI.old 100 rfl
            have l101 : a1.tmps.getD 101 undef = undef := hI.old 101 rfl
            have l102 : a1.tmps.getD 102 undef = undef := hI.old 102 rfl
            have l103 : a1.tmps.getD 103 undef = undef := hI.old 103 rfl
            have l104 : a1.tmps.getD 104 undef = undef := hI.old 104 rfl
            have l105 : a1.tmps.getD 105 undef = undef := hI.old 105 rfl
            have l106 : a1.tmps.getD 106 undef = undef := hI.old 106 rfl
            have l107 : a1.tmps.getD 107 undef = undef := hI.old 107 rfl
            have l108 : a1.tmps.getD 108 undef = undef := hI.old 108 rfl
            have hde : a1.defers = [] := hI.defers
            have hal := act_lit a1 109 hI.size
            clear hI
            simp only [List.range, List.range.loop, List.map_cons, List.map_nil] at hal
            rw [l0, l1, l2, l3, l4, l5, l6, l7, l8, l9, l10, l11, l12, l13, l14, l15, l16, l17, l18, l19, l20, l21, l22, l23, l24, l25, l26, l27, l28, l29, l30, l31, l32, l33, l34, l35, l36, l37, l38, l39, l40, l41, l42, l43, l44, l45, l46, l47, l48, l49, l50, l51, l52, l53, l54, l55, l56, l57, l58, l59, l60, l61, l62, l63, l64, l65, l66, l67, l68, l69, l70, l71, l72, l73, l74, l75, l76, l77, l94, l95, l96, l97, l98, l99, l100, l101, l102, l103, l104, l105, l106, l107, l108, hde] at hal
            generalize a1.tmps.getD 78 undef = tm78 at hal
            generalize a1.tmps.getD 79 undef = tm79 at hal
            generalize a1.tmps.getD 80 undef = tm80 at hal
            generalize a1.tmps.getD 81 undef = tm81 at hal
            generalize a1.tmps.getD 82 undef = tm82 at hal
            generalize a1.tmps.getD 83 undef = tm83 at hal
            generalize a1.tmps.getD 84 undef = tm84 at hal
            generalize a1.tmps.getD 85 undef = tm85 at hal
            generalize a1.tmps.getD 86 undef = tm86 at hal
            generalize a1.tmps.getD 87 undef = tm87 at hal
            generalize a1.tmps.getD 88 undef = tm88 at hal
            generalize a1.tmps.getD 89 undef = tm89 at hal
            generalize a1.tmps.getD 90 undef = tm90 at hal
            generalize a1.tmps.getD 91 undef = tm91 at hal
            generalize a1.tmps.getD 92 undef = tm92 at hal
            generalize a1.tmps.getD 93 undef = tm93 at hal
            clear l0 l1 l2 l3 l4 l5 l6 l7 l8 l9 l10 l11 l12 l13 l14 l15 l16 l17 l18 l19 l20 l21 l22 l23 l24 l25 l26 l27 l28 l29 l30 l31 l32 l33 l34 l35 l36 l37 l38 l39 l40 l41 l42 l43 l44 l45 l46 l47 l48 l49 l50 l51 l52 l53 l54 l55 l56 l57 l58 l59 l60 l61 l62 l63 l64 l65 l66 l67 l68 l69 l70 l71 l72 l73 l74 l75 l76 l77 l94 l95 l96 l97 l98 l99 l100 l101 l102 l103 l104 l105 l106 l107 l108 hde
            subst hal
            have HC8 := Lib.hid hC8.1
            have HG8 := Lib.hid hC8.2
            have HH8 := Lib.hid hH8
            have HR8 := Lib.hid (show Row W.heap.size (fun q => q = hb ∨ blk? A1 = some q) 36 1 w9 A8 (u + 1) c8 (ints .u32 (dupsN xs (12 + 4 * k) (u + 1))) by rw [dupsN_step]; simpa [ints] using hR8)
            clear hC8 hH8 hR8 HCU
            go_wp2_with fail
            go_roundw
            case rel => exact ⟨u + 1, A8, c8, by omega, by go_num, HC8, HH8, HG8, HR8⟩
            case measure => simp [intOf]; omega
        · obtain rfl : u = nd := by omega
          have HGI := Lib.hid (show InG wr A1 k c1 (gapsN xs k) from ⟨row_cells hRg.out.own, HGO.out, row_cap hRg.out.own, gapsN_len _ _⟩)
          have HDI := Lib.hid (show InD wr B1 u d1 (dupsN xs (12 + 4 * k) u) from ⟨row_cells hR.out.own, HDO.out, row_cap hR.out.own, dupsN_len _ _ _⟩)
          obtain ⟨hh, hhh⟩ : ∃ hh : Ck.Hrd, hh = hrN xs k u := ⟨_, rfl⟩
          have HHE := Lib.hid (show hh = ⟨t3, t4, gapsN xs k, dupsN xs (12 + 4 * k) u⟩ by rw [hhh, HRD.out])
          rw [← hhh] at HONLY HOKH
          have HGI' := Lib.hid (show InG wr A1 k c1 hh.gaps by rw [HHE.out]; exact HGI.out)
          have HDI' := Lib.hid (show InD wr B1 u d1 hh.dups by rw [HHE.out]; exact HDI.out)
          have e3 : t3 = hh.cum := by rw [HHE.out]
          have e4 : t4 = hh.win := by rw [HHE.out]
          have HHB := Lib.hid (show wr.heap[hb]? = some (.cells #[.int .u32 hh.cum, .int .u32 hh.win, .slice A1 k c1, .slice B1 u d1] 59 (0, 0)) by rw [hH.out, e3, e4])
          have HGQ := Lib.hid (show hh.gaps = gapsN xs k by rw [HHE.out])
          have HDQ := Lib.hid (show hh.dups = dupsN xs (12 + 4 * k) u by rw [HHE.out])
          clear hhh e3 e4 HGI HDI hH
          have m0 := cell_of HHB.out (j := 0) rfl
          have m1 := cell_of HHB.out (j := 1) rfl
          have m2 := cell_of HHB.out (j := 2) rfl
          have m3 := cell_of HHB.out (j := 3) rfl
          have HSQ := Lib.hid HS.out
          have NOX := Lib.hid (show ∀ (h' : Ck.Hrd), HeardOK 3 fl xs h' → h' = hh from fun h' hp => (HONLY.out h' hp).2)
          by_cases hk0 : Ck.chkD hh = 0
          · have HK := Lib.hid hk0
            clear hk0
            go_wp2_with fail
            refine (rfromD_ok hh A1 B1 k c1 u d1 wr HGI'.out HDI'.out HK.out HOKH.out).mono ?_
            rintro e y1 ⟨A9, N9, c9, rfl, hN9, hO9, hu9⟩
            have Y1 := Lib.hid (hG.out.trans hu9.out)
            have HB1 := Lib.hid ((hu9.out.block _ (lt_of_blk HHB.out)).trans HHB.out)
            have R1 := Lib.hid (hRg.out.up hu9.out)
            have S1 := Lib.hid (hR.out.up hu9.out)
            clear m0 m1 m2 m3 hG HHB hRg hR HGI' HDI'
            unfold chV
            go_upto_region 18 with (fail)
            have hal := up_alloc y1 (.cells #[.int .u8 3, .int .u8 0, .slice A9 N9 c9] 41)
            have Y2 := Lib.hid (Y1.out.trans hal)
            have HB2 := Lib.hid ((hal.block _ (lt_of_blk HB1.out)).trans HB1.out)
            have HX2 := Lib.hid (new_at y1 (.cells #[.int .u8 3, .int .u8 0, .slice A9 N9 c9] 41))
            have HO2 := Lib.hid (own_inB (own_up hO9.out hal) (byt_encD hh))
            have R2 := Lib.hid (R1.out.up hal)
            have S2 := Lib.hid (S1.out.up hal)
            clear hal
            generalize y1.alloc (.cells #[.int .u8 3, .int .u8 0, .slice A9 N9 c9] 41) = y2 at Y2 HB2 HX2 HO2 R2 S2 ⊢
            generalize y1.heap.size = xb at HX2 ⊢
            have x0 := cell_of HX2.out (j := 0) rfl
            have x1 := cell_of HX2.out (j := 1) rfl
            have x2 := cell_of HX2.out (j := 2) rfl
            have HC2 := Lib.hid ((Y2.out.block _ (lt_of_blk HB.out)).trans HB.out)
            have p0 := cell_of HC2.out (j := 0) rfl
            have p1 := cell_of HC2.out (j := 1) rfl
            have p2 := cell_of HC2.out (j := 2) rfl
            clear hO9 hu9 Y1 HB1 R1 S1 hN9
            go_wp2_with fail
            refine (sameC ⟨3, 0, encD hh⟩ ⟨3, fl, xs⟩ A9 _ N9 m c9 c y2 HO2.out (HIW.out.up Y2.out)).mono ?_
            rintro e y3 ⟨rfl, hu3⟩
            have Y3 := Lib.hid (Y2.out.trans hu3.out)
            have HB3 := Lib.hid ((hu3.out.block _ (lt_of_blk HB2.out)).trans HB2.out)
            have R3 := Lib.hid (R2.out.up hu3.out)
            have S3 := Lib.hid (S2.out.up hu3.out)
            have HQY := Lib.hid ((Y3.out.block _ (lt_of_blk HQ.out)).trans HQ.out)
            have HUY := Lib.hid (HU.out.trans Y3.out)
            clear x0 x1 x2 p0 p1 p2 Y2 HB2 HX2 HO2 R2 S2 HC2 hu3
            have e0 := cell_of HQY.out (j := 0) rfl
            have f0 := frozen_at (j := 0) HQY.out
            have e1 := cell_of HQY.out (j := 1) rfl
            have f1 := frozen_at (j := 1) HQY.out
            have e2 := cell_of HQY.out (j := 2) rfl
            have f2 := frozen_at (j := 2) HQY.out
            have e3 := cell_of HQY.out (j := 3) rfl
            have f3 := frozen_at (j := 3) HQY.out
            by_cases hsm : (⟨3, 0, encD hh⟩ : Ck.Chk) = ⟨3, fl, xs⟩
            · have HSM := Lib.hid hsm
              rw [decide_eq_true hsm]
              clear hsm
              have m0 := cell_of HB3.out (j := 0) rfl
              have m1 := cell_of HB3.out (j := 1) rfl
              have m2 := cell_of HB3.out (j := 2) rfl
              have m3 := cell_of HB3.out (j := 3) rfl
              go_wp2_with fail
              have hs := set4 (a := .int .u32 hh.cum) (b := .int .u32 hh.win) (c := .slice A1 k c1) (d := .slice B1 u d1) HQY.out rfl
              have TX := R3.out.out hs.2 (fun q hq e => by have h1 := (R3.out.blk q hq).1; have h2 := HS.out; have e2 : q = w.heap.size + 1 := e; omega)
              have TY := S3.out.out hs.2 (fun q hq e => by have h1 := (S3.out.blk q hq).1; have h2 := HS.out; have e2 : q = w.heap.size + 1 := e; omega)
              have HF := HSM.out
              injection HF with q1 q2 q3
              exact bodyPost_ret (results_row_tmp (fn := Try.f32) (p := 2) (u := 3) (ty := 59) rfl _ _ (w.heap.size + 1) 59 _ (0, 0) _ rfl hs.1 Try.underlying59 rfl rfl) rfl ⟨hh, 0, A1, k, c1, B1, u, d1, rfl, Lib.hid (.inl ⟨rfl, rfl, q2.symm, HK.out, HOKH.out, q3.symm⟩), Lib.hid ⟨by rw [HGQ.out]; exact row_cells TX.own, by rw [HGQ.out]; exact HGO.out, row_cap TX.own, by rw [HGQ.out]; exact gapsN_len _ _⟩, Lib.hid ⟨by rw [HDQ.out]; exact row_cells TY.own, by rw [HDQ.out]; exact HDO.out, row_cap TY.own, by rw [HDQ.out]; exact dupsN_len _ _ _⟩, HOKH, Lib.hid ⟨fun q hq => by have := (TX.blk q hq).1; have := HS.out; omega, fun q hq => by have := (TY.blk q hq).1; have := HS.out; omega⟩, Lib.hid (Below.out HUY.out hs.2 (fun k hk => by rw [hk]; omega) HUY.out.size)⟩
            · have HSM := Lib.hid hsm
              rw [decide_eq_false hsm]
              clear hsm
              go_wp2_with fail
              have hs := set4 (a := .int .u32 0) (b := .int .u32 0) (c := .slice none 0 0) (d := .slice none 0 0) HQY.out rfl
              refine bodyPost_ret (results_row_tmp (fn := Try.f32) (p := 2) (u := 3) (ty := 59) rfl _ _ (w.heap.size + 1) 59 _ (0, 0) _ rfl hs.1 Try.underlying59 rfl rfl) rfl (DNo.post ⟨rfl, Lib.hid (Below.out HUY.out hs.2 (fun k hk => by rw [hk]; omega) HUY.out.size)⟩ (fun h' hp => HSM.out (by have h1 := NOX.out h' hp; have h2 := hp.2.2.2.2; rw [h1] at h2; rw [← h2, hp.2.1])))
          · have hkv := (chkD_val hh).resolve_left hk0
            have hkb : (Ck.chkD hh != 0) = true := by simp [hk0]
            have HK := Lib.hid hk0
            clear hk0
            go_wp2_with fail
            refine (rfromD_err hh A1 B1 k c1 u d1 (Ck.chkD hh) wr HGI'.out (by omega) HDI'.out.len.symm (by omega) rfl hkv).mono ?_
            rintro e y1 ⟨rfl, hu9⟩
            have Y1 := Lib.hid (hG.out.trans hu9.out)
            clear m0 m1 m2 m3 hG HHB hRg hR HGI' HDI' hkv
            have HNOK := Lib.hid (show ∀ h', ¬ HeardOK 3 fl xs h' from fun h' hp => HK.out (by have h1 := NOX.out h' hp; rw [← h1]; exact hp.2.2.1))
            clear HK
            generalize Ck.chkD hh = kk at hkb ⊢
            have Y2 := Lib.hid (Y1.out.trans (up_alloc y1 (.cells #[.int .u8 0, .int .u8 0, .slice none 0 0] 41)))
            unfold chV
            go_upto_region 18 with (fail)
            generalize y1.alloc (.cells #[.int .u8 0, .int .u8 0, .slice none 0 0] 41) = y2 at Y2 ⊢
            have HQY := Lib.hid ((Y2.out.block _ (lt_of_blk HQ.out)).trans HQ.out)
            have HUY := Lib.hid (HU.out.trans Y2.out)
            have e0 := cell_of HQY.out (j := 0) rfl
            have f0 := frozen_at (j := 0) HQY.out
            have e1 := cell_of HQY.out (j := 1) rfl
            have f1 := frozen_at (j := 1) HQY.out
            have e2 := cell_of HQY.out (j := 2) rfl
            have f2 := frozen_at (j := 2) HQY.out
            have e3 := cell_of HQY.out (j := 3) rfl
            have f3 := frozen_at (j := 3) HQY.out
            go_wp2_with fail
            have hs := set4 (a := .int .u32 0) (b := .int .u32 0) (c := .slice none 0 0) (d := .slice none 0 0) HQY.out rfl
            refine bodyPost_ret (results_row_tmp (fn := Try.f32) (p := 2) (u := 3) (ty := 59) rfl _ _ (w.heap.size + 1) 59 _ (0, 0) _ rfl hs.1 Try.underlying59 rfl rfl) rfl (DNo.post ⟨rfl, Lib.hid (Below.out HUY.out hs.2 (fun k hk => by rw [hk]; omega) HUY.out.size)⟩ HNOK.out)
theorem rtoD_any (A : Option Addr) (m c : Nat) (ty fl : Int) (xs : List Int) (w : World) (hin : InB w A m c xs) (hm : m ≤ 140737488351232) : Calls Try.prog 32 #[chV ty fl (.slice A m c)] w (ToDPost ty fl xs w) := by
  by_cases h3 : ty = 3
  · subst h3
    by_cases h12 : m < 12
    · exact (rtoD_e2 A m c fl w h12).mono fun e w' h => h.post fun h' ho => by have := (rD_f ho).2.1; rw [hin.len] at this; omega
    · exact rtoD_main A m c fl xs w hin hm (by omega)
  · exact (rtoD_e1 A m c ty fl w (by simpa using h3)).mono fun e w' h => h.post fun h' ho => h3 ho.1
end Go.Proofs.Ytgikgcepeniekaa
