import Derived.Test.YtfbjhialjepodaaNtL5a
namespace Go.Proofs.Ytfbjhialjepodaa
open Go Go.RowKit
set_option linter.unusedVariables false
section
variable {IsN : (Nat → Prop) → World → Addr → Nt.St → Prop}
theorem info5n : (Try.prog.info? 5).map (fun i => (i.zero, i.size, i.bytes)) = some (some (.int .u8 0), 1, 1) := by kernel_rfl
def NinW (bb bo : Nat) (b0 : Int) : Nat → World → Prop | 0, w => w.cell? ⟨bb, bo, none⟩ = some (.int .u8 b0) ∧ w.frozen? ⟨bb, bo, none⟩ = false | _ + 1, _ => True
set_option maxRecDepth 100000 in
set_option maxHeartbeats 2000000 in
theorem law_netapart (C : NC IsN) (D : NCnil) (B0 : Option Addr) (len0 cap0 : Nat) (bs : List Int) (bits : Int) (w : World) (h0 : InB w B0 len0 cap0 bs) (r0 : len0 ≤ 140737488351232) (hbits : 0 ≤ bits ∧ bits < 256) :
    Calls Try.prog 7 #[.slice B0 len0 cap0, .int .u8 bits] w (True2 w) := by
  have HA := Lib.hid (answers_n C)
  have HC := Lib.hid C
  have HD := Lib.hid D
  have HB := Lib.hid h0
  have HBITS := Lib.hid hbits
  clear C D h0 hbits
  by_cases hlen : len0 = 0 ∨ 4096 < len0
  · go_enter Try.func7, Try.ntmps7
    go_wp2_with fail
    refine (HC.out.new 2 _ (by omega) (by omega)).mono ?_
    rintro e w1 ⟨p, S, rfl, h1, hf, hu⟩
    have U := Lib.hid hu
    clear h1 hf hu
    go_wp2_with fail
    refine (HA.out _).mono ?_
    rintro e w2 ⟨rfl, hu2⟩
    have U2 := Lib.hid (U.out.trans hu2)
    clear hu2
    rcases hlen with rfl | hlen
    · go_wp2_with fail
      refine (HA.out _).mono ?_
      rintro e w3 ⟨rfl, hu3⟩
      have U3 := Lib.hid (U2.out.trans hu3)
      clear hu3
      go_wp2_with fail
      go_ret
      exact ⟨rfl, U3.out⟩
    · have hl : (4096 : Int) < len0 := by omega
      go_wp2_with fail
      refine (HA.out _).mono ?_
      rintro e w3 ⟨rfl, hu3⟩
      have U3 := Lib.hid (U2.out.trans hu3)
      clear hu3
      go_wp2_with fail
      go_ret
      exact ⟨rfl, U3.out⟩
  · have hl1 : (len0 : Int) ≤ 4096 := by omega
    have hl2 : (0 : Int) < len0 := by omega
    have hl3 : ((len0 : Int) == 0) = false := by rw [beq_eq_false_iff_ne]; omega
    have hl4 : len0 ≤ 4096 := by omega
    clear hlen
    go_enter Try.func7, Try.ntmps7
    go_wp2_with fail
    refine (HC.out.new 2 _ (by omega) (by omega)).mono ?_
    rintro e w1 ⟨p, S, rfl, h1, hf, hu⟩
    have I1 := Lib.hid h1
    have F := Lib.hid hf
    have U := Lib.hid hu
    clear h1 hf hu
    go_wp2_with fail
    refine (HA.out _).mono ?_
    rintro e w2 ⟨rfl, hu2⟩
    have I2 := Lib.hid (HC.out.up I1.out hu2)
    have U2 := Lib.hid (U.out.trans hu2)
    have LT := Lib.hid (HC.out.lt I2.out)
    clear hu2 I1 U
    go_wp2_with (at_builtin; refine wpList_appendI rfl (.tmp 40) (.tmp 41) 38 rfl .u8 w2.heap.size 5 1 Try.underlying38 info5n (some ⟨w2.heap.size, 0, none⟩) 0 0 [] rfl (ownI_new _ _ _) B0 len0 cap0 bs rfl HB.out.len ((HB.out.up U2.out).cells.alloc _) (by omega) (by omega) (by simp) ((Below.refl _ _).alloc (Nat.le_refl _) _) ?_; intro A3 N3 c3 w3 HN3 HW3 HU3 hsz3)
    have hN : N3 = len0 := by have := HN3.out; omega
    subst hN
    have hbl := HB.out.len
    obtain ⟨g3, rfl, hg1, hg2⟩ := HW3.out.at_ (by omega)
    have F2 := Lib.hid F.out
    have hg3S : ¬ S g3 := fun hs => by have := LT.out g3 hs; omega
    have I3 := Lib.hid (HC.out.keep I2.out (fun k hk => HU3.out.block k (LT.out k hk)))
    have U3 := Lib.hid (U2.out.trans (HU3.out.mono (Nat.le_refl _)))
    have hgw : w.heap.size ≤ g3 := Nat.le_trans U2.out.size hg1
    refine (HC.out.send S p _ (0, 0) (1, 0) (some ⟨g3, 0, none⟩) N3 c3 bs _ I3.out (own_inB HW3.out HB.out.byt) (fun b hb hs => by simp [blk?] at hb; subst hb; exact hg3S hs) (by unfold I64n; simp) (by unfold I64n; simp) (by unfold I64n; simp) (by unfold I64n; simp) r0).mono ?_
    rw [ap_sendE (by omega), ap_sendS (by omega)]
    rintro e w4 ⟨S4, rfl, h4, hs4, ho4⟩
    have I4 := Lib.hid h4
    have F4 := Lib.hid (F2.out.sub hs4 U3.out.size)
    have U4 := Lib.hid (Below.out U3.out ho4 F2.out U3.out.size)
    have hg4 : ¬ S4 g3 := Out.not hs4 hg3S hg2
    have R4 := Lib.hid (show OwnI .u8 5 w2.heap.size w4 (some ⟨g3, 0, none⟩) N3 c3 ([] ++ bs) from ho4.own HW3.out (fun g hg hs => by injection hg with hg; subst hg; exact hg3S hs))
    obtain ⟨b0, hb0⟩ : ∃ b0, bs[0]? = some b0 := ⟨bs[0]'(by omega), by simp⟩
    have k0 := OwnI.cellAt R4.out (j := 0) (show ([] ++ bs)[0]? = some b0 from hb0)
    have f0 := OwnI.frozenAt R4.out 0
    have hbb : 0 ≤ b0 ∧ b0 < 256 := HB.out.byt b0 (List.mem_of_getElem? hb0)
    have LT4 := Lib.hid (HC.out.lt I4.out)
    clear h4 hs4 ho4 I3 I2 U2 U3 HW3 HU3 HN3 hsz3 hg1 hg2 hg3S LT F F2
    go_wp2_with fail
    have ho5 := setCell_out w4 g3 0 (.int .u8 ((b0 + 1) % 256))
    have I5 := Lib.hid (HC.out.keep I4.out (fun k hk => ho5.block k (LT4.out k hk) (fun e => hg4 (by rw [← e]; exact hk))))
    have U5 := Lib.hid (Below.out U4.out ho5 (fun k hk => by rw [hk]; exact hgw) U4.out.size)
    have hs5 : w.heap.size ≤ (w4.setCell ⟨g3, 0, none⟩ (.int .u8 ((b0 + 1) % 256))).heap.size := Nat.le_trans U4.out.size ho5.size
    generalize (w4.setCell ⟨g3, 0, none⟩ (.int .u8 ((b0 + 1) % 256))) = w5 at I5 U5 hs5 ⊢
    clear k0 f0 R4 I4 U4 LT4 ho5
    refine (HC.out.twin S4 p _ 0 _ I5.out (by unfold I64n; omega)).mono ?_
    rw [(ap_twin bs).1, (ap_twin bs).2]
    rintro e w6 ⟨S6, rfl, h6, hs6, ho6⟩
    have I6 := Lib.hid h6
    have F6 := Lib.hid (F4.out.sub hs6 hs5)
    have U6 := Lib.hid (Below.out U5.out ho6 F4.out hs5)
    clear h6 hs6 ho6 I5 U5 F4 hs5 hg4
    go_wp2_with fail
    refine (HC.out.list S6 p _ _ I6.out).mono ?_
    rintro e w8 ⟨S8, lA, lc, rfl, hfr, h8, hs8, ho8⟩
    have I8 := Lib.hid h8
    have F8 := Lib.hid (F6.out.sub hs8 U6.out.size)
    have U8 := Lib.hid (Below.out U6.out ho8 F6.out U6.out.size)
    obtain ⟨lg, lo, bA, bc, rfl, ⟨_, _, _, _, ks, _⟩, hin, hlS, hblk⟩ := hfr 0 (by simp [apS])
    have hin : InB w8 bA bs.length bc bs := hin
    have ks : w8.cell? ⟨lg, lo + 4, none⟩ = some (.slice bA bs.length bc) := by have := ks; rwa [Nat.zero_mul, Nat.add_zero] at this
    rw [hbl] at ks hin
    obtain ⟨bb, bo, rfl, hbl2, hbc⟩ := hin.cells (by intro e; have := ints_length .u8 bs; rw [e] at this; simp at this; omega)
    obtain ⟨q1, q2, q3, q4⟩ := hblk bb rfl
    have hlb : lg ≠ bb := fun e => q3 e.symm
    have kb : w8.cell? ⟨bb, bo, none⟩ = some (.int .u8 b0) := hbc 0 _ (by simp [ints, hb0])
    have hbw : w.heap.size ≤ bb := Nat.le_trans U6.out.size q1
    have hq4 := q4 bo
    have LT8 := Lib.hid (HC.out.lt I8.out)
    have q2' : ¬ S8 bb := q2
    have hn0 : 0 < N3 := by omega
    have e2 : (apS [apF bs, apF bs]).way.length = 2 := rfl
    rw [e2]
    clear h8 hs8 ho8 hfr hin hlS hblk q1 q2 q3 q4 hbc hbl2 I6 F6 U6 e2
    go_upto_region 9 with (fail)
    refine staged_lit (by kernel_rfl) (facts [Is (.slice (some ⟨lg, lo, none⟩) 2 lc), Is (.pointer (some ⟨lg, lo, none⟩)), Is (.pointer (some ⟨lg, lo + 4, none⟩)), Is (.slice (some ⟨bb, bo, none⟩) N3 bc), Is (.slice (some ⟨lg, lo, none⟩) 2 lc), Is (.pointer (some ⟨lg, lo, none⟩)), Is (.pointer (some ⟨lg, lo + 4, none⟩)), Is (.slice (some ⟨bb, bo, none⟩) N3 bc), Is (.pointer (some ⟨bb, bo, none⟩)), Is (.int .u8 b0), Is (.int .u8 ((b0 + 2) % 256)), Is (.pointer (some ⟨bb, bo, none⟩)), Tru]) (Stg [12] (fun k w1 => Out (fun k => k = bb) w8 w1 ∧ NinW bb bo b0 k w1)) 162 rfl (by decide +kernel) (by decide +kernel) (Stg.start ⟨(Up.drew w8).out _, kb, hq4⟩) ?_ ?_
    · refine ⟨?_, ?_, ?_, ?_, ?_, ?_, ?_, ?_, ?_, ?_, ?_, ?_, ?_, trivial⟩
      · refine opS_same rfl rfl fun L ac w1 hJ hl hc ho hd => ?_
        have s8 : ac.eval (.tmp 8) = .slice (some ⟨lg, lo, none⟩) 2 lc := ho 8 rfl
        exact ⟨_, x_move (.tmp 8) rfl s8, rfl⟩
      · refine opS_same rfl rfl fun L ac w1 hJ hl hc ho hd => ?_
        have d0 : ac.eval (.tmp 58) = .slice (some ⟨lg, lo, none⟩) 2 lc := hd 0 _ _ rfl rfl rfl
        exact ⟨_, x_index 29 (.tmp 58) (.const (.int .i64 0)) rfl d0 rfl (idx29 lg lo lc w1), rfl⟩
      · refine opS_same rfl rfl fun L ac w1 hJ hl hc ho hd => ?_
        have d1 : ac.eval (.tmp 59) = .pointer (some ⟨lg, lo, none⟩) := hd 1 _ _ rfl rfl rfl
        exact ⟨_, x_field 46 (.tmp 59) 2 rfl d1 (fld462 _ _ _), rfl⟩
      · refine opS_same rfl rfl fun L ac w1 hJ hl hc ho hd => ?_
        have d2 : ac.eval (.tmp 60) = .pointer (some ⟨lg, lo + 4, none⟩) := hd 2 _ _ rfl rfl rfl
        obtain ⟨_, _, hW⟩ := hJ
        exact ⟨_, x_load 38 (.tmp 60) rfl d2 (run_load1 agg38 (cell_out ks hW.1 hlb)), rfl⟩
      · refine opS_same rfl rfl fun L ac w1 hJ hl hc ho hd => ?_
        have s8 : ac.eval (.tmp 8) = .slice (some ⟨lg, lo, none⟩) 2 lc := ho 8 rfl
        exact ⟨_, x_move (.tmp 8) rfl s8, rfl⟩
      · refine opS_same rfl rfl fun L ac w1 hJ hl hc ho hd => ?_
        have d4 : ac.eval (.tmp 62) = .slice (some ⟨lg, lo, none⟩) 2 lc := hd 4 _ _ rfl rfl rfl
        exact ⟨_, x_index 29 (.tmp 62) (.const (.int .i64 0)) rfl d4 rfl (idx29 lg lo lc w1), rfl⟩
      · refine opS_same rfl rfl fun L ac w1 hJ hl hc ho hd => ?_
        have d5 : ac.eval (.tmp 63) = .pointer (some ⟨lg, lo, none⟩) := hd 5 _ _ rfl rfl rfl
        exact ⟨_, x_field 46 (.tmp 63) 2 rfl d5 (fld462 _ _ _), rfl⟩
      · refine opS_same rfl rfl fun L ac w1 hJ hl hc ho hd => ?_
        have d6 : ac.eval (.tmp 64) = .pointer (some ⟨lg, lo + 4, none⟩) := hd 6 _ _ rfl rfl rfl
        obtain ⟨_, _, hW⟩ := hJ
        exact ⟨_, x_load 38 (.tmp 64) rfl d6 (run_load1 agg38 (cell_out ks hW.1 hlb)), rfl⟩
      · refine opS_same rfl rfl fun L ac w1 hJ hl hc ho hd => ?_
        have d7 : ac.eval (.tmp 65) = .slice (some ⟨bb, bo, none⟩) N3 bc := hd 7 _ _ rfl rfl rfl
        exact ⟨_, x_index 38 (.tmp 65) (.const (.int .i64 0)) rfl d7 rfl (idx38 hn0 w1), rfl⟩
      · refine opS_same rfl rfl fun L ac w1 hJ hl hc ho hd => ?_
        have d8 : ac.eval (.tmp 66) = .pointer (some ⟨bb, bo, none⟩) := hd 8 _ _ rfl rfl rfl
        have hW := hJ.first (reach_not hc (n := 40) (k := 12) (by kernel_rfl) hl)
        exact ⟨_, x_load 5 (.tmp 66) rfl d8 (run_load1 agg5 hW.2.1), rfl⟩
      · refine opS_same rfl rfl fun L ac w1 hJ hl hc ho hd => ?_
        have d9 : ac.eval (.tmp 67) = .int .u8 b0 := hd 9 _ _ rfl rfl rfl
        exact ⟨_, x_bin .add 5 5 (.tmp 67) (.const (.int .u8 2)) (Y := .int .u8 2) rfl d9 rfl rfl (add8 b0 w1), rfl⟩
      · refine opS_same rfl rfl fun L ac w1 hJ hl hc ho hd => ?_
        have d3 : ac.eval (.tmp 61) = .slice (some ⟨bb, bo, none⟩) N3 bc := hd 3 _ _ rfl rfl rfl
        exact ⟨_, x_index 38 (.tmp 61) (.const (.int .i64 0)) rfl d3 rfl (idx38 hn0 w1), rfl⟩
      · refine opS_write (j := 0) rfl rfl (by decide) rfl (fun _ _ h => absurd h (by omega)) fun ac w1 hW ho hd => ?_
        have d11 : ac.eval (.tmp 69) = .pointer (some ⟨bb, bo, none⟩) := hd 11 _ _ rfl rfl rfl
        have d10 : ac.eval (.tmp 68) = .int .u8 ((b0 + 2) % 256) := hd 10 _ _ rfl rfl rfl
        exact ⟨_, x_store 5 (.tmp 69) (.tmp 68) rfl d11 d10 (run_store1c siz5 (by rw [hW.2.1]; rfl) hW.2.2 rfl rfl), ⟨hW.1.trans (setCell_out _ _ _ _) (Sub.refl _ _), trivial⟩, fun _ => trivial, fun q v => facts_free (by simp [free_is, free_tru]) q v⟩
    · intro L a1 w9 hI hall
      obtain ⟨k, hk, hW1, -⟩ := hI.done hall (by simp)
      have I9 := Lib.hid (HC.out.keep I8.out (fun k hk => hW1.block k (LT8.out k hk) (fun e => q2' (by rw [← e]; exact hk))))
      have U9 := Lib.hid (Below.out U8.out hW1 (fun k hk => by rw [hk]; exact hbw) U8.out.size)
      clear hk hW1 ks kb hq4 hlb q2' I8 U8 LT8 k
      have l0 : a1.tmps.getD 0 undef = .slice B0 N3 cap0 := hI.old 0 rfl
      have l1 : a1.tmps.getD 1 undef = .int .u8 bits := hI.old 1 rfl
      have l5 : a1.tmps.getD 5 undef = .pointer (some p) := hI.old 5 rfl
      have l4 : a1.tmps.getD 4 undef = .bool false := hI.old 4 rfl
      have hde : a1.defers = [] := hI.defers
      have hal := act_lit a1 162 hI.size
      clear hI
      simp only [List.range, List.range.loop, List.map_cons, List.map_nil] at hal
      rw [l0, l1, l5, l4, hde] at hal
      generalize a1.tmps.getD 2 undef = t2 at hal
      generalize a1.tmps.getD 3 undef = t3 at hal
      generalize a1.tmps.getD 6 undef = t6 at hal
      generalize a1.tmps.getD 7 undef = t7 at hal
      generalize a1.tmps.getD 8 undef = t8 at hal
      generalize a1.tmps.getD 9 undef = t9 at hal
      generalize a1.tmps.getD 10 undef = t10 at hal
      generalize a1.tmps.getD 11 undef = t11 at hal
      generalize a1.tmps.getD 12 undef = t12 at hal
      generalize a1.tmps.getD 13 undef = t13 at hal
      generalize a1.tmps.getD 14 undef = t14 at hal
      generalize a1.tmps.getD 15 undef = t15 at hal
      generalize a1.tmps.getD 16 undef = t16 at hal
      generalize a1.tmps.getD 17 undef = t17 at hal
      generalize a1.tmps.getD 18 undef = t18 at hal
      generalize a1.tmps.getD 19 undef = t19 at hal
      generalize a1.tmps.getD 20 undef = t20 at hal
      generalize a1.tmps.getD 21 undef = t21 at hal
      generalize a1.tmps.getD 22 undef = t22 at hal
      generalize a1.tmps.getD 23 undef = t23 at hal
      generalize a1.tmps.getD 24 undef = t24 at hal
      generalize a1.tmps.getD 25 undef = t25 at hal
      generalize a1.tmps.getD 26 undef = t26 at hal
      generalize a1.tmps.getD 27 undef = t27 at hal
      generalize a1.tmps.getD 28 undef = t28 at hal
      generalize a1.tmps.getD 29 undef = t29 at hal
      generalize a1.tmps.getD 30 undef = t30 at hal
      generalize a1.tmps.getD 31 undef = t31 at hal
      generalize a1.tmps.getD 32 undef = t32 at hal
      generalize a1.tmps.getD 33 undef = t33 at hal
      generalize a1.tmps.getD 34 undef = t34 at hal
      generalize a1.tmps.getD 35 undef = t35 at hal
      generalize a1.tmps.getD 36 undef = t36 at hal
      generalize a1.tmps.getD 37 undef = t37 at hal
      generalize a1.tmps.getD 38 undef = t38 at hal
      generalize a1.tmps.getD 39 undef = t39 at hal
      generalize a1.tmps.getD 40 undef = t40 at hal
      generalize a1.tmps.getD 41 undef = t41 at hal
      generalize a1.tmps.getD 42 undef = t42 at hal
      generalize a1.tmps.getD 43 undef = t43 at hal
      generalize a1.tmps.getD 44 undef = t44 at hal
      generalize a1.tmps.getD 45 undef = t45 at hal
      generalize a1.tmps.getD 46 undef = t46 at hal
      generalize a1.tmps.getD 47 undef = t47 at hal
      generalize a1.tmps.getD 48 undef = t48 at hal
      generalize a1.tmps.getD 49 undef = t49 at hal
      generalize a1.tmps.getD 50 undef = t50 at hal
      generalize a1.tmps.getD 51 undef = t51 at hal
      generalize a1.tmps.getD 52 undef = t52 at hal
      generalize a1.tmps.getD 53 undef = t53 at hal
      generalize a1.tmps.getD 54 undef = t54 at hal
      generalize a1.tmps.getD 55 undef = t55 at hal
      generalize a1.tmps.getD 56 undef = t56 at hal
      generalize a1.tmps.getD 57 undef = t57 at hal
      generalize a1.tmps.getD 58 undef = t58 at hal
      generalize a1.tmps.getD 59 undef = t59 at hal
      generalize a1.tmps.getD 60 undef = t60 at hal
      generalize a1.tmps.getD 61 undef = t61 at hal
      generalize a1.tmps.getD 62 undef = t62 at hal
      generalize a1.tmps.getD 63 undef = t63 at hal
      generalize a1.tmps.getD 64 undef = t64 at hal
      generalize a1.tmps.getD 65 undef = t65 at hal
      generalize a1.tmps.getD 66 undef = t66 at hal
      generalize a1.tmps.getD 67 undef = t67 at hal
      generalize a1.tmps.getD 68 undef = t68 at hal
      generalize a1.tmps.getD 69 undef = t69 at hal
      generalize a1.tmps.getD 70 undef = t70 at hal
      generalize a1.tmps.getD 71 undef = t71 at hal
      generalize a1.tmps.getD 72 undef = t72 at hal
      generalize a1.tmps.getD 73 undef = t73 at hal
      generalize a1.tmps.getD 74 undef = t74 at hal
      generalize a1.tmps.getD 75 undef = t75 at hal
      generalize a1.tmps.getD 76 undef = t76 at hal
      generalize a1.tmps.getD 77 undef = t77 at hal
      generalize a1.tmps.getD 78 undef = t78 at hal
      generalize a1.tmps.getD 79 undef = t79 at hal
      generalize a1.tmps.getD 80 undef = t80 at hal
      generalize a1.tmps.getD 81 undef = t81 at hal
      generalize a1.tmps.getD 82 undef = t82 at hal
      generalize a1.tmps.getD 83 undef = t83 at hal
      generalize a1.tmps.getD 84 undef = t84 at hal
      generalize a1.tmps.getD 85 undef = t85 at hal
      generalize a1.tmps.getD 86 undef = t86 at hal
      generalize a1.tmps.getD 87 undef = t87 at hal
      generalize a1.tmps.getD 88 undef = t88 at hal
      generalize a1.tmps.getD 89 undef = t89 at hal
      generalize a1.tmps.getD 90 undef = t90 at hal
      generalize a1.tmps.getD 91 undef = t91 at hal
      generalize a1.tmps.getD 92 undef = t92 at hal
      generalize a1.tmps.getD 93 undef = t93 at hal
      generalize a1.tmps.getD 94 undef = t94 at hal
      generalize a1.tmps.getD 95 undef = t95 at hal
      generalize a1.tmps.getD 96 undef = t96 at hal
      generalize a1.tmps.getD 97 undef = t97 at hal
      generalize a1.tmps.getD 98 undef = t98 at hal
      generalize a1.tmps.getD 99 undef = t99 at hal
      generalize a1.tmps.getD 100 undef = t100 at hal
      generalize a1.tmps.getD 101 undef = t101 at hal
      generalize a1.tmps.getD 102 undef = t102 at hal
      generalize a1.tmps.getD 103 undef = t103 at hal
      generalize a1.tmps.getD 104 undef = t104 at hal
      generalize a1.tmps.getD 105 undef = t105 at hal
      generalize a1.tmps.getD 106 undef = t106 at hal
      generalize a1.tmps.getD 107 undef = t107 at hal
      generalize a1.tmps.getD 108 undef = t108 at hal
      generalize a1.tmps.getD 109 undef = t109 at hal
      generalize a1.tmps.getD 110 undef = t110 at hal
      generalize a1.tmps.getD 111 undef = t111 at hal
      generalize a1.tmps.getD 112 undef = t112 at hal
      generalize a1.tmps.getD 113 undef = t113 at hal
      generalize a1.tmps.getD 114 undef = t114 at hal
      generalize a1.tmps.getD 115 undef = t115 at hal
      generalize a1.tmps.getD 116 undef = t116 at hal
      generalize a1.tmps.getD 117 undef = t117 at hal
      generalize a1.tmps.getD 118 undef = t118 at hal
      generalize a1.tmps.getD 119 undef = t119 at hal
      generalize a1.tmps.getD 120 undef = t120 at hal
      generalize a1.tmps.getD 121 undef = t121 at hal
      generalize a1.tmps.getD 122 undef = t122 at hal
      generalize a1.tmps.getD 123 undef = t123 at hal
      generalize a1.tmps.getD 124 undef = t124 at hal
      generalize a1.tmps.getD 125 undef = t125 at hal
      generalize a1.tmps.getD 126 undef = t126 at hal
      generalize a1.tmps.getD 127 undef = t127 at hal
      generalize a1.tmps.getD 128 undef = t128 at hal
      generalize a1.tmps.getD 129 undef = t129 at hal
      generalize a1.tmps.getD 130 undef = t130 at hal
      generalize a1.tmps.getD 131 undef = t131 at hal
      generalize a1.tmps.getD 132 undef = t132 at hal
      generalize a1.tmps.getD 133 undef = t133 at hal
      generalize a1.tmps.getD 134 undef = t134 at hal
      generalize a1.tmps.getD 135 undef = t135 at hal
      generalize a1.tmps.getD 136 undef = t136 at hal
      generalize a1.tmps.getD 137 undef = t137 at hal
      generalize a1.tmps.getD 138 undef = t138 at hal
      generalize a1.tmps.getD 139 undef = t139 at hal
      generalize a1.tmps.getD 140 undef = t140 at hal
      generalize a1.tmps.getD 141 undef = t141 at hal
      generalize a1.tmps.getD 142 undef = t142 at hal
      generalize a1.tmps.getD 143 undef = t143 at hal
      generalize a1.tmps.getD 144 undef = t144 at hal
      generalize a1.tmps.getD 145 undef = t145 at hal
      generalize a1.tmps.getD 146 undef = t146 at hal
      generalize a1.tmps.getD 147 undef = t147 at hal
      generalize a1.tmps.getD 148 undef = t148 at hal
      generalize a1.tmps.getD 149 undef = t149 at hal
      generalize a1.tmps.getD 150 undef = t150 at hal
      generalize a1.tmps.getD 151 undef = t151 at hal
      generalize a1.tmps.getD 152 undef = t152 at hal
      generalize a1.tmps.getD 153 undef = t153 at hal
      generalize a1.tmps.getD 154 undef = t154 at hal
      generalize a1.tmps.getD 155 undef = t155 at hal
      generalize a1.tmps.getD 156 undef = t156 at hal
      generalize a1.tmps.getD 157 undef = t157 at hal
      generalize a1.tmps.getD 158 undef = t158 at hal
      generalize a1.tmps.getD 159 undef = t159 at hal
      generalize a1.tmps.getD 160 undef = t160 at hal
      generalize a1.tmps.getD 161 undef = t161 at hal
      clear l0 l1 l5 l4 hde
      subst hal
      go_wp2_with fail
      refine (HC.out.turn S8 p _ 1 0 bits _ I9.out (by unfold I64n; omega) (by unfold I64n; omega) HBITS.out.1 HBITS.out.2).mono ?_
      rw [(ap_turn (bits := bits) (bs := bs) (by omega)).1, (ap_turn (bits := bits) (bs := bs) (by omega)).2]
      rintro e w10 ⟨S10, rfl, h10, hs10, ho10⟩
      have I10 := Lib.hid h10
      have F10 := Lib.hid (F8.out.sub hs10 U9.out.size)
      have U10 := Lib.hid (Below.out U9.out ho10 F8.out U9.out.size)
      obtain ⟨tE, htE⟩ : ∃ t : Int, t = if bits = 0 then 1 else 0 := ⟨_, rfl⟩
      have HTE := Lib.hid (show (tE == 0) = (bits != 0) by rw [htE]; by_cases h : bits = 0 <;> simp [h])
      rw [← htE]
      clear h10 hs10 ho10 I9 U9 F8 htE
      go_wp2_with fail
      refine (HC.out.take S10 p _ 0 _ I10.out ⟨by omega, by simp [apS]⟩).mono ?_
      rintro e w11 ⟨S11, xA, xc, rfl, hb11, hn11, h11, hs11, ho11⟩
      replace hn11 := fun b hb => (hn11 b hb).1
      have hb11 : InB w11 xA bs.length xc bs := hb11
      rw [hbl] at hb11
      have hfv : frV (Nt.fr (apS [apF bs, apG bs bits]) 0) (.slice xA (Nt.fr (apS [apF bs, apG bs bits]) 0).bytes.length xc) = .agg #[.int .i64 0, .int .i64 0, .int .i64 1, .int .i64 0, .slice xA N3 xc, .bool false] := by rw [← hbl]; rfl
      rw [hfv]
      have up11 := up_alloc w11 (.cells #[.int .i64 0, .int .i64 0, .int .i64 1, .int .i64 0, .slice xA N3 xc, .bool false] 46)
      have I11 := Lib.hid (HC.out.up (show IsN S11 w11 p (apS [apG bs bits]) from h11) up11)
      have F11 := Lib.hid (F10.out.sub hs11 U10.out.size)
      have U11 := Lib.hid ((Below.out U10.out ho11 F10.out U10.out.size).trans (up11.mono (Nat.le_trans U10.out.size ho11.size)))
      have X11 := Lib.hid (hb11.up up11)
      have XN := Lib.hid hn11
      have hxb := new_at w11 (.cells #[.int .i64 0, .int .i64 0, .int .i64 1, .int .i64 0, .slice xA N3 xc, .bool false] 46)
      obtain ⟨xb, hxbe⟩ : ∃ t, t = w11.heap.size := ⟨_, rfl⟩
      have LT11 := Lib.hid (fun k hk => HC.out.lt (show IsN S11 w11 p _ from h11) k hk)
      clear hb11 hn11 h11 hs11 ho11 hfv up11 I10 F10 U10
      go_upto_region 12 with (fail)
      rw [← hxbe] at hxb ⊢
      have hxS : ¬ S11 xb := fun hs => by have := LT11.out xb hs; omega
      generalize (w11.alloc (.cells #[.int .i64 0, .int .i64 0, .int .i64 1, .int .i64 0, .slice xA N3 xc, .bool false] 46)) = w12 at I11 U11 X11 hxb ⊢
      clear hxbe LT11
      go_wp2_with fail
      refine (HC.out.take S11 p _ 0 _ I11.out ⟨by omega, by simp [apS]⟩).mono ?_
      rintro e w13 ⟨S13, yA, yc, rfl, hb13, hn13, h13, hs13, ho13⟩
      replace hn13 := fun b hb => (hn13 b hb).1
      have hb13 : InB w13 yA (apG bs bits).bytes.length yc (apG bs bits).bytes := hb13
      rw [apG_len, hbl] at hb13
      obtain ⟨gg, hgg⟩ : ∃ g, g = apG bs bits := ⟨_, rfl⟩
      have hfv : frV (Nt.fr (apS [apG bs bits]) 0) (.slice yA (Nt.fr (apS [apG bs bits]) 0).bytes.length yc) = .agg #[.int .i64 gg.fh, .int .i64 gg.fp, .int .i64 gg.th, .int .i64 gg.tp, .slice yA N3 yc, .bool gg.tn] := by
        rw [hgg, ← hbl, ← apG_len bs bits]; rfl
      rw [hfv]
      clear hgg
      have up13 := up_alloc w13 (.cells #[.int .i64 gg.fh, .int .i64 gg.fp, .int .i64 gg.th, .int .i64 gg.tp, .slice yA N3 yc, .bool gg.tn] 46)
      have U13 := Lib.hid ((Below.out U11.out ho13 F11.out U11.out.size).trans (up13.mono (Nat.le_trans U11.out.size ho13.size)))
      have X13 := Lib.hid ((inB_out X11.out ho13 XN.out).up up13)
      have Y13 := Lib.hid (hb13.up up13)
      have hxb13 := (ho13.blk hxb hxS)
      have hxb14 : (w13.alloc (.cells #[.int .i64 gg.fh, .int .i64 gg.fp, .int .i64 gg.th, .int .i64 gg.tp, .slice yA N3 yc, .bool gg.tn] 46)).heap[xb]? = _ := (up13.block xb (lt_of_blk hxb13)).trans hxb13
      have hyb := new_at w13 (.cells #[.int .i64 gg.fh, .int .i64 gg.fp, .int .i64 gg.th, .int .i64 gg.tp, .slice yA N3 yc, .bool gg.tn] 46)
      obtain ⟨yb, hybe⟩ : ∃ t, t = w13.heap.size := ⟨_, rfl⟩
      clear hb13 hn13 h13 hs13 ho13 hfv up13 I11 F11 U11 X11 XN hxb13 hxb hxS
      go_upto_region 13 with (fail)
      rw [← hybe] at hyb ⊢
      generalize (w13.alloc (.cells #[.int .i64 gg.fh, .int .i64 gg.fp, .int .i64 gg.th, .int .i64 gg.tp, .slice yA N3 yc, .bool gg.tn] 46)) = w14 at U13 X13 Y13 hxb14 hyb ⊢
      clear hybe
      obtain ⟨yB, yo, rfl, ky0⟩ := inB_at Y13.out (apG_get (bits := bits) hb0 hbb.1)
      have hAR := HB.out.up U13.out
      obtain ⟨ab, ao, rfl, ka⟩ := inB_at hAR hb0
      have AR := Lib.hid hAR
      have KX := Lib.hid (cell_of hxb14 (j := 4) rfl)
      have KY := Lib.hid (cell_of hyb (j := 4) rfl)
      have KA := Lib.hid ka
      have KY0 := Lib.hid ky0
      have UA := Lib.hid (Up.refl w14)
      clear hxb14 hyb ka ky0 hAR HB Y13
      go_wp2_with fail
      refine (HD.out.take 0 _).mono ?_
      rintro e wn ⟨rfl, hu⟩
      replace UA := Lib.hid (UA.out.trans hu)
      have hfv : frV default (.slice none 0 0) = .agg #[.int .i64 0, .int .i64 0, .int .i64 0, .int .i64 0, .slice none 0 0, .bool false] := rfl
      rw [hfv]
      clear hfv hu
      go_upto_region 16 with (fail)
      replace UA := Lib.hid (UA.out.trans (up_alloc wn (.cells #[.int .i64 0, .int .i64 0, .int .i64 0, .int .i64 0, .slice none 0 0, .bool false] 46)))
      generalize (wn.alloc (.cells #[.int .i64 0, .int .i64 0, .int .i64 0, .int .i64 0, .slice none 0 0, .bool false] 46)) = wm at UA ⊢
      go_wp2_with fail
      refine (HD.out.send (0, 0) (1, 0) _).mono ?_
      rintro e wn ⟨rfl, hu⟩
      replace UA := Lib.hid (UA.out.trans hu)
      clear hu
      go_wp2_with fail
      refine (HD.out.twin 0 _).mono ?_
      rintro e wn ⟨rfl, hu⟩
      replace UA := Lib.hid (UA.out.trans hu)
      clear hu
      go_wp2_with fail
      refine (HD.out.last 0 _).mono ?_
      rintro e wn ⟨rfl, hu⟩
      replace UA := Lib.hid (UA.out.trans hu)
      clear hu
      go_wp2_with fail
      refine (HD.out.turn 0 0 1 _).mono ?_
      rintro e wn ⟨rfl, hu⟩
      replace UA := Lib.hid (UA.out.trans hu)
      clear hu
      go_wp2_with fail
      refine (HD.out.cut 0 1 0 true _).mono ?_
      rintro e wn ⟨rfl, hu⟩
      replace UA := Lib.hid (UA.out.trans hu)
      clear hu
      go_wp2_with fail
      refine (HD.out.len _).mono ?_
      rintro e wn ⟨rfl, hu⟩
      replace UA := Lib.hid (UA.out.trans hu)
      clear hu
      go_wp2_with fail
      refine (HD.out.list _).mono ?_
      rintro e wz ⟨nA, nc, rfl, hu⟩
      replace UA := Lib.hid (UA.out.trans hu)
      clear hu
      go_upto_region 17 with (fail)
      have kx := cell_up KX.out UA.out
      have ky := cell_up KY.out UA.out
      have ka := cell_up KA.out UA.out
      have ky0 := cell_up KY0.out UA.out
      have X := Lib.hid (X13.out.up UA.out)
      replace AR := Lib.hid (AR.out.up UA.out)
      have UZ := Lib.hid (U13.out.trans (UA.out.mono U13.out.size))
      refine staged_lit (by kernel_rfl) (facts [Is (.pointer (some ⟨xb, 0 + 4, none⟩)), Is (.slice xA N3 xc), Is (.string (strOfNums bs)), Is (.slice (some ⟨ab, ao, none⟩) N3 cap0), Is (.string (strOfNums bs)), Is (.bool true), Is (.bool true), Is (.bool (tE == 0)), Is (.int .u8 bits), Is (.bool (bits != 0)), Is (.bool true), Is (.bool true), Is (.bool true), Is (.pointer (some ⟨yb, 0 + 4, none⟩)), Is (.slice (some ⟨yB, yo, none⟩) N3 yc), Is (.pointer (some ⟨yB, yo, none⟩)), Is (.int .u8 (Nt.bx b0 bits)), Is (.slice (some ⟨ab, ao, none⟩) N3 cap0), Is (.pointer (some ⟨ab, ao, none⟩)), Is (.int .u8 b0), Is (.int .u8 bits), Is (.int .u8 (Nt.bx b0 bits)), Is (.bool true), Is (.bool true), Is (.bool true), Is (.bool true), Is (.bool true), Is (.bool true)]) (Stg [] (fun _ w1 => Up wz w1)) 162 rfl (by decide +kernel) (by decide +kernel) (Stg.start (Up.drew wz)) ?_ ?_
      · refine ⟨?_, ?_, ?_, ?_, ?_, ?_, ?_, ?_, ?_, ?_, ?_, ?_, ?_, ?_, ?_, ?_, ?_, ?_, ?_, ?_, ?_, ?_, ?_, ?_, ?_, ?_, ?_, ?_, trivial⟩
        · refine opS_same rfl rfl fun L ac w1 hJ hl hc ho hd => ?_
          have s10 : ac.eval (.tmp 10) = .pointer (some ⟨xb, 0, none⟩) := ho 10 rfl
          exact ⟨_, x_field 46 (.tmp 10) 2 rfl s10 (fld462 _ _ _), rfl⟩
        · refine opS_same rfl rfl fun L ac w1 hJ hl hc ho hd => ?_
          have d0 : ac.eval (.tmp 135) = .pointer (some ⟨xb, 0 + 4, none⟩) := hd 0 _ _ rfl rfl rfl
          obtain ⟨_, _, hW⟩ := hJ
          exact ⟨_, x_load 38 (.tmp 135) rfl d0 (run_load1 agg38 (cell_up kx hW)), rfl⟩
        · refine opS_same rfl rfl fun L ac w1 hJ hl hc ho hd => ?_
          have d1 : ac.eval (.tmp 136) = .slice xA N3 xc := hd 1 _ _ rfl rfl rfl
          obtain ⟨_, _, hW⟩ := hJ
          exact ⟨_, x_conv 38 9 (.tmp 136) rfl d1 (conv_I Try.underlying38 Try.underlying5 Try.underlying9 (X.out.up hW).isI), rfl⟩
        · refine opS_same rfl rfl fun L ac w1 hJ hl hc ho hd => ?_
          have s0 : ac.eval (.tmp 0) = .slice (some ⟨ab, ao, none⟩) N3 cap0 := ho 0 rfl
          exact ⟨_, x_move (.tmp 0) rfl s0, rfl⟩
        · refine opS_same rfl rfl fun L ac w1 hJ hl hc ho hd => ?_
          have d3 : ac.eval (.tmp 138) = .slice (some ⟨ab, ao, none⟩) N3 cap0 := hd 3 _ _ rfl rfl rfl
          obtain ⟨_, _, hW⟩ := hJ
          exact ⟨_, x_conv 38 9 (.tmp 138) rfl d3 (conv_I Try.underlying38 Try.underlying5 Try.underlying9 (AR.out.up hW).isI), rfl⟩
        · refine opS_same rfl rfl fun L ac w1 hJ hl hc ho hd => ?_
          have d2 : ac.eval (.tmp 137) = .string (strOfNums bs) := hd 2 _ _ rfl rfl rfl
          have d4 : ac.eval (.tmp 139) = .string (strOfNums bs) := hd 4 _ _ rfl rfl rfl
          exact ⟨_, x_bin .eql 9 9 (.tmp 137) (.tmp 139) rfl d2 d4 rfl (by simp [go_sem]), rfl⟩
        · refine opS_same rfl rfl fun L ac w1 hJ hl hc ho hd => ?_
          have d5 : ac.eval (.tmp 140) = .bool true := hd 5 _ _ rfl rfl rfl
          exact ⟨_, x_move (.tmp 140) rfl d5, rfl⟩
        · refine opS_sameG 6 true _ _ rfl rfl rfl rfl (fun v w h => h) rfl fun L ac w1 hJ hl hc ho hd => ?_
          have s9 : ac.eval (.tmp 9) = .bool (tE == 0) := ho 9 rfl
          exact ⟨_, x_move (.tmp 9) rfl s9, rfl⟩
        · refine opS_sameG 6 true _ _ rfl rfl rfl rfl (fun v w h => h) rfl fun L ac w1 hJ hl hc ho hd => ?_
          have s1 : ac.eval (.tmp 1) = .int .u8 bits := ho 1 rfl
          exact ⟨_, x_move (.tmp 1) rfl s1, rfl⟩
        · refine opS_sameG 6 true _ _ rfl rfl rfl rfl (fun v w h => h) rfl fun L ac w1 hJ hl hc ho hd => ?_
          have d8 : ac.eval (.tmp 143) = .int .u8 bits := hd 8 _ _ rfl rfl rfl
          exact ⟨_, x_bin .neq 5 5 (.tmp 143) (.const (.int .u8 0)) (Y := .int .u8 0) rfl d8 rfl rfl (by rw [binOp_neq]; rfl), rfl⟩
        · refine opS_sameG 6 true _ _ rfl rfl rfl rfl (fun v w h => h) rfl fun L ac w1 hJ hl hc ho hd => ?_
          have d7 : ac.eval (.tmp 142) = .bool (tE == 0) := hd 7 _ _ rfl rfl rfl
          have d9 : ac.eval (.tmp 144) = .bool (bits != 0) := hd 9 _ _ rfl rfl rfl
          exact ⟨_, x_bin .eql 4 4 (.tmp 142) (.tmp 144) rfl d7 d9 rfl (by rw [HTE.out]; exact eqb _ _), rfl⟩
        · refine opS_same rfl rfl fun L ac w1 hJ hl hc ho hd => ?_
          have d6 : ac.eval (.tmp 141) = .bool true := hd 6 _ _ rfl rfl rfl
          have d10 : ac.eval (.tmp 145) = .bool true := hd 10 _ _ rfl rfl rfl
          exact ⟨_, x_pick (.tmp 141) (.tmp 145) (.const (.bool false)) rfl d6 (fun _ => d10) (fun _ => rfl), rfl⟩
        · refine opS_same rfl rfl fun L ac w1 hJ hl hc ho hd => ?_
          have d11 : ac.eval (.tmp 146) = .bool true := hd 11 _ _ rfl rfl rfl
          exact ⟨_, x_move (.tmp 146) rfl d11, rfl⟩
        · refine opS_sameG 12 true _ _ rfl rfl rfl rfl (fun v w h => h) rfl fun L ac w1 hJ hl hc ho hd => ?_
          have s12 : ac.eval (.tmp 12) = .pointer (some ⟨yb, 0, none⟩) := ho 12 rfl
          exact ⟨_, x_field 46 (.tmp 12) 2 rfl s12 (fld462 _ _ _), rfl⟩
        · refine opS_sameG 12 true _ _ rfl rfl rfl rfl (fun v w h => h) rfl fun L ac w1 hJ hl hc ho hd => ?_
          have d13 : ac.eval (.tmp 148) = .pointer (some ⟨yb, 0 + 4, none⟩) := hd 13 _ _ rfl rfl rfl
          obtain ⟨_, _, hW⟩ := hJ
          exact ⟨_, x_load 38 (.tmp 148) rfl d13 (run_load1 agg38 (cell_up ky hW)), rfl⟩
        · refine opS_sameG 12 true _ _ rfl rfl rfl rfl (fun v w h => h) rfl fun L ac w1 hJ hl hc ho hd => ?_
          have d14 : ac.eval (.tmp 149) = .slice (some ⟨yB, yo, none⟩) N3 yc := hd 14 _ _ rfl rfl rfl
          exact ⟨_, x_index 38 (.tmp 149) (.const (.int .i64 0)) rfl d14 rfl (idx38 hn0 w1), rfl⟩
        · refine opS_sameG 12 true _ _ rfl rfl rfl rfl (fun v w h => h) rfl fun L ac w1 hJ hl hc ho hd => ?_
          have d15 : ac.eval (.tmp 150) = .pointer (some ⟨yB, yo, none⟩) := hd 15 _ _ rfl rfl rfl
          obtain ⟨_, _, hW⟩ := hJ
          exact ⟨_, x_load 5 (.tmp 150) rfl d15 (run_load1 agg5 (cell_up ky0 hW)), rfl⟩
        · refine opS_sameG 12 true _ _ rfl rfl rfl rfl (fun v w h => h) rfl fun L ac w1 hJ hl hc ho hd => ?_
          have s0 : ac.eval (.tmp 0) = .slice (some ⟨ab, ao, none⟩) N3 cap0 := ho 0 rfl
          exact ⟨_, x_move (.tmp 0) rfl s0, rfl⟩
        · refine opS_sameG 12 true _ _ rfl rfl rfl rfl (fun v w h => h) rfl fun L ac w1 hJ hl hc ho hd => ?_
          have d17 : ac.eval (.tmp 152) = .slice (some ⟨ab, ao, none⟩) N3 cap0 := hd 17 _ _ rfl rfl rfl
          exact ⟨_, x_index 38 (.tmp 152) (.const (.int .i64 0)) rfl d17 rfl (idx38 hn0 w1), rfl⟩
        · refine opS_sameG 12 true _ _ rfl rfl rfl rfl (fun v w h => h) rfl fun L ac w1 hJ hl hc ho hd => ?_
          have d18 : ac.eval (.tmp 153) = .pointer (some ⟨ab, ao, none⟩) := hd 18 _ _ rfl rfl rfl
          obtain ⟨_, _, hW⟩ := hJ
          exact ⟨_, x_load 5 (.tmp 153) rfl d18 (run_load1 agg5 (cell_up ka hW)), rfl⟩
        · refine opS_sameG 12 true _ _ rfl rfl rfl rfl (fun v w h => h) rfl fun L ac w1 hJ hl hc ho hd => ?_
          have s1 : ac.eval (.tmp 1) = .int .u8 bits := ho 1 rfl
          exact ⟨_, x_move (.tmp 1) rfl s1, rfl⟩
        · refine opS_sameG 12 true _ _ rfl rfl rfl rfl (fun v w h => h) rfl fun L ac w1 hJ hl hc ho hd => ?_
          have d19 : ac.eval (.tmp 154) = .int .u8 b0 := hd 19 _ _ rfl rfl rfl
          have d20 : ac.eval (.tmp 155) = .int .u8 bits := hd 20 _ _ rfl rfl rfl
          exact ⟨_, x_bin .xor 5 5 (.tmp 154) (.tmp 155) rfl d19 d20 rfl (run_xor8 hbb HBITS.out w1), rfl⟩
        · refine opS_sameG 12 true _ _ rfl rfl rfl rfl (fun v w h => h) rfl fun L ac w1 hJ hl hc ho hd => ?_
          have d16 : ac.eval (.tmp 151) = .int .u8 (Nt.bx b0 bits) := hd 16 _ _ rfl rfl rfl
          have d21 : ac.eval (.tmp 156) = .int .u8 (Nt.bx b0 bits) := hd 21 _ _ rfl rfl rfl
          exact ⟨_, x_bin .eql 5 5 (.tmp 151) (.tmp 156) rfl d16 d21 rfl (by rw [binOp_eql, beq_self_eq_true]; rfl), rfl⟩
        · refine opS_same rfl rfl fun L ac w1 hJ hl hc ho hd => ?_
          have d12 : ac.eval (.tmp 147) = .bool true := hd 12 _ _ rfl rfl rfl
          have d22 : ac.eval (.tmp 157) = .bool true := hd 22 _ _ rfl rfl rfl
          exact ⟨_, x_pick (.tmp 147) (.tmp 157) (.const (.bool false)) rfl d12 (fun _ => d22) (fun _ => rfl), rfl⟩
        · refine opS_same rfl rfl fun L ac w1 hJ hl hc ho hd => ?_
          have d23 : ac.eval (.tmp 158) = .bool true := hd 23 _ _ rfl rfl rfl
          exact ⟨_, x_move (.tmp 158) rfl d23, rfl⟩
        · refine opS_sameG 24 true _ _ rfl rfl rfl rfl (fun v w h => h) rfl fun L ac w1 hJ hl hc ho hd => ?_
          have s18 : ac.eval (.tmp 18) = .bool true := ho 18 rfl
          exact ⟨_, x_move (.tmp 18) rfl s18, rfl⟩
        · refine opS_same rfl rfl fun L ac w1 hJ hl hc ho hd => ?_
          have d24 : ac.eval (.tmp 159) = .bool true := hd 24 _ _ rfl rfl rfl
          have d25 : ac.eval (.tmp 160) = .bool true := hd 25 _ _ rfl rfl rfl
          exact ⟨_, x_pick (.tmp 159) (.tmp 160) (.const (.bool false)) rfl d24 (fun _ => d25) (fun _ => rfl), rfl⟩
        · refine opS_same rfl rfl fun L ac w1 hJ hl hc ho hd => ?_
          have d26 : ac.eval (.tmp 161) = .bool true := hd 26 _ _ rfl rfl rfl
          exact ⟨_, x_assign (.tmp 161) rfl d26, rfl⟩
      · intro L a1 w9 hI hall
        obtain ⟨_, _, hW⟩ := hI.done hall (by simp)
        have UF := Lib.hid (UZ.out.trans (hW.mono UZ.out.size))
        clear hW kx ky ka ky0
        have l0 : a1.tmps.getD 0 undef = .slice (some ⟨ab, ao, none⟩) N3 cap0 := hI.old 0 rfl
        have l1 : a1.tmps.getD 1 undef = .int .u8 bits := hI.old 1 rfl
        have l4 : a1.tmps.getD 4 undef = .bool true := hI.get hall (i := 27) rfl rfl
        have hde : a1.defers = [] := hI.defers
        have hal := act_lit a1 162 hI.size
        clear hI
        simp only [List.range, List.range.loop, List.map_cons, List.map_nil] at hal
        rw [l0, l1, l4, hde] at hal
        generalize a1.tmps.getD 2 undef = t2 at hal
        generalize a1.tmps.getD 3 undef = t3 at hal
        generalize a1.tmps.getD 5 undef = t5 at hal
        generalize a1.tmps.getD 6 undef = t6 at hal
        generalize a1.tmps.getD 7 undef = t7 at hal
        generalize a1.tmps.getD 8 undef = t8 at hal
        generalize a1.tmps.getD 9 undef = t9 at hal
        generalize a1.tmps.getD 10 undef = t10 at hal
        generalize a1.tmps.getD 11 undef = t11 at hal
        generalize a1.tmps.getD 12 undef = t12 at hal
        generalize a1.tmps.getD 13 undef = t13 at hal
        generalize a1.tmps.getD 14 undef = t14 at hal
        generalize a1.tmps.getD 15 undef = t15 at hal
        generalize a1.tmps.getD 16 undef = t16 at hal
        generalize a1.tmps.getD 17 undef = t17 at hal
        generalize a1.tmps.getD 18 undef = t18 at hal
        generalize a1.tmps.getD 19 undef = t19 at hal
        generalize a1.tmps.getD 20 undef = t20 at hal
        generalize a1.tmps.getD 21 undef = t21 at hal
        generalize a1.tmps.getD 22 undef = t22 at hal
        generalize a1.tmps.getD 23 undef = t23 at hal
        generalize a1.tmps.getD 24 undef = t24 at hal
        generalize a1.tmps.getD 25 undef = t25 at hal
        generalize a1.tmps.getD 26 undef = t26 at hal
        generalize a1.tmps.getD 27 undef = t27 at hal
        generalize a1.tmps.getD 28 undef = t28 at hal
        generalize a1.tmps.getD 29 undef = t29 at hal
        generalize a1.tmps.getD 30 undef = t30 at hal
        generalize a1.tmps.getD 31 undef = t31 at hal
        generalize a1.tmps.getD 32 undef = t32 at hal
        generalize a1.tmps.getD 33 undef = t33 at hal
        generalize a1.tmps.getD 34 undef = t34 at hal
        generalize a1.tmps.getD 35 undef = t35 at hal
        generalize a1.tmps.getD 36 undef = t36 at hal
        generalize a1.tmps.getD 37 undef = t37 at hal
        generalize a1.tmps.getD 38 undef = t38 at hal
        generalize a1.tmps.getD 39 undef = t39 at hal
        generalize a1.tmps.getD 40 undef = t40 at hal
        generalize a1.tmps.getD 41 undef = t41 at hal
        generalize a1.tmps.getD 42 undef = t42 at hal
        generalize a1.tmps.getD 43 undef = t43 at hal
        generalize a1.tmps.getD 44 undef = t44 at hal
        generalize a1.tmps.getD 45 undef = t45 at hal
        generalize a1.tmps.getD 46 undef = t46 at hal
        generalize a1.tmps.getD 47 undef = t47 at hal
        generalize a1.tmps.getD 48 undef = t48 at hal
        generalize a1.tmps.getD 49 undef = t49 at hal
        generalize a1.tmps.getD 50 undef = t50 at hal
        generalize a1.tmps.getD 51 undef = t51 at hal
        generalize a1.tmps.getD 52 undef = t52 at hal
        generalize a1.tmps.getD 53 undef = t53 at hal
        generalize a1.tmps.getD 54 undef = t54 at hal
        generalize a1.tmps.getD 55 undef = t55 at hal
        generalize a1.tmps.getD 56 undef = t56 at hal
        generalize a1.tmps.getD 57 undef = t57 at hal
        generalize a1.tmps.getD 58 undef = t58 at hal
        generalize a1.tmps.getD 59 undef = t59 at hal
        generalize a1.tmps.getD 60 undef = t60 at hal
        generalize a1.tmps.getD 61 undef = t61 at hal
        generalize a1.tmps.getD 62 undef = t62 at hal
        generalize a1.tmps.getD 63 undef = t63 at hal
        generalize a1.tmps.getD 64 undef = t64 at hal
        generalize a1.tmps.getD 65 undef = t65 at hal
        generalize a1.tmps.getD 66 undef = t66 at hal
        generalize a1.tmps.getD 67 undef = t67 at hal
        generalize a1.tmps.getD 68 undef = t68 at hal
        generalize a1.tmps.getD 69 undef = t69 at hal
        generalize a1.tmps.getD 70 undef = t70 at hal
        generalize a1.tmps.getD 71 undef = t71 at hal
        generalize a1.tmps.getD 72 undef = t72 at hal
        generalize a1.tmps.getD 73 undef = t73 at hal
        generalize a1.tmps.getD 74 undef = t74 at hal
        generalize a1.tmps.getD 75 undef = t75 at hal
        generalize a1.tmps.getD 76 undef = t76 at hal
        generalize a1.tmps.getD 77 undef = t77 at hal
        generalize a1.tmps.getD 78 undef = t78 at hal
        generalize a1.tmps.getD 79 undef = t79 at hal
        generalize a1.tmps.getD 80 undef = t80 at hal
        generalize a1.tmps.getD 81 undef = t81 at hal
        generalize a1.tmps.getD 82 undef = t82 at hal
        generalize a1.tmps.getD 83 undef = t83 at hal
        generalize a1.tmps.getD 84 undef = t84 at hal
        generalize a1.tmps.getD 85 undef = t85 at hal
        generalize a1.tmps.getD 86 undef = t86 at hal
        generalize a1.tmps.getD 87 undef = t87 at hal
        generalize a1.tmps.getD 88 undef = t88 at hal
        generalize a1.tmps.getD 89 undef = t89 at hal
        generalize a1.tmps.getD 90 undef = t90 at hal
        generalize a1.tmps.getD 91 undef = t91 at hal
        generalize a1.tmps.getD 92 undef = t92 at hal
        generalize a1.tmps.getD 93 undef = t93 at hal
        generalize a1.tmps.getD 94 undef = t94 at hal
        generalize a1.tmps.getD 95 undef = t95 at hal
        generalize a1.tmps.getD 96 undef = t96 at hal
        generalize a1.tmps.getD 97 undef = t97 at hal
        generalize a1.tmps.getD 98 undef = t98 at hal
        generalize a1.tmps.getD 99 undef = t99 at hal
        generalize a1.tmps.getD 100 undef = t100 at hal
        generalize a1.tmps.getD 101 undef = t101 at hal
        generalize a1.tmps.getD 102 undef = t102 at hal
        generalize a1.tmps.getD 103 undef = t103 at hal
        generalize a1.tmps.getD 104 undef = t104 at hal
        generalize a1.tmps.getD 105 undef = t105 at hal
        generalize a1.tmps.getD 106 undef = t106 at hal
        generalize a1.tmps.getD 107 undef = t107 at hal
        generalize a1.tmps.getD 108 undef = t108 at hal
        generalize a1.tmps.getD 109 undef = t109 at hal
        generalize a1.tmps.getD 110 undef = t110 at hal
        generalize a1.tmps.getD 111 undef = t111 at hal
        generalize a1.tmps.getD 112 undef = t112 at hal
        generalize a1.tmps.getD 113 undef = t113 at hal
        generalize a1.tmps.getD 114 undef = t114 at hal
        generalize a1.tmps.getD 115 undef = t115 at hal
        generalize a1.tmps.getD 116 undef = t116 at hal
        generalize a1.tmps.getD 117 undef = t117 at hal
        generalize a1.tmps.getD 118 undef = t118 at hal
        generalize a1.tmps.getD 119 undef = t119 at hal
        generalize a1.tmps.getD 120 undef = t120 at hal
        generalize a1.tmps.getD 121 undef = t121 at hal
        generalize a1.tmps.getD 122 undef = t122 at hal
        generalize a1.tmps.getD 123 undef = t123 at hal
        generalize a1.tmps.getD 124 undef = t124 at hal
        generalize a1.tmps.getD 125 undef = t125 at hal
        generalize a1.tmps.getD 126 undef = t126 at hal
        generalize a1.tmps.getD 127 undef = t127 at hal
        generalize a1.tmps.getD 128 undef = t128 at hal
        generalize a1.tmps.getD 129 undef = t129 at hal
        generalize a1.tmps.getD 130 undef = t130 at hal
        generalize a1.tmps.getD 131 undef = t131 at hal
        generalize a1.tmps.getD 132 undef = t132 at hal
        generalize a1.tmps.getD 133 undef = t133 at hal
        generalize a1.tmps.getD 134 undef = t134 at hal
        generalize a1.tmps.getD 135 undef = t135 at hal
        generalize a1.tmps.getD 136 undef = t136 at hal
        generalize a1.tmps.getD 137 undef = t137 at hal
        generalize a1.tmps.getD 138 undef = t138 at hal
        generalize a1.tmps.getD 139 undef = t139 at hal
        generalize a1.tmps.getD 140 undef = t140 at hal
        generalize a1.tmps.getD 141 undef = t141 at hal
        generalize a1.tmps.getD 142 undef = t142 at hal
        generalize a1.tmps.getD 143 undef = t143 at hal
        generalize a1.tmps.getD 144 undef = t144 at hal
        generalize a1.tmps.getD 145 undef = t145 at hal
        generalize a1.tmps.getD 146 undef = t146 at hal
        generalize a1.tmps.getD 147 undef = t147 at hal
        generalize a1.tmps.getD 148 undef = t148 at hal
        generalize a1.tmps.getD 149 undef = t149 at hal
        generalize a1.tmps.getD 150 undef = t150 at hal
        generalize a1.tmps.getD 151 undef = t151 at hal
        generalize a1.tmps.getD 152 undef = t152 at hal
        generalize a1.tmps.getD 153 undef = t153 at hal
        generalize a1.tmps.getD 154 undef = t154 at hal
        generalize a1.tmps.getD 155 undef = t155 at hal
        generalize a1.tmps.getD 156 undef = t156 at hal
        generalize a1.tmps.getD 157 undef = t157 at hal
        generalize a1.tmps.getD 158 undef = t158 at hal
        generalize a1.tmps.getD 159 undef = t159 at hal
        generalize a1.tmps.getD 160 undef = t160 at hal
        generalize a1.tmps.getD 161 undef = t161 at hal
        clear l0 l1 l4 hde
        subst hal
        go_wp2_with fail
        go_ret
        exact ⟨rfl, UF.out⟩
end
end Go.Proofs.Ytfbjhialjepodaa
