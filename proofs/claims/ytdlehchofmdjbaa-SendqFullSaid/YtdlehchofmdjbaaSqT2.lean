import Derived.Test.YtdlehchofmdjbaaSqS
namespace Go.Proofs.Ytdlehchofmdjbaa
open Go Go.RowKit Go.Shelf Sq
set_option linter.unusedVariables false
set_option linter.unusedSimpArgs false
attribute [local go_sem] Oper.semAt_some
/-! miss. -/
namespace Sq
def MissPost (o : Nat) (A : Option Addr) (n c : Nat) (L : List ItB) (w : World) (e : Ending) (w' : World) : Prop := ∃ B m k, e = .returned (.slice B m k) ∧
  Hid (m = (Lib.compact ((fastP L (flU L (topR L o - 1))).mergeSort fun x y => decide (x ≤ y))).length) ∧ Hid (OwnI .i64 3 w.heap.size w' B m k (Lib.compact ((fastP L (flU L (topR L o - 1))).mergeSort fun x y => decide (x ≤ y)))) ∧
  Hid (w'.ownsRow 0 56 11 (.slice A n c) n ((missL L (flU L (topR L o - 1))).flatMap itc)) ∧ Hid (Out (fun k => blk? A = some k) w w')
end Sq
set_option maxRecDepth 100000 in
set_option maxHeartbeats 4000000 in
theorem miss_any (q cu o : Nat) (A : Option Addr) (n c : Nat) (L : List ItB) (w : World) (hq : w.heap[q]? = some (.cells (qcl cu A n c o) 52 (0, 0))) (hA : blk? A ≠ some q) (hn : n = L.length) (hn2 : n ≤ 256) (ho : o ≤ n)
    (hrow : w.ownsRow 0 56 11 (.slice A n c) n (L.flatMap itc)) (hmi : ∀ y ∈ L, y.x.miss ≤ 2) :
    Calls Try.prog 23 #[.pointer (some ⟨q, 0, none⟩)] w (MissPost o A n c L w) := by
  have HQ := Lib.hid hq
  have HA := Lib.hid hA
  have HN := Lib.hid hn
  have HR := Lib.hid hrow
  have HM := Lib.hid hmi
  have hcap := (row_cap hrow).1
  have hmf : ∀ (fn : Fn) (first cap : Array Value) (w : World), (Instr.makeFunc fn first cap).run Try.prog w = .ok (.func fn first cap) w := fun _ _ _ _ => rfl
  have q2 : w.cell? ⟨q, 2, none⟩ = some (.int .i64 (o : Int)) := cell_of hq rfl
  have q1 : w.cell? ⟨q, 1, none⟩ = some (.slice A n c) := cell_of hq rfl
  clear hq hA hn hrow hmi
  refine (callsIn_wide (n := 6)).1 ?_
  refine callsIn_of_wp_marks Try.func23 rfl trivial ?_ rfl
  refine wpIn_wide.2 ?_
  simp only [Try.ntmps23, List.size_toArray, List.length_cons, List.length_nil, Nat.reduceAdd, Nat.reduceSub, Array.replicate_succ, Array.replicate_zero, List.push_toArray, List.append_toArray, List.nil_append, List.cons_append]
  go_upto_block 0 with fail
  go_cut [3] from 11 to 25 (fun s wx => s = .int .i64 ((topR L o : Int) - 1) ∧ w = wx)
  case first =>
    go_wp2_with fail
    go_loopw [3] (fun iv wr => ∃ k : Nat, k ≤ o ∧ iv = .int .i64 ((k : Int) - 1) ∧ Hid (topR L k = topR L o) ∧ w = wr) (fun iv _ => (intOf iv + 1).toNat)
    case atStart => exact ⟨o, Nat.le_refl _, rfl, Lib.hid rfl, rfl⟩
    case round =>
      obtain ⟨k, hk, rfl, hT, rfl⟩ := hrel
      cases k with
      | zero =>
        have HTT := Lib.hid (show topR L o = 0 from hT.out.symm)
        rw [show (((0 : Nat) : Int) - 1) = -1 from rfl]
        go_wp2_with fail
        go_meet
        exact ⟨by rw [HTT.out]; rfl, rfl⟩
      | succ j =>
        rw [show (((j + 1 : Nat) : Int) - 1) = (j : Int) by omega]
        obtain ⟨y, hy⟩ : ∃ y, L[j]? = some y := ⟨_, List.getElem?_eq_getElem (by rw [← HN.out]; omega)⟩
        obtain ⟨g, rfl⟩ := row_at HR.out (by omega)
        have k9 := row_cell HR.out (rowG_at itc 11 itc_len hy (j := 9) rfl)
        have hjn : j < n := by omega
        have HY := Lib.hid hy
        clear hy
        by_cases ha : y.x.ack = true
        · replace k9 : w.cell? ⟨g, j * 11 + 9, none⟩ = some (.bool true) := by rw [k9, ha]
          have HTT := Lib.hid (show topR L o = j + 1 by rw [← hT.out, topR, if_pos (by unfold ackAt; rw [HY.out]; exact ha)])
          go_wp2_with fail
          go_meet
          exact ⟨by rw [HTT.out]; congr 1; omega, rfl⟩
        · have ha2 : y.x.ack = false := by simpa using ha
          replace k9 : w.cell? ⟨g, j * 11 + 9, none⟩ = some (.bool false) := by rw [k9, ha2]
          have HTT := Lib.hid (show topR L j = topR L o by rw [← hT.out, topR, if_neg (by unfold ackAt; rw [HY.out]; exact ha)])
          go_wp2_with fail
          go_roundw
          case rel => exact ⟨j, by omega, rfl, HTT, trivial⟩
          case measure => simp [intOf]
  case rest =>
    obtain ⟨rfl, rfl⟩ := hcut
    have htl := topR_le L o
    obtain ⟨t, ht⟩ : ∃ t, t = topR L o := ⟨_, rfl⟩
    rw [← ht] at htl ⊢
    obtain ⟨m, hmt⟩ : ∃ m, m = t - 1 := ⟨_, rfl⟩
    have HMT := Lib.hid (show m = topR L o - 1 by rw [hmt, ht])
    have hmo : m ≤ o := by omega
    have hF := new_at w (.cells #[.slice none 0 0] 35)
    have hU1 := up_alloc w (.cells #[.slice none 0 0] 35)
    go_upto_region 5 with (fail)
    obtain ⟨w1, hw1⟩ : ∃ w1, w1 = w.alloc (.cells #[.slice none 0 0] 35) := ⟨_, rfl⟩
    rw [← hw1] at hF hU1 ⊢
    have HF := Lib.hid hF
    have HU1 := Lib.hid hU1
    have HW1 := Lib.hid (show w1.heap.size = w.heap.size + 1 by rw [hw1]; simp)
    have q1 : w1.cell? ⟨q, 1, none⟩ = some (.slice A n c) := cell_up q1 hU1
    clear hF hU1 hw1 q2 ht
    obtain ⟨fb, hfb⟩ : ∃ fb, fb = w.heap.size := ⟨_, rfl⟩
    rw [← hfb] at HF HW1 ⊢
    have HFB := Lib.hid hfb
    clear hfb
    go_wp2_with fail
    have hmx : (max ((t : Int) - 1) 0).toNat = m := by omega
    rw [hmx]
    refine (inFl_any A m c w1).mono ?_
    rintro e w2 ⟨rfl, hw2⟩
    have hU2 : Up w1 w2 := by rw [hw2]; exact up_alloc _ _
    have HU2 := Lib.hid hU2
    have HX := Lib.hid (show w2.heap[w1.heap.size]? = some (.cells #[.slice A m c] 50 (0, 0)) by rw [hw2]; exact new_at _ _)
    have HSZ := Lib.hid (show w2.heap.size = w.heap.size + 2 by rw [hw2, World.size_alloc, HW1.out, HFB.out])
    have HX1 := Lib.hid (show w1.heap.size = w.heap.size + 1 by rw [HW1.out, HFB.out])
    rw [HX1.out] at HX ⊢
    obtain ⟨bx, hbx⟩ : ∃ bx, bx = w.heap.size + 1 := ⟨_, rfl⟩
    rw [← hbx] at HX ⊢
    have HBX := Lib.hid hbx
    clear hbx hw2 hU2 q1
    go_wp2_with fail
    refine (wpIn_wide (n := 6)).1 ?_
    refine range_I (by omega) (gf := 39) (lb := #[.pointer (some ⟨bx, 0, none⟩)]) rfl (enters_of Try.func39 (by kernel_rfl) rfl)
      (inFl_seq 5 (by omega) bx A n c m L HN.out (by omega) hn2) (fun _ => rfl) (MissI w fb bx A n c m L) (missI_own (by rw [HSZ.out]; omega)) missI_in ?start
      (fun x => { tmps := #[.pointer (some ⟨q, 0, none⟩), undef, .slice none 0 0, .int .i64 ((t : Int) - 1), .pointer (some ⟨fb, 0, none⟩), .pointer (A.map fun a => ⟨a.block, x * 11, none⟩), .pointer (some ⟨q, 0, none⟩), .pointer (some ⟨q, 0, none⟩), .pointer (some ⟨q, 2, none⟩), .int .i64 (o : Int), .int .i64 ((o : Int) - 1), u11, u12, u13, u14, u15, u16, u17, u18, u19, u20, u21, u22, u23, u24, u25, .pointer (some ⟨q, 0, none⟩), .pointer (some ⟨q, 0, none⟩), .pointer (some ⟨q, 1, none⟩), .slice A n c, .int .i64 ((t : Int) - 1), .int .i64 (max ((t : Int) - 1) 0), .slice A (t - 1) c, .func (.func 39) #[] #[.pointer (some ⟨bx, 0, none⟩)], .pointer (A.map fun a => ⟨a.block, x * 11, none⟩), undef, undef, undef, undef, undef, undef, undef, undef, undef, undef, undef, undef, undef, undef, undef, undef, undef, undef, undef, undef, undef, undef, undef, undef, undef, undef, undef, undef, undef], defers := [] }) ?assign ?body ?done
    case start =>
      exact ⟨.slice none 0 0, (HU2.out.block _ (lt_of_blk HF.out)).trans HF.out, World.ownsRow_nil _ _ _ _, HX.out, by rw [missL_nil]; exact own_up HR.out (HU1.out.trans HU2.out), (HU1.out.trans HU2.out).out _⟩
    case assign =>
      intro l x W K hK
      simp only [encF]
      gi_wp2
      exact hK
    case body =>
      rintro l pre x W hI ⟨hxm, hpre, hfl⟩
      obtain ⟨v, h1, h2, h3, h4, h5⟩ := hI
      obtain ⟨y, hy⟩ : ∃ y, L[x]? = some y := ⟨_, List.getElem?_eq_getElem (by rw [← HN.out]; omega)⟩
      have hnp : x ∉ pre := fun h => by rw [hpre] at h; have := flU_lt x h; omega
      have hyM : (missL L pre)[x]? = some y := (missL_at hnp).trans hy
      obtain ⟨g, rfl⟩ := row_at h4 (by omega)
      have hpl : (fastP L pre).length ≤ 256 := Nat.le_trans (fastP_len _ _) (by rw [hpre]; exact Nat.le_trans (flU_len _ _) (by omega))
      have hmi := HM.out y (List.mem_of_getElem? hy)
      have k8 : W.cell? ⟨g, x * 11 + 8, none⟩ = some (.int .i64 (y.x.miss : Int)) := row_cell h4 (rowG_at itc 11 itc_len hyM (j := 8) rfl)
      have k10 : W.cell? ⟨g, x * 11 + 10, none⟩ = some (.bool y.x.mkd) := row_cell h4 (rowG_at itc 11 itc_len hyM (j := 10) rfl)
      have k7 : W.cell? ⟨g, x * 11 + 7, none⟩ = some (.int .i64 y.x.path) := row_cell h4 (rowG_at itc 11 itc_len hyM (j := 7) rfl)
      have fz : ∀ j, W.frozen? ⟨g, j, none⟩ = false := fun j => World.ownsRow.frozenAt h4 j
      have f8 := fz (x * 11 + 8)
      have f10 := fz (x * 11 + 10)
      have HI := Lib.hid (And.intro h1 (And.intro h2 (And.intro h3 (And.intro h4 h5))))
      have HY := Lib.hid (And.intro hy (And.intro hyM hnp))
      clear h1 h2 h3 h4 h5 hy hyM hnp fz hpre hfl
      simp only [Option.map_some]
      by_cases hm2 : y.x.miss = 2
      · rw [hm2] at k8
        have HRA := Lib.hid (row_missA HI.out.2.2.2.1 HY.out.2.1 hm2 3)
        have hc := cell_of HI.out.1 (j := 0) rfl
        gi_wp2
        have mixed : Try.prog.follows .mixedOrders = true := by kernel_rfl
        have hgl : g < w.heap.size := (row_lt HR.out (k := g) rfl).2
        have hK3 : KeepsOthers W (((W.setCell ⟨g, x * 11 + 8, none⟩ (.int .i64 3)).setCell ⟨g, x * 11 + 8, none⟩ (.int .i64 0)).setCell ⟨g, x * 11 + 10, none⟩ (.bool true)) := ((KeepsOthers.setCell _ _ _).trans (KeepsOthers.setCell _ _ _)).trans (KeepsOthers.setCell _ _ _)
        generalize ((W.setCell ⟨g, x * 11 + 8, none⟩ (.int .i64 3)).setCell ⟨g, x * 11 + 8, none⟩ (.int .i64 0)).setCell ⟨g, x * 11 + 10, none⟩ (.bool true) = W3 at HRA hK3 ⊢
        have HF3 := Lib.hid (HRA.out.2.blk HI.out.1 (by have := HFB.out; omega))
        have HR3 := Lib.hid (show W3.ownsRow w.heap.size 3 1 v (fastP L pre).length (ints .i64 (fastP L pre)) from HRA.out.2.own HI.out.2.1 (fun k hk e => by have := (World.ownsRow.lt HI.out.2.1 k hk).1; omega))
        have HX3 := Lib.hid (HRA.out.2.blk HI.out.2.2.1 (by have := HBX.out; omega))
        have HO3 := Lib.hid (show Out (fun k => blk? (some (⟨g, 0, none⟩ : Addr)) = some k) w W3 from HI.out.2.2.2.2.trans (HRA.out.2.mono fun k hk => by rw [hk]; rfl) (Sub.refl _ _))
        have c0 : W3.cell? ⟨fb, 0, none⟩ = some v := cell_of HF3.out rfl
        have k7 : W3.cell? ⟨g, x * 11 + 7, none⟩ = some (.int .i64 y.x.path) := by
          have hk : x < (missL L pre).length := (List.getElem?_eq_some_iff.1 HY.out.2.1).1
          refine row_cell HRA.out.1 (rowG_at itc 11 itc_len (i := x) (x := missB y) (List.getElem?_set_self hk) (j := 7) ?_)
          unfold missB; rw [if_pos hm2]; rfl
        clear k8 k10 f8 f10 hc
        obtain ⟨Af, cf, rfl⟩ := own_slice HR3.out
        obtain ⟨kf, hkf⟩ : ∃ kf, kf = (fastP L pre).length := ⟨_, rfl⟩
        rw [← hkf] at hpl HR3 c0
        have HKF := Lib.hid hkf
        clear hkf
        obtain ⟨wA, hwA⟩ : ∃ z, z = W3.drew := ⟨_, rfl⟩
        have UA : Up W3 wA := by rw [hwA]; exact Up.drew W3
        obtain ⟨wB, hwB⟩ : ∃ z, z = wA.alloc (.cells #[.int .i64 y.x.path] 3) := ⟨_, rfl⟩
        have UB : Up wA wB := by rw [hwB]; exact up_alloc _ _
        have HBB : wB.heap[wA.heap.size]? = some (.cells #[.int .i64 y.x.path] 3 (0, 0)) := by rw [hwB]; exact new_at _ _
        have hB : (Instr.buildSlice 35 1 #[(0, .int .i64 y.x.path)]).run Try.prog wA = .ok (.slice (some ⟨wA.heap.size, 0, none⟩) 1 1) wB := by rw [hwB]; kernel_rfl
        obtain ⟨A2, c2, wC, rC, OC, RC, EC⟩ := append_G (ty := 35) Try.underlying35 info3i rfl (by omega) (own_up HR3.out (UA.trans UB)) (some ⟨wA.heap.size, 0, none⟩) 1 1 [.int .i64 y.x.path] rfl (fun _ => ⟨_, 0, rfl, lt_of_blk HBB, fun j u hu => cell_of HBB (by rw [Nat.zero_add]; simpa using hu)⟩) (by simp [Value.oneCell']) (by omega) (by omega) (by have := UA.size; have := UB.size; have := HO3.out.size; omega)
        have gAf : ∀ k, blk? Af = some k → w.heap.size ≤ k ∧ k ≠ fb := fun k hk => ⟨(row_lt HR3.out hk).1, fun e => by
          obtain ⟨cs, hcs⟩ := row_blk2 HR3.out hk
          rw [e, HF3.out] at hcs
          injection hcs with hcs; injection hcs with _ hcs; cases hcs⟩
        have cB : wB.cell? ⟨fb, 0, none⟩ = some (.slice Af kf cf) := cell_up c0 (UA.trans UB)
        have hFB := ((UA.trans UB).block _ (lt_of_blk HF3.out)).trans HF3.out
        have hFC := OC.blk hFB (fun e => (gAf fb e).2 rfl)
        obtain ⟨wD, hwD⟩ : ∃ z, z = wC.setCell ⟨fb, 0, none⟩ (.slice A2 (kf + 1) c2) := ⟨_, rfl⟩
        have OD := setCell_out wC fb 0 (.slice A2 (kf + 1) c2)
        have TD := setCell_at (j := 0) (.slice A2 (kf + 1) c2) hFC
        have KD : KeepsOthers wC wD := by rw [hwD]; exact KeepsOthers.setCell _ _ _
        rw [← hwD] at OD TD
        refine stagedIn_lit rfl (by kernel_rfl) (facts [Is (.slice Af kf cf), Is (.pointer (some ⟨g, x * 11, none⟩)), Is (.pointer (some ⟨g, x * 11, none⟩)), Is (.pointer (some ⟨g, x * 11 + 7, none⟩)), Is (.int .i64 y.x.path), Is (.slice (some ⟨wA.heap.size, 0, none⟩) 1 1), Is (.slice A2 (kf + 1) c2), Tru]) (Stg [5, 6, 7] (fun k z => z = [wA, wB, wC].getD k wD)) 64 rfl rfl rfl (Stg.start (by rw [hwA]; rfl)) ?_ ?_
        · refine ⟨?_, ?_, ?_, ?_, ?_, ?_, ?_, ?_, trivial⟩
          · refine opS_same rfl rfl fun Lx ac w1 hJ hl hc ho hd => ?_
            have s4 : ac.eval (.tmp 4) = .pointer (some ⟨fb, 0, none⟩) := ho 4 rfl
            obtain ⟨kk, hkk, hW⟩ := hJ.ahead (j := 1) (x := 6) rfl (reach_not hc (i := 0) (n := 8) rfl hl)
            have hcell : w1.cell? ⟨fb, 0, none⟩ = some (.slice Af kf cf) := by
              rcases (show kk = 0 ∨ kk = 1 by omega) with rfl | rfl
              · rw [show w1 = wA from hW]; exact cell_up c0 UA
              · rw [show w1 = wB from hW]; exact cB
            exact ⟨_, x_load 35 (.tmp 4) rfl s4 (run_load1 agg35 (hcell)), rfl⟩
          · refine opS_same rfl rfl fun Lx ac w1 hJ hl hc ho hd => ?_
            have s5 : ac.eval (.tmp 5) = .pointer (some ⟨g, x * 11, none⟩) := ho 5 rfl
            exact ⟨_, x_move (.tmp 5) rfl s5, rfl⟩
          · refine opS_same rfl rfl fun Lx ac w1 hJ hl hc ho hd => ?_
            have d1 : ac.eval (.tmp 54) = .pointer (some ⟨g, x * 11, none⟩) := hd 1 _ _ rfl rfl rfl
            exact ⟨_, x_nil (.tmp 54) rfl d1, rfl⟩
          · refine opS_same rfl rfl fun Lx ac w1 hJ hl hc ho hd => ?_
            have d2 : ac.eval (.tmp 55) = .pointer (some ⟨g, x * 11, none⟩) := hd 2 _ _ rfl rfl rfl
            exact ⟨_, x_field 56 (.tmp 55) 1 rfl d2 (fld561 _ _ _), rfl⟩
          · refine opS_same rfl rfl fun Lx ac w1 hJ hl hc ho hd => ?_
            have d3 : ac.eval (.tmp 56) = .pointer (some ⟨g, x * 11 + 7, none⟩) := hd 3 _ _ rfl rfl rfl
            have hW : w1 = wA := hJ.first (reach_not hc (i := 4) (n := 8) rfl hl)
            exact ⟨_, x_load 3 (.tmp 56) rfl d3 (run_load1 agg3 (by rw [hW]; exact cell_up k7 UA)), rfl⟩
          · refine opS_writeV (j := 0) rfl (by decide) rfl (fun _ _ h => absurd h (by omega)) fun ac wx hW ho hd => ?_
            have d4 : ac.eval (.tmp 57) = .int .i64 y.x.path := hd 4 _ _ rfl rfl rfl
            obtain rfl := (show wx = wA from hW)
            exact ⟨_, _, x_bslice 35 1 _ rfl (by simp only [List.map_toArray, List.map_cons, List.map_nil, d4]; exact hB), rfl, rfl, fun q v _ => facts_free (by simp [free_is, free_tru]) q v⟩
          · refine opS_writeV (j := 1) rfl (by decide) rfl (fun y hy _ => by simp at hy; subst hy; rfl) fun ac wx hW ho hd => ?_
            have d0 : ac.eval (.tmp 53) = .slice Af kf cf := hd 0 _ _ rfl rfl rfl
            have d5 : ac.eval (.tmp 58) = .slice (some ⟨wA.heap.size, 0, none⟩) 1 1 := hd 5 _ _ rfl rfl rfl
            obtain rfl := (show wx = wB from hW)
            exact ⟨_, _, x_append (.tmp 53) (.tmp 58) 35 35 rfl d0 d5 rC, rfl, rfl, fun q v _ => facts_free (by simp [free_is, free_tru]) q v⟩
          · refine opS_write (j := 2) rfl rfl (by decide) rfl (fun y hy _ => by simp at hy; subst hy; rfl) fun ac wx hW ho hd => ?_
            have s4 : ac.eval (.tmp 4) = .pointer (some ⟨fb, 0, none⟩) := ho 4 rfl
            have d6 : ac.eval (.tmp 59) = .slice A2 (kf + 1) c2 := hd 6 _ _ rfl rfl rfl
            obtain rfl := (show wx = wC from hW)
            exact ⟨_, x_store 35 (.tmp 4) (.tmp 59) rfl s4 d6 (run_store1 siz35 hFC (by simp) rfl rfl), hwD.symm, fun _ => trivial, fun q v => facts_free (by simp [free_is, free_tru]) q v⟩
        · intro L9 a9 wF hI9 hall
          obtain rfl : wF = wD := by
            obtain ⟨k, hk, hW⟩ := hI9.done hall (by decide)
            rcases Nat.eq_or_lt_of_le hk with h4 | h4
            · rw [hW, ← h4]; rfl
            · rw [hW, List.getD_eq_getElem?_getD, List.getElem?_eq_none (by simp at h4 ⊢; omega)]; rfl
          have hA2 : ∀ k, blk? A2 = some k → w.heap.size ≤ k ∧ k ≠ fb ∧ k ≠ bx := fun k hk => by
            rcases EC with h3 | h3
            · have h6 := gAf k (h3.symm.trans hk)
              refine ⟨h6.1, h6.2, fun e => ?_⟩
              obtain ⟨cs, hcs⟩ := row_blk2 HR3.out (h3.symm.trans hk)
              rw [e, HX3.out] at hcs
              injection hcs with hcs; injection hcs with _ hcs; cases hcs
            · rw [hk] at h3; injection h3 with h3
              have := lt_of_blk hFB
              have := lt_of_blk HX3.out
              have := UA.size; have := UB.size; have := HO3.out.size
              omega
          have gbx : ∀ k, blk? Af = some k → k ≠ bx := fun k hk e => by
            obtain ⟨cs, hcs⟩ := row_blk2 HR3.out hk
            rw [e, HX3.out] at hcs
            injection hcs with hcs; injection hcs with _ hcs; cases hcs
          have hUW := UA.trans UB
          have KC : KeepsOthers wB wC := ⟨OC.size, fun k o hk ho => (OC.block k (Array.getElem?_eq_some_iff.1 hk).1 (fun e => by
            obtain ⟨cs, hcs⟩ := row_blk2 (own_up HR3.out hUW) e
            rw [hk] at hcs; injection hcs with hcs; rw [hcs] at ho; cases ho)).trans hk⟩
          have KB : KeepsOthers W3 wB := ⟨hUW.size, fun k o hk ho => (hUW.block k (Array.getElem?_eq_some_iff.1 hk).1).trans hk⟩
          refine ⟨((hK3.trans KB).trans (KC.trans KD)).from _, .slice A2 (kf + 1) c2, TD, ?_, ?_, ?_, ?_⟩
          · have := OD.own RC (fun k hk e => by rw [ownBlock_slice] at hk; exact (hA2 k hk).2.1 e)
            rw [fastP_step HY.out.1, if_pos hm2, List.length_append, ints_append, ← HKF.out]
            exact this
          · exact OD.blk (OC.blk ((hUW.block _ (lt_of_blk HX3.out)).trans HX3.out) (fun e => gbx bx e rfl)) (fun e => by have := HFB.out; have := HBX.out; omega)
          · rw [← missL_step HY.out.1]
            exact OD.own (OC.own (own_up HRA.out.1 hUW) (fun k hk e => by rw [ownBlock_slice] at hk; injection hk with hk; have := (gAf k e).1; simp at hk; omega)) (fun k hk e => by rw [ownBlock_slice] at hk; injection hk with hk; have := HFB.out; simp at hk; omega)
          · exact ((HO3.out.trans (hUW.out _) (Sub.refl _ _)).trans OC (fun k hk => .inr (gAf k hk).1)).trans OD (fun k hk => .inr (by rw [hk, HFB.out]; exact Nat.le_refl _))
      · have hm1 : y.x.miss ≤ 1 := by omega
        have HRB := Lib.hid (row_missB HI.out.2.2.2.1 HY.out.2.1 hm2)
        gi_wp2
        have hgl : g < w.heap.size := (row_lt HR.out (k := g) rfl).2
        refine ⟨(KeepsOthers.setCell _ _ _).from _, v, HRB.out.2.blk HI.out.1 (by have := HFB.out; omega), ?_, HRB.out.2.blk HI.out.2.2.1 (by have := HBX.out; omega), by rw [← missL_step HY.out.1]; exact HRB.out.1, HI.out.2.2.2.2.trans (HRB.out.2.mono fun k hk => by rw [hk]; rfl) (Sub.refl _ _)⟩
        rw [fastP_step HY.out.1, if_neg hm2, List.append_nil]
        exact HRB.out.2.own HI.out.2.1 (fun k hk e => by have := (World.ownsRow.lt HI.out.2.1 k hk).1; omega)
    case done =>
      rintro D xs W hD rfl hI hK
      obtain ⟨v, h1, h2, h3, h4, h5⟩ := hI
      obtain ⟨Af, cf, rfl⟩ := own_slice h2
      have hpl : (fastP L (flU L m)).length ≤ 256 := Nat.le_trans (fastP_len _ _) (Nat.le_trans (flU_len _ _) (by omega))
      obtain ⟨kf, hkf⟩ : ∃ kf, kf = (fastP L (flU L m)).length := ⟨_, rfl⟩
      rw [← hkf] at hpl h1 h2
      have HKF := Lib.hid hkf
      have HS := Lib.hid (sortInts w.heap.size Af kf cf (fastP L (flU L m)) W h2 (by omega))
      have c0 : W.cell? ⟨fb, 0, none⟩ = some (.slice Af kf cf) := cell_of h1 rfl
      have gAf : ∀ k, blk? Af = some k → w.heap.size ≤ k ∧ ∃ cs, W.heap[k]? = some (.cells cs 3 (0, 0)) := fun k hk => ⟨(row_lt h2 hk).1, row_blk2 h2 hk⟩
      have HGA := Lib.hid gAf
      have H1 := Lib.hid h1
      have H4 := Lib.hid h4
      have H5 := Lib.hid h5
      have HK := Lib.hid hK
      have HD := Lib.hid hD
      clear h1 h2 h3 h4 h5 hK hkf gAf hD
      go_wp2_with fail
      refine HS.out.mono ?_
      rintro e w3 ⟨rfl, HS3, HO3⟩
      have H13 := Lib.hid (HO3.out.blk H1.out (fun e => by
        obtain ⟨_, cs, hcs⟩ := HGA.out fb e
        rw [H1.out] at hcs; injection hcs with hcs; injection hcs with _ hcs; cases hcs))
      have c0 : w3.cell? ⟨fb, 0, none⟩ = some (.slice Af kf cf) := cell_of H13.out rfl
      have HC := Lib.hid (compInts w.heap.size Af kf cf _ w3 HS3.out (by omega))
      clear HS
      go_wp2_with fail
      refine HC.out.mono ?_
      rintro e w4 ⟨mm, rfl, HMM, HC4, HO4⟩
      have HOW := Lib.hid (HO3.out.trans HO4.out (Sub.refl _ _))
      have HK4 := Lib.hid (HOW.out.blk HK.out (fun e => by
        obtain ⟨_, cs, hcs⟩ := HGA.out D e
        rw [HK.out] at hcs; cases hcs))
      have HR4 := Lib.hid (HOW.out.own H4.out (fun k hk e => by
        obtain ⟨_, cs, hcs⟩ := HGA.out k e
        rw [ownBlock_slice] at hk
        have := (row_lt HR.out hk).2
        have := (HGA.out k e).1
        omega))
      have HO5 := Lib.hid (show Out (fun k => blk? A = some k) w w4 from H5.out.trans HOW.out (fun k hk => .inr (HGA.out k hk).1))
      clear HC HS3 HO3 c0
      go_wp2_with fail
      refine ⟨by simp, .inl ⟨_, _, rfl, run_takeDeferred HK4.out, ?_⟩⟩
      refine ⟨_, results_tmp rfl _ _ _, Af, mm, cf, rfl, ?_, ?_, ?_, ?_⟩
      · rw [HMT.out] at HMM; exact HMM
      · have h6 := HC4.out
        rw [HMT.out] at h6
        exact Lib.hid (ownsRow_putObj h6 _ HK4.out rfl)
      · have h6 := HR4.out
        rw [HMT.out] at h6
        exact Lib.hid (ownsRow_putObj h6 _ HK4.out rfl)
      · exact Lib.hid (HO5.out.trans ⟨rfl, rfl, rfl, by simp, fun k hk hn => World.putObj_heap_other hn⟩ (S' := fun k => k = D) (fun k hk => .inr (by rw [hk]; have := HD.out; have := HSZ.out; omega)))
end Go.Proofs.Ytdlehchofmdjbaa
