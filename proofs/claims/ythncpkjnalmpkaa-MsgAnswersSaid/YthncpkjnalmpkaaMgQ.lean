import Derived.Test.YthncpkjnalmpkaaMgO
namespace Go.Proofs.Ythncpkjnalmpkaa
open Go Go.RowKit Mg
set_option linter.unusedVariables false
set_option linter.unusedSimpArgs false
set_option maxRecDepth 100000 in
set_option maxHeartbeats 20000000 in
theorem rgetmsg_any (A : Option Addr) (n c : Nat) (b : List Int) (w : World) (h : InB w A n c b) (hm : n ≤ 140737488355328) : Calls Try.prog 15 #[.slice A n c] w (GPost b w) := by
  have HI := Lib.hid h
  have HL := Lib.hid h.len
  clear h
  have HU := Lib.hid (up_alloc w (.cells #[.bool false, .bool false, .bool false, .bool false, .int .u32 0, .int .u32 0, .int .u32 0, .int .u32 0, .slice none 0 0] 25))
  have HQ := Lib.hid (new_at w (.cells #[.bool false, .bool false, .bool false, .bool false, .int .u32 0, .int .u32 0, .int .u32 0, .int .u32 0, .slice none 0 0] 25))
  go_enter Try.func15, Try.ntmps15
  go_upto_region 1 with (fail)
  obtain ⟨q, HQE⟩ : ∃ q, Hid (w.heap.size = q) := ⟨_, Lib.hid rfl⟩
  rw [HQE.out] at HQ ⊢
  generalize w.alloc (.cells #[.bool false, .bool false, .bool false, .bool false, .int .u32 0, .int .u32 0, .int .u32 0, .int .u32 0, .slice none 0 0] 25) = wa at HU HQ ⊢
  have HIa := Lib.hid (HI.out.up HU.out)
  go_wp2_with fail
  refine (rhead_any A n c b wa HIa.out hm).mono ?_
  rintro e wb ⟨m, k, rfl, hh, hub⟩
  have HUb := Lib.hid (HU.out.trans hub.out)
  have HQb := Lib.hid (blk_up HQ.out hub.out)
  obtain ⟨p, HPP⟩ : ∃ p, Hid (wb.heap.size = p) := ⟨_, Lib.hid rfl⟩
  have hqp : q < p := by have := lt_of_blk HQb.out; have := HPP.out; omega
  have HQ0 := Lib.hid (new_at wb (.cells #[.bool false, .bool false, .bool false, .bool false, .int .u32 0, .int .u32 0, .int .u32 0, .int .u32 0, .slice none 0 0] 25))
  by_cases hk : k = 0
  case neg =>
    have d1 : (k != 0) = true := by simpa using hk
    have HG := Lib.hid (headM_no hh.out hk)
    unfold noA msV
    go_upto_region 2 with (fail)
    have HQn := Lib.hid (blk_up HQb.out (up_alloc wb (.cells #[.bool m.req, .bool m.prox, .bool m.fail, .bool m.again, .int .u32 m.code, .int .u32 m.app, .int .u32 m.hop, .int .u32 m.end_, .slice none 0 0] 25)))
    have HUn := Lib.hid (HUb.out.trans (up_alloc wb (.cells #[.bool m.req, .bool m.prox, .bool m.fail, .bool m.again, .int .u32 m.code, .int .u32 m.app, .int .u32 m.hop, .int .u32 m.end_, .slice none 0 0] 25)))
    generalize wb.alloc (.cells #[.bool m.req, .bool m.prox, .bool m.fail, .bool m.again, .int .u32 m.code, .int .u32 m.app, .int .u32 m.hop, .int .u32 m.end_, .slice none 0 0] 25) = wn at HQn HUn ⊢
    go_wp2_with (with_reducible refine wpList_store_row rfl 25 _ _ rfl q #[.bool false, .bool false, .bool false, .bool false, .int .u32 0, .int .u32 0, .int .u32 0, .int .u32 0, .slice none 0 0] rfl rfl 25 _ HQn.out (by kernel_rfl) rfl (by simp [Value.oneCell']) ?_)
    refine bodyPost_ret (results_row_tmp (fn := Try.f15) (p := 2) (u := 3) (ty := 25) rfl _ _ q 25 _ (0, 0) _ rfl (setRow_heap _ _ _ _ _ _ HQn.out) Try.underlying25 rfl (by kernel_rfl)) rfl ?_
    exact gPost_no rfl HG.out (below_setRow HUn.out (by rw [HQE.out]; exact Nat.le_refl _) _)
  subst hk
  obtain ⟨hmr, hh0, h20⟩ := headM_yes hh.out
  have HH0 := Lib.hid hh0
  rw [HL.out] at h20
  have HMR := Lib.hid hmr
  clear hmr hh hh0
  obtain ⟨g, o, rfl⟩ := HI.out.some_ (by omega)
  unfold noA msV
  go_upto_region 4 with (fail)
  have HQn := Lib.hid (blk_up HQb.out (up_alloc wb (.cells #[.bool m.req, .bool m.prox, .bool m.fail, .bool m.again, .int .u32 m.code, .int .u32 m.app, .int .u32 m.hop, .int .u32 m.end_, .slice none 0 0] 25)))
  have HUn := Lib.hid (HUb.out.trans (up_alloc wb (.cells #[.bool m.req, .bool m.prox, .bool m.fail, .bool m.again, .int .u32 m.code, .int .u32 m.app, .int .u32 m.hop, .int .u32 m.end_, .slice none 0 0] 25)))
  have HXn := Lib.hid (new_at wb (.cells #[.bool m.req, .bool m.prox, .bool m.fail, .bool m.again, .int .u32 m.code, .int .u32 m.app, .int .u32 m.hop, .int .u32 m.end_, .slice none 0 0] 25))
  have HIn := Lib.hid (HIa.out.up (hub.out.trans (up_alloc wb (.cells #[.bool m.req, .bool m.prox, .bool m.fail, .bool m.again, .int .u32 m.code, .int .u32 m.app, .int .u32 m.hop, .int .u32 m.end_, .slice none 0 0] 25))))
  rw [HPP.out] at HXn ⊢
  generalize wb.alloc (.cells #[.bool m.req, .bool m.prox, .bool m.fail, .bool m.again, .int .u32 m.code, .int .u32 m.app, .int .u32 m.hop, .int .u32 m.end_, .slice none 0 0] 25) = wn at HQn HUn HXn HIn ⊢
  by_cases hc20 : c = 20
  case' pos =>
    subst hc20
    have HT : Hid (InB wn (some ⟨g, o, none⟩) (n - 20) 0 (b.drop 20)) := Lib.hid (by
      have hc := HIn.out.cap
      have : b.drop 20 = [] := List.drop_eq_nil_of_le (by rw [HL.out]; omega)
      rw [this, show n - 20 = 0 by omega]
      exact ⟨Cells.nil _ _, byt_nil, Nat.zero_le _, rfl⟩)
  case' neg =>
    have HT : Hid (InB wn (some ⟨g, o + 20, none⟩) (n - 20) (c - 20) (b.drop 20)) := Lib.hid (HIn.out.tail h20)
  all_goals
    go_wp2_with fail
    refine (rget_any' _ _ _ (b.drop 20) wn HT.out (by omega)).mono ?_
    rintro e wc ⟨l, p', k', A1, n1, c1, rfl, hG, hGL, hn1, hu⟩
    have HGA : Hid (getA 64 0 (b.drop 20) = (l.map AvB.pure, p', k')) := Lib.hid (by
      rcases hG.out with ⟨a1, a2⟩ | ⟨a1, a2⟩
      · exact a2
      · have h1 := headE_ok HH0.out
        rw [List.length_drop] at a1
        omega)
    have HQc := Lib.hid (blk_up HQn.out hu.out)
    have HXc := Lib.hid (blk_up HXn.out hu.out)
    have HUc := Lib.hid (HUn.out.trans hu.out)
    have HS := Lib.hid (show p < wn.heap.size from lt_of_blk HXn.out)
    have HSn := Lib.hid HUn.out.size
    by_cases hk' : k' = 0
    case neg =>
      have d2 : (k' != 0) = true := by simpa using hk'
      go_wp2_with (with_reducible refine wpList_store_row rfl 25 _ _ rfl q #[.bool false, .bool false, .bool false, .bool false, .int .u32 0, .int .u32 0, .int .u32 0, .int .u32 0, .slice none 0 0] rfl rfl 25 _ HQc.out (by kernel_rfl) rfl (by simp [Value.oneCell']) ?_)
      refine bodyPost_ret (results_row_tmp (fn := Try.f15) (p := 2) (u := 3) (ty := 25) rfl _ _ q 25 _ (0, 0) _ rfl (setRow_heap _ _ _ _ _ _ HQc.out) Try.underlying25 rfl (by kernel_rfl)) rfl ?_
      exact gPost_no rfl (getM_err HH0.out (by rw [HGA.out]) hk') (below_setRow HUc.out (by rw [HQE.out]; exact Nat.le_refl _) _)
    case pos =>
      subst hk'
      have z8 : wc.cell? ⟨p, 8, none⟩ = some (.slice none 0 0) := cell_of HXc.out (j := 8) rfl
      have hf := frozen_at (j := 8) HXc.out
      go_upto_region 8 with (fail)
      have HXd := Lib.hid (setCell_at (j := 8) (.slice A1 n1 c1) HXc.out)
      have HOd := Lib.hid (setCell_out wc p 8 (.slice A1 n1 c1))
      generalize wc.setCell ⟨p, 8, none⟩ (.slice A1 n1 c1) = wd at HXd HOd ⊢
      have HQd := Lib.hid (HOd.out.blk HQc.out (by omega))
      have x0 : wd.cell? ⟨p, 0, none⟩ = some (.bool m.req) := cell_of HXd.out (j := 0) rfl
      have x1 : wd.cell? ⟨p, 1, none⟩ = some (.bool m.prox) := cell_of HXd.out (j := 1) rfl
      have x2 : wd.cell? ⟨p, 2, none⟩ = some (.bool m.fail) := cell_of HXd.out (j := 2) rfl
      have x3 : wd.cell? ⟨p, 3, none⟩ = some (.bool m.again) := cell_of HXd.out (j := 3) rfl
      have x4 : wd.cell? ⟨p, 4, none⟩ = some (.int .u32 m.code) := cell_of HXd.out (j := 4) rfl
      have x5 : wd.cell? ⟨p, 5, none⟩ = some (.int .u32 m.app) := cell_of HXd.out (j := 5) rfl
      have x6 : wd.cell? ⟨p, 6, none⟩ = some (.int .u32 m.hop) := cell_of HXd.out (j := 6) rfl
      have x7 : wd.cell? ⟨p, 7, none⟩ = some (.int .u32 m.end_) := cell_of HXd.out (j := 7) rfl
      have x8 : wd.cell? ⟨p, 8, none⟩ = some (.slice A1 n1 c1) := cell_of HXd.out (j := 8) rfl
      go_wp2_with (with_reducible refine wpList_store_row rfl 25 _ _ rfl q #[.bool m.req, .bool m.prox, .bool m.fail, .bool m.again, .int .u32 m.code, .int .u32 m.app, .int .u32 m.hop, .int .u32 m.end_, .slice A1 n1 c1] rfl rfl 25 _ HQd.out (by kernel_rfl) rfl (by simp [Value.oneCell']) ?_)
      refine bodyPost_ret (results_row_tmp (fn := Try.f15) (p := 2) (u := 3) (ty := 25) rfl _ _ q 25 _ (0, 0) _ rfl (setRow_heap _ _ _ _ _ _ HQd.out) Try.underlying25 rfl (by kernel_rfl)) rfl ?_
      have hpw : w.heap.size ≤ p := by have := HQE.out; omega
      have hUd : Up w wd := Below.out HUc.out HOd.out (fun k hk => by omega) HUc.out.size
      have hGd := gl_out (gl_out hGL.out HOd.out (fun k hk e => by have := gl_from hGL.out hk; have := HS.out; omega)) (setRow_out wd q #[.bool m.req, .bool m.prox, .bool m.fail, .bool m.again, .int .u32 m.code, .int .u32 m.app, .int .u32 m.hop, .int .u32 m.end_, .slice A1 n1 c1]) (fun k hk e => by have := gl_from hGL.out hk; have := HS.out; omega)
      refine ⟨⟨m.req, m.prox, m.fail, m.again, m.code, m.app, m.hop, m.end_, A1, n1, c1, l⟩, 0, rfl, Lib.hid ?_, Lib.hid (hGd.base HSn.out), hn1, Lib.hid (below_setRow hUd (by rw [HQE.out]; exact Nat.le_refl _) _)⟩
      rw [getM_fine HH0.out (by rw [HGA.out]), HGA.out, ← HMR.out]
      rfl
end Go.Proofs.Ythncpkjnalmpkaa
