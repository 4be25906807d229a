import Derived.Test.YtdhkbpnhbbedmaaWt4
namespace Go.Proofs.Ytdhkbpnhbbedmaa
open Go Go.RowKit
set_option linter.unusedVariables false
set_option linter.unusedSimpArgs false
theorem ev_of {ev : Int} (h : 1 ≤ ev ∧ ev ≤ 5) : Ev ev := by unfold Ev; omega
theorem of_ev {ev : Int} (h : Ev ev) : 1 ≤ ev ∧ ev ≤ 5 := by unfold Ev at h; omega
theorem stepE_any (x : Wt) (ev : Int) (hx : x.Ok) (hev : Ev ev) (w : World) : Calls Try.prog 7 #[.agg x.cs, .int .i64 ev] w (Rs (stepM x ev).1 (stepM x ev).2 0 w) :=
  stepE_ok x _ _ ev w (wth_t hx.1) (wth_t hx.2) (wth_t (of_ev hev)) hev hx rfl
theorem stepE_bad (x : Wt) (ev : Int) (h : ¬ (x.Ok ∧ Ev ev)) (w : World) : Calls Try.prog 7 #[.agg x.cs, .int .i64 ev] w (Rs W0 D0 1 w) := by
  by_cases h1 : 0 ≤ x.s ∧ x.s ≤ 4
  · by_cases h2 : -1 ≤ x.n ∧ x.n ≤ 3
    · by_cases h3 : 1 ≤ ev ∧ ev ≤ 5
      · exact absurd ⟨⟨h1, h2⟩, ev_of h3⟩ h
      · exact stepE_e x ev w (wth_t h1) (wth_t h2) (wth_f h3)
    · exact stepE_n x ev w (wth_t h1) (wth_f h2)
  · exact stepE_s x ev w (wth_f h1)
theorem watched_bad (x : Wt) (ev : Int) (h : ¬ (x.Ok ∧ Ev ev)) (w : World) : Calls Try.prog 8 #[.agg x.cs, .int .i64 ev] w (Rw W0 0 1 w) := by
  obtain ⟨s, p, n⟩ := x
  have H : ¬ (((0 ≤ s ∧ s ≤ 4) ∧ (-1 ≤ n ∧ n ≤ 3)) ∧ Ev ev) := h
  by_cases d0 : s < 0
  · exact wbad_a s n ev p w (decide_eq_true d0)
  by_cases d1 : s > 4
  · exact wbad_b s n ev p w (decide_eq_false d0) (decide_eq_true d1)
  by_cases d2 : n < -1
  · exact wbad_c s n ev p w (decide_eq_false d0) (decide_eq_false d1) (decide_eq_true d2)
  by_cases d3 : n > 3
  · exact wbad_d s n ev p w (decide_eq_false d0) (decide_eq_false d1) (decide_eq_false d2) (decide_eq_true d3)
  by_cases d4 : ev < 1
  · exact wbad_e s n ev p w (decide_eq_false d0) (decide_eq_false d1) (decide_eq_false d2) (decide_eq_false d3) (decide_eq_true d4)
  by_cases d5 : ev > 5
  · exact wbad_f s n ev p w (decide_eq_false d0) (decide_eq_false d1) (decide_eq_false d2) (decide_eq_false d3) (decide_eq_false d4) (decide_eq_true d5)
  exact absurd ⟨⟨⟨by omega, by omega⟩, ⟨by omega, by omega⟩⟩, ev_of ⟨by omega, by omega⟩⟩ H
theorem watched_any (x : Wt) (ev : Int) (hx : x.Ok) (hev : Ev ev) (w : World) : Calls Try.prog 8 #[.agg x.cs, .int .i64 ev] w (Rw (stepM x ev).1 (stepM x ev).2.bits 0 w) := by
  obtain ⟨s, p, n⟩ := x
  obtain ⟨⟨hs1, hs2⟩, hn1, hn2⟩ := hx
  dsimp only at hs1 hs2 hn1 hn2
  have c1 : decide (n < -1) = false := decide_eq_false (by omega)
  have c2 : decide (n > 3) = false := decide_eq_false (by omega)
  have hs : s = 0 ∨ s = 1 ∨ s = 2 ∨ s = 3 ∨ s = 4 := by omega
  rcases hs with rfl | rfl | rfl | rfl | rfl
  · rcases hev with rfl | rfl | rfl | rfl | rfl
    · exact wt_01 n p w c1 c2
    · exact wt_02 n p w c1 c2
    · exact wt_03 n p w c1 c2
    · exact wt_04 n p w c1 c2
    · exact wt_05 n p w c1 c2
  · rcases hev with rfl | rfl | rfl | rfl | rfl
    · exact wt_11 n p w c1 c2
    · exact wt_12 n p w c1 c2
    · exact wt_13 n p w c1 c2
    · exact wt_14 n p w c1 c2
    · cases p
      · exact wt_15f n false w c1 c2
      · exact wt_15t n true w c1 c2
  · rcases hev with rfl | rfl | rfl | rfl | rfl
    · exact wt_21 n p w c1 c2
    · exact wt_22 n p w c1 c2
    · exact wt_23 n p w c1 c2
    · exact wt_24 n p w c1 c2
    · exact wt_25 n p w c1 c2
  · rcases hev with rfl | rfl | rfl | rfl | rfl
    · exact wt_31 n p w c1 c2
    · exact wt_32 n p w c1 c2
    · exact wt_33 n p w c1 c2
    · exact wt_34 n p w c1 c2
    · exact wt_35 n p w c1 c2
  · rcases hev with rfl | rfl | rfl | rfl | rfl
    · exact wt_41 n p w c1 c2
    · exact wt_42 n p w c1 c2
    · by_cases hn : n < 2
      · rw [show stepM ⟨4, p, n⟩ 3 = (⟨4, false, n + 1⟩, ⟨false, false, false, false, false, false⟩) by simp [stepM, reoM, hn]]; exact wt_43l n p w c1 c2 (decide_eq_true hn) hn1 hn2
      · rw [show stepM ⟨4, p, n⟩ 3 = (⟨1, false, 0⟩, ⟨false, false, true, false, false, true⟩) by simp [stepM, reoM, hn]]; exact wt_43h n p w c1 c2 (decide_eq_false hn)
    · exact wt_44 n p w c1 c2
    · cases p
      · exact wt_45f n false w c1 c2
      · by_cases hn : n ≥ 0
        · rw [show stepM ⟨4, true, n⟩ 5 = (⟨4, true, -1⟩, ⟨false, false, false, false, false, true⟩) by simp [stepM, reoM, show ¬ n = -1 by omega]]; exact wt_45t n true w c1 c2 (decide_eq_true hn)
        · rw [show stepM ⟨4, true, n⟩ 5 = (⟨3, false, 0⟩, ⟨false, false, false, true, false, true⟩) by simp [stepM, reoM, show n = -1 by omega]]; exact wt_45m n true w c1 c2 (decide_eq_false hn)
set_option maxRecDepth 100000 in
set_option maxHeartbeats 1000000 in
theorem bits_any (d : Du) (w : World) : Calls Try.prog 10 #[.agg d.cs] w fun e w' => e = .returned (.int .i64 d.bits) ∧ Hid (Up w w') := by
  have HU := Lib.hid (up_alloc w (.cells d.cs 25))
  have HM := Lib.hid (new_at w (.cells d.cs 25))
  obtain ⟨a, f, b, c, t, v⟩ := d
  go_enter Try.func10, Try.ntmps10
  go_upto_region 1 with (fail)
  generalize w.alloc (.cells #[.bool a, .bool f, .bool b, .bool c, .bool t, .bool v] 25) = w1 at HU HM ⊢
  generalize w.heap.size = q at HM ⊢
  have k0 : w1.cell? ⟨q, 0, none⟩ = some (.bool a) := cell_of HM.out rfl
  have k1 : w1.cell? ⟨q, 1, none⟩ = some (.bool f) := cell_of HM.out rfl
  have k2 : w1.cell? ⟨q, 2, none⟩ = some (.bool b) := cell_of HM.out rfl
  have k3 : w1.cell? ⟨q, 3, none⟩ = some (.bool c) := cell_of HM.out rfl
  have k4 : w1.cell? ⟨q, 4, none⟩ = some (.bool t) := cell_of HM.out rfl
  have k5 : w1.cell? ⟨q, 5, none⟩ = some (.bool v) := cell_of HM.out rfl
  cases a <;> cases f <;> cases b <;> cases c <;> cases t <;> cases v
  all_goals
    go_wp2_with fail
    go_ret
    exact ⟨rfl, HU⟩
set_option maxRecDepth 100000 in
set_option maxHeartbeats 1000000 in
theorem answers_ok (w : World) : Calls Try.prog 9 #[] w fun e w' => e = .returned (.bool true) ∧ Hid (Up w w') := by
  have HS := Lib.hid (fun wx => stepE_any W0 1 ⟨⟨by decide, by decide⟩, by decide, by decide⟩ (.inl rfl) wx)
  go_enter Try.func9, Try.ntmps9
  go_wp2_with fail
  refine (HS.out _).mono ?_
  rintro e w2 ⟨rfl, HU⟩
  clear HS
  change Hid (Up w w2) at HU
  have HU3 := Lib.hid ((HU.out.trans (up_alloc w2 (.cells #[.int .i64 1, .bool false, .int .i64 0] 23))).trans (up_alloc _ (.cells #[.bool false, .bool false, .bool false, .bool false, .bool false, .bool true] 25)))
  go_wp2_with fail
  go_ret
  exact ⟨rfl, HU3⟩
end Go.Proofs.Ytdhkbpnhbbedmaa
