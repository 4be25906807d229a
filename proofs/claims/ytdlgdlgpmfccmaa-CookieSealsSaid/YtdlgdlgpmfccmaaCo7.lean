import Derived.Test.YtdlgdlgpmfccmaaCo3
namespace Go.Proofs.Ytdlgdlgpmfccmaa
open Go Go.RowKit
set_option linter.unusedVariables false
set_option linter.unusedSimpArgs false
/-! cookie.Fresh, the laws' answers, and the law of ages. -/
set_option maxRecDepth 100000 in
set_option maxHeartbeats 4000000 in
theorem fresh_any (x : Cr) (now life : Int) (w : World) (t0 : 0 ≤ x.t) (t1 : x.t ≤ 1099511627776) (n0 : -1099511627776 ≤ now) (n1 : now ≤ 1099511627776) (l0 : 0 ≤ life) (l1 : life ≤ 1099511627776) :
    Calls Try.prog 12 #[x.val, .int .i64 now, .int .i64 life] w (RetB (decide (x.t ≤ now) && decide (now - x.t ≤ life)) w) := by
  have HV := Lib.hid (show Cr.val x = .agg #[.int .i64 x.t, .int .u32 x.a, .int .u32 x.b, .int .u32 x.c, .int .u32 x.d, .int .u32 x.e, .int .u32 x.f, .int .u32 x.g] from rfl)
  have HU := Lib.hid (up_alloc w (.cells #[.int .i64 x.t, .int .u32 x.a, .int .u32 x.b, .int .u32 x.c, .int .u32 x.d, .int .u32 x.e, .int .u32 x.f, .int .u32 x.g] 25))
  have zl : decide (life < 0) = false := by simp; omega
  rw [HV.out]
  by_cases h : x.t ≤ now
  · have zn : decide (now < x.t) = false := by simp; omega
    rw [decide_eq_true h, Bool.true_and]
    go_enter Try.func12, Try.ntmps12
    go_wp2_with fail
    go_ret
    exact ⟨rfl, HU⟩
  · have zn : decide (now < x.t) = true := by simp; omega
    rw [decide_eq_false h, Bool.false_and]
    go_enter Try.func12, Try.ntmps12
    go_wp2_with fail
    go_ret
    exact ⟨rfl, HU⟩
def fiveC : Cr := ⟨5, 1, 2, 0, 0, 0, 0, 0⟩
set_option maxRecDepth 100000 in
set_option maxHeartbeats 4000000 in
theorem answers_ok (w : World) : Calls Try.prog 9 #[] w (RetB true w) := by
  go_enter Try.func9, Try.ntmps9
  go_wp2_with fail
  refine (seal_any 7 fiveC w ⟨by decide, by decide, by decide, by decide, by decide, by decide, by decide, by decide⟩).mono ?_
  rintro e w1 ⟨ys, k, A, N, c, rfl, hr, hN, hO, hu⟩
  obtain ⟨-, rfl, rfl⟩ : fiveC.fit ∧ ys = Cr.enc 7 fiveC ∧ k = 0 := by
    rcases hr.out with h | ⟨h, -, -⟩
    · exact h
    · exact absurd (show fiveC.fit from by decide) h
  obtain rfl : N = 40 := by rw [hN.out, Cr.enc_length]
  clear hr hN hO
  go_wp2_with fail
  go_ret
  exact ⟨rfl, hu⟩
set_option maxRecDepth 100000 in
set_option maxHeartbeats 8000000 in
theorem law_ages (ti li d : Int) (w : World) (ht : 0 ≤ ti ∧ ti < 4294967296) (hl : 0 ≤ li ∧ li < 4294967296) (hd : 0 ≤ d ∧ d < 4294967296) : Calls Try.prog 6 #[.int .u32 ti, .int .u32 li, .int .u32 d] w (RetB true w) := by
  have t0 := ht.1
  have t1 := ht.2
  have l0 := hl.1
  have l1 := hl.2
  have d0 := hd.1
  have d1 := hd.2
  clear ht hl hd
  obtain ⟨x, hx⟩ : ∃ x : Cr, x = ⟨ti, 1, 1, 0, 0, 0, 0, 0⟩ := ⟨_, rfl⟩
  have HV := Lib.hid (show Cr.val x = .agg #[.int .i64 ti, .int .u32 1, .int .u32 1, .int .u32 0, .int .u32 0, .int .u32 0, .int .u32 0, .int .u32 0] from by rw [hx]; rfl)
  have HT := Lib.hid (show x.t = ti from by rw [hx])
  go_enter Try.func6, Try.ntmps6
  go_upto_region 3 with (fail)
  have HN := Lib.hid (show CrAt (w.alloc (.cells #[.int .i64 ti, .int .u32 1, .int .u32 1, .int .u32 0, .int .u32 0, .int .u32 0, .int .u32 0, .int .u32 0] 25)) w.heap.size x from by rw [hx]; exact crAt_new w ⟨ti, 1, 1, 0, 0, 0, 0, 0⟩)
  have HU := Lib.hid (up_alloc w (.cells #[.int .i64 ti, .int .u32 1, .int .u32 1, .int .u32 0, .int .u32 0, .int .u32 0, .int .u32 0, .int .u32 0] 25))
  generalize w.alloc (.cells #[.int .i64 ti, .int .u32 1, .int .u32 1, .int .u32 0, .int .u32 0, .int .u32 0, .int .u32 0, .int .u32 0] 25) = w0 at HN HU ⊢
  generalize w.heap.size = q at HN ⊢
  have HXX := Lib.hid (show x.cells = #[.int .i64 ti, .int .u32 1, .int .u32 1, .int .u32 0, .int .u32 0, .int .u32 0, .int .u32 0, .int .u32 0] from by rw [hx]; rfl)
  clear hx
  have HQ0 := Lib.hid (show ∀ w, CrAt w q x → w.heap[q]? = some (.cells #[.int .i64 ti, .int .u32 1, .int .u32 1, .int .u32 0, .int .u32 0, .int .u32 0, .int .u32 0, .int .u32 0] 25 (0, 0)) from fun w h => by rw [← HXX.out]; exact h)
  go_wp2_with fail
  refine (answers_ok w0).mono ?_
  rintro e w1 ⟨rfl, hu⟩
  have HU1 := Lib.hid (HU.out.trans hu.out)
  have HN1 := Lib.hid (HN.out.up hu.out)
  clear hu
  have c0 : w1.cell? ⟨q, 0, none⟩ = some (.int .i64 ti) := cell_of (HQ0.out _ HN1.out) rfl
  have c1 : w1.cell? ⟨q, 1, none⟩ = some (.int .u32 1) := cell_of (HQ0.out _ HN1.out) rfl
  have c2 : w1.cell? ⟨q, 2, none⟩ = some (.int .u32 1) := cell_of (HQ0.out _ HN1.out) rfl
  have c3 : w1.cell? ⟨q, 3, none⟩ = some (.int .u32 0) := cell_of (HQ0.out _ HN1.out) rfl
  have c4 : w1.cell? ⟨q, 4, none⟩ = some (.int .u32 0) := cell_of (HQ0.out _ HN1.out) rfl
  have c5 : w1.cell? ⟨q, 5, none⟩ = some (.int .u32 0) := cell_of (HQ0.out _ HN1.out) rfl
  have c6 : w1.cell? ⟨q, 6, none⟩ = some (.int .u32 0) := cell_of (HQ0.out _ HN1.out) rfl
  have c7 : w1.cell? ⟨q, 7, none⟩ = some (.int .u32 0) := cell_of (HQ0.out _ HN1.out) rfl
  go_wp2_with fail
  rw [← HV.out]
  have hb : (decide (x.t ≤ ti) && decide (ti - x.t ≤ li)) = true := by rw [HT.out]; simp; omega
  refine (fresh_any x ti li w1 (by rw [HT.out]; omega) (by rw [HT.out]; omega) (by omega) (by omega) (by omega) (by omega)).mono ?_
  rw [hb]
  rintro e w2 ⟨rfl, hu⟩
  have HU2 := Lib.hid (HU1.out.trans hu.out)
  have HN2 := Lib.hid (HN1.out.up hu.out)
  clear hu hb c0 c1 c2 c3 c4 c5 c6 c7
  have c0 : w2.cell? ⟨q, 0, none⟩ = some (.int .i64 ti) := cell_of (HQ0.out _ HN2.out) rfl
  have c1 : w2.cell? ⟨q, 1, none⟩ = some (.int .u32 1) := cell_of (HQ0.out _ HN2.out) rfl
  have c2 : w2.cell? ⟨q, 2, none⟩ = some (.int .u32 1) := cell_of (HQ0.out _ HN2.out) rfl
  have c3 : w2.cell? ⟨q, 3, none⟩ = some (.int .u32 0) := cell_of (HQ0.out _ HN2.out) rfl
  have c4 : w2.cell? ⟨q, 4, none⟩ = some (.int .u32 0) := cell_of (HQ0.out _ HN2.out) rfl
  have c5 : w2.cell? ⟨q, 5, none⟩ = some (.int .u32 0) := cell_of (HQ0.out _ HN2.out) rfl
  have c6 : w2.cell? ⟨q, 6, none⟩ = some (.int .u32 0) := cell_of (HQ0.out _ HN2.out) rfl
  have c7 : w2.cell? ⟨q, 7, none⟩ = some (.int .u32 0) := cell_of (HQ0.out _ HN2.out) rfl
  go_wp2_with fail
  rw [← HV.out]
  have hb : (decide (x.t ≤ (ti + li)) && decide ((ti + li) - x.t ≤ li)) = true := by rw [HT.out]; simp; omega
  refine (fresh_any x (ti + li) li w2 (by rw [HT.out]; omega) (by rw [HT.out]; omega) (by omega) (by omega) (by omega) (by omega)).mono ?_
  rw [hb]
  rintro e w3 ⟨rfl, hu⟩
  have HU3 := Lib.hid (HU2.out.trans hu.out)
  have HN3 := Lib.hid (HN2.out.up hu.out)
  clear hu hb c0 c1 c2 c3 c4 c5 c6 c7
  have c0 : w3.cell? ⟨q, 0, none⟩ = some (.int .i64 ti) := cell_of (HQ0.out _ HN3.out) rfl
  have c1 : w3.cell? ⟨q, 1, none⟩ = some (.int .u32 1) := cell_of (HQ0.out _ HN3.out) rfl
  have c2 : w3.cell? ⟨q, 2, none⟩ = some (.int .u32 1) := cell_of (HQ0.out _ HN3.out) rfl
  have c3 : w3.cell? ⟨q, 3, none⟩ = some (.int .u32 0) := cell_of (HQ0.out _ HN3.out) rfl
  have c4 : w3.cell? ⟨q, 4, none⟩ = some (.int .u32 0) := cell_of (HQ0.out _ HN3.out) rfl
  have c5 : w3.cell? ⟨q, 5, none⟩ = some (.int .u32 0) := cell_of (HQ0.out _ HN3.out) rfl
  have c6 : w3.cell? ⟨q, 6, none⟩ = some (.int .u32 0) := cell_of (HQ0.out _ HN3.out) rfl
  have c7 : w3.cell? ⟨q, 7, none⟩ = some (.int .u32 0) := cell_of (HQ0.out _ HN3.out) rfl
  go_wp2_with fail
  rw [← HV.out]
  have hb : (decide (x.t ≤ (ti + li + 1 + d)) && decide ((ti + li + 1 + d) - x.t ≤ li)) = false := by rw [HT.out]; rw [Bool.eq_iff_iff]; simp; omega
  refine (fresh_any x (ti + li + 1 + d) li w3 (by rw [HT.out]; omega) (by rw [HT.out]; omega) (by omega) (by omega) (by omega) (by omega)).mono ?_
  rw [hb]
  rintro e w4 ⟨rfl, hu⟩
  have HU4 := Lib.hid (HU3.out.trans hu.out)
  have HN4 := Lib.hid (HN3.out.up hu.out)
  clear hu hb c0 c1 c2 c3 c4 c5 c6 c7
  have c0 : w4.cell? ⟨q, 0, none⟩ = some (.int .i64 ti) := cell_of (HQ0.out _ HN4.out) rfl
  have c1 : w4.cell? ⟨q, 1, none⟩ = some (.int .u32 1) := cell_of (HQ0.out _ HN4.out) rfl
  have c2 : w4.cell? ⟨q, 2, none⟩ = some (.int .u32 1) := cell_of (HQ0.out _ HN4.out) rfl
  have c3 : w4.cell? ⟨q, 3, none⟩ = some (.int .u32 0) := cell_of (HQ0.out _ HN4.out) rfl
  have c4 : w4.cell? ⟨q, 4, none⟩ = some (.int .u32 0) := cell_of (HQ0.out _ HN4.out) rfl
  have c5 : w4.cell? ⟨q, 5, none⟩ = some (.int .u32 0) := cell_of (HQ0.out _ HN4.out) rfl
  have c6 : w4.cell? ⟨q, 6, none⟩ = some (.int .u32 0) := cell_of (HQ0.out _ HN4.out) rfl
  have c7 : w4.cell? ⟨q, 7, none⟩ = some (.int .u32 0) := cell_of (HQ0.out _ HN4.out) rfl
  go_wp2_with fail
  rw [← HV.out]
  have hb : (decide (x.t ≤ (ti - 1 - d)) && decide ((ti - 1 - d) - x.t ≤ li)) = false := by rw [HT.out]; rw [Bool.eq_iff_iff]; simp; omega
  refine (fresh_any x (ti - 1 - d) li w4 (by rw [HT.out]; omega) (by rw [HT.out]; omega) (by omega) (by omega) (by omega) (by omega)).mono ?_
  rw [hb]
  rintro e w5 ⟨rfl, hu⟩
  have HU5 := Lib.hid (HU4.out.trans hu.out)
  have HN5 := Lib.hid (HN4.out.up hu.out)
  clear hu hb c0 c1 c2 c3 c4 c5 c6 c7
  have c0 : w5.cell? ⟨q, 0, none⟩ = some (.int .i64 ti) := cell_of (HQ0.out _ HN5.out) rfl
  have c1 : w5.cell? ⟨q, 1, none⟩ = some (.int .u32 1) := cell_of (HQ0.out _ HN5.out) rfl
  have c2 : w5.cell? ⟨q, 2, none⟩ = some (.int .u32 1) := cell_of (HQ0.out _ HN5.out) rfl
  have c3 : w5.cell? ⟨q, 3, none⟩ = some (.int .u32 0) := cell_of (HQ0.out _ HN5.out) rfl
  have c4 : w5.cell? ⟨q, 4, none⟩ = some (.int .u32 0) := cell_of (HQ0.out _ HN5.out) rfl
  have c5 : w5.cell? ⟨q, 5, none⟩ = some (.int .u32 0) := cell_of (HQ0.out _ HN5.out) rfl
  have c6 : w5.cell? ⟨q, 6, none⟩ = some (.int .u32 0) := cell_of (HQ0.out _ HN5.out) rfl
  have c7 : w5.cell? ⟨q, 7, none⟩ = some (.int .u32 0) := cell_of (HQ0.out _ HN5.out) rfl
  go_wp2_with fail
  rw [← HV.out]
  have hb : (decide (x.t ≤ (ti + d)) && decide ((ti + d) - x.t ≤ li)) = (decide (d ≤ li)) := by rw [HT.out]; rw [Bool.eq_iff_iff]; simp; omega
  refine (fresh_any x (ti + d) li w5 (by rw [HT.out]; omega) (by rw [HT.out]; omega) (by omega) (by omega) (by omega) (by omega)).mono ?_
  rw [hb]
  rintro e w6 ⟨rfl, hu⟩
  have HU6 := Lib.hid (HU5.out.trans hu.out)
  have HN6 := Lib.hid (HN5.out.up hu.out)
  clear hu hb c0 c1 c2 c3 c4 c5 c6 c7
  by_cases hdl : d ≤ li
  · rw [decide_eq_true hdl]
    go_wp2_with fail
    go_ret
    exact ⟨rfl, HU6⟩
  · rw [decide_eq_false hdl]
    go_wp2_with fail
    go_ret
    exact ⟨by simp; omega, HU6⟩
end Go.Proofs.Ytdlgdlgpmfccmaa
