import Derived.Test.YthncpkjnalmpkaaDcR
import Derived.Test.YthncpkjnalmpkaaAvG0
import Derived.Shelf.SlicesQ.Load
namespace Go.Proofs.Ythncpkjnalmpkaa
open Go Go.RowKit Dc
set_option linter.unusedVariables false
set_option linter.unusedSimpArgs false
/-! The small calls of dict. -/
set_option maxRecDepth 100000 in
set_option maxHeartbeats 1000000 in
theorem ofRule_any (r : Ru) (w : World) : Calls Try.prog 48 #[ruV r] w fun e w' => e = .returned (nmV r.nm) ∧ Up w w' := by
  obtain ⟨c, v, t, m, l, k⟩ := r
  have HU := Lib.hid (up_alloc w (.cells #[.int .u32 c, .int .u32 v, .int .i64 t, .bool m, .int .i64 l, .int .i64 k] 49))
  have HC := Lib.hid (new_at w (.cells #[.int .u32 c, .int .u32 v, .int .i64 t, .bool m, .int .i64 l, .int .i64 k] 49))
  unfold ruV
  have HZ := Lib.hid (show (w.alloc (.cells #[.int .u32 c, .int .u32 v, .int .i64 t, .bool m, .int .i64 l, .int .i64 k] 49)).heap.size = w.heap.size + 1 from Array.size_push ..)
  go_enter Try.func48, Try.ntmps48
  go_upto_region 1 with (fail)
  generalize w.alloc (.cells #[.int .u32 c, .int .u32 v, .int .i64 t, .bool m, .int .i64 l, .int .i64 k] 49) = wa at HC HU HZ ⊢
  have HUb := Lib.hid (up_alloc wa (.cells #[.int .u32 0, .int .u32 0] 73))
  have HQ := Lib.hid (new_at wa (.cells #[.int .u32 0, .int .u32 0] 73))
  rw [HZ.out] at HQ
  have HCb := Lib.hid (blk_up HC.out HUb.out)
  have U1 := Lib.hid (HU.out.trans HUb.out)
  clear HC
  generalize wa.alloc (.cells #[.int .u32 0, .int .u32 0] 73) = wb at HQ HUb HCb U1 ⊢
  have HZ := Lib.hid (show w.heap.size ≤ w.heap.size + 1 by omega)
  generalize w.heap.size + 1 = q at HQ HZ ⊢
  have z0 := cell_of HCb.out (j := 0) rfl
  have z1 := cell_of HCb.out (j := 1) rfl
  go_wp2_with (with_reducible refine wpList_store_row rfl 73 _ _ rfl q #[.int .u32 c, .int .u32 v] rfl rfl 73 _ HQ.out (by kernel_rfl) rfl (by simp [Value.oneCell']) ?_)
  refine bodyPost_ret (results_cell_row (fn := Try.f48) (p := 2) (ty := 73) rfl _ _ q 73 _ (0, 0) _ rfl (setRow_heap _ _ _ _ _ _ HQ.out) Try.underlying73 rfl (by kernel_rfl)) rfl ?_
  exact ⟨rfl, below_setRow U1.out HZ.out _⟩
set_option maxRecDepth 100000 in
set_option maxHeartbeats 1000000 in
theorem mayBe_any (r : Ru) (w : World) : Calls Try.prog 46 #[ruV r] w fun e w' => e = .returned (.bool r.may) ∧ Up w w' := by
  have HM := Lib.hid (show r.may = (decide (1 ≤ r.type) && decide (r.type ≤ 11) && decide (0 ≤ r.least) && decide (r.least ≤ r.most) && decide (r.most ≤ 64)) by unfold Ru.may; simp only [Bool.decide_and, Bool.and_assoc])
  obtain ⟨c, v, t, m, l, k⟩ := r
  simp only at HM
  have HU := Lib.hid (up_alloc w (.cells #[.int .u32 c, .int .u32 v, .int .i64 t, .bool m, .int .i64 l, .int .i64 k] 49))
  have HC := Lib.hid (new_at w (.cells #[.int .u32 c, .int .u32 v, .int .i64 t, .bool m, .int .i64 l, .int .i64 k] 49))
  unfold ruV
  go_enter Try.func46, Try.ntmps46
  go_upto_region 1 with (fail)
  generalize w.alloc (.cells #[.int .u32 c, .int .u32 v, .int .i64 t, .bool m, .int .i64 l, .int .i64 k] 49) = wa at HC HU ⊢
  have z2 := cell_of HC.out (j := 2) rfl
  have z4 := cell_of HC.out (j := 4) rfl
  have z5 := cell_of HC.out (j := 5) rfl
  by_cases q1 : 1 ≤ t
  · have d1 : decide (1 ≤ t) = true := decide_eq_true q1
    by_cases q2 : t ≤ 11
    · have d2 : decide (t ≤ 11) = true := decide_eq_true q2
      by_cases q3 : 0 ≤ l
      · have d3 : decide (0 ≤ l) = true := decide_eq_true q3
        by_cases q4 : l ≤ k
        · have d4 : decide (l ≤ k) = true := decide_eq_true q4
          have HR := Lib.hid (show Ru.may ⟨c, v, t, m, l, k⟩ = decide (k ≤ 64) by rw [HM.out, d1, d2, d3, d4]; rfl)
          go_wp2_with fail
          go_ret
          exact ⟨by rw [HR.out]; rfl, HU.out⟩
        · have d4 : decide (l ≤ k) = false := decide_eq_false q4
          have HR := Lib.hid (show Ru.may ⟨c, v, t, m, l, k⟩ = false by rw [HM.out, d4]; simp)
          go_wp2_with fail
          go_ret
          exact ⟨by rw [HR.out]; rfl, HU.out⟩
      · have d3 : decide (0 ≤ l) = false := decide_eq_false q3
        have HR := Lib.hid (show Ru.may ⟨c, v, t, m, l, k⟩ = false by rw [HM.out, d3]; simp)
        go_wp2_with fail
        go_ret
        exact ⟨by rw [HR.out]; rfl, HU.out⟩
    · have d2 : decide (t ≤ 11) = false := decide_eq_false q2
      have HR := Lib.hid (show Ru.may ⟨c, v, t, m, l, k⟩ = false by rw [HM.out, d2]; simp)
      go_wp2_with fail
      go_ret
      exact ⟨by rw [HR.out]; rfl, HU.out⟩
  · have d1 : decide (1 ≤ t) = false := decide_eq_false q1
    have HR := Lib.hid (show Ru.may ⟨c, v, t, m, l, k⟩ = false by rw [HM.out, d1]; simp)
    go_wp2_with fail
    go_ret
    exact ⟨by rw [HR.out]; rfl, HU.out⟩
end Go.Proofs.Ythncpkjnalmpkaa
