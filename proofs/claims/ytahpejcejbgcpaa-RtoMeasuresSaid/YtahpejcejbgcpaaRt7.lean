import Derived.Test.YtahpejcejbgcpaaRt6
import Derived.StillTailTactics
import Derived.Deep.RegionWith
namespace Go.Proofs.Ytahpejcejbgcpaa
open Go Go.RowKit
set_option linter.unusedVariables false
set_option linter.unusedSimpArgs false
set_option maxRecDepth 100000 in
set_option maxHeartbeats 1000000 in
theorem measC_1 (x : Wy) (n : Int) (b g : Nat) (w : World) (h : w.heap[b]? = some (.cells x.cs 23 (0, 0))) (hg : w.heap[g]? = some (.cells #[.int .i64 n] 3 (0, 0))) (hne : b ≠ g) (hx : x.Ok) (h1 : ¬ (x.s = 0 ∧ x.v = 0)) (hn : 0 ≤ n) (hn2 : n ≤ 1099511627776) : Calls Try.prog 26 #[.pointer (some ⟨b, 0, none⟩), .pointer (some ⟨g, 0, none⟩)] w (Turn b (measW x n) w) := by
  obtain ⟨⟨a1, a2⟩, ⟨b1, b2⟩, ⟨c1, c2⟩, ⟨d1, d2⟩, ⟨e1, e2⟩, ⟨f1, f2⟩, ⟨g1, g2⟩⟩ := hx
  have hb := lt_of_blk h
  have hgl := lt_of_blk hg
  have T := Lib.hid (Tr.refl h)
  have k0 : w.cell? ⟨b, 0, none⟩ = some (.int .i64 x.s) := cell_of h rfl
  have k1 : w.cell? ⟨b, 1, none⟩ = some (.int .i64 x.v) := cell_of h rfl
  have k2 : w.cell? ⟨b, 2, none⟩ = some (.int .i64 x.r) := cell_of h rfl
  have k3 : w.cell? ⟨b, 3, none⟩ = some (.int .i64 x.e) := cell_of h rfl
  have kg : w.cell? ⟨g, 0, none⟩ = some (.int .i64 n) := cell_of hg rfl
  have fz : ∀ j, w.frozen? ⟨b, j, none⟩ = false := fun j => frozen_at h
  clear h hg
  have t1 : (x.s == 0 && x.v == 0) = false := by simpa using h1
  obtain ⟨dd, hd⟩ : ∃ d, d = dst x.s n := ⟨_, rfl⟩
  have hd2 := dst_b x.s n a1 a2 hn hn2
  rw [← hd] at hd2
  obtain ⟨hd3, hd4⟩ := hd2
  have HD := Lib.hid hd
  clear hd
  have HC : ∀ wx, Calls Try.prog 27 #[.int .i64 x.s, .int .i64 n] wx fun e w' => e = .returned (.int .i64 dd) ∧ w' = wx := fun wx => by rw [HD.out]; exact (dist_any _ _ _ a1 a2 hn hn2).mono fun e w' ⟨h1, h2⟩ => ⟨h1, h2.symm⟩
  go_enter Try.func26, Try.ntmps26
  by_cases h2 : x.s = 0
  · have t2 : (x.s == 0) = true := by simp [h2]
    have t3 : (x.v == 0) = false := by simp only [beq_eq_false_iff_ne]; exact fun h => h1 ⟨h2, h⟩
    have H1 := Lib.hid h1
    clear h1 t1 h2
    go_upto_region 2 with (fail)
    go_still_tail 16, (by kernel_rfl)
    still_call (HC _)
    repeat still_step
    refine wpStill_nil ?_
    change wpList _ _ _ _ _ (w.drew)
    go_upto_region 3 with (fail)
    go_region
    all_goals
      go_upto_region 4 with (fail)
      go_region
    all_goals
      go_wp2_with fail
    all_goals
      go_end0
      refine turn_mk ((((((T.out.drew.set 1 _).set 0 _).set 2 _).set 3 _).drew.drew)) ?_
      rw [measW, if_neg H1.out]
      have hd := HD.out
      refine cs_mk ?_ ?_ ?_ rfl rfl rfl rfl <;> (first | rfl | (dsimp only; rw [← hd]; try omega))
  · have t2 : (x.s == 0) = false := by simp [h2]
    have H1 := Lib.hid h1
    clear h1 t1 h2
    go_upto_region 2 with (fail)
    go_still_tail 16, (by kernel_rfl)
    still_call (HC _)
    repeat still_step
    refine wpStill_nil ?_
    change wpList _ _ _ _ _ (w.drew)
    go_upto_region 3 with (fail)
    go_region
    all_goals
      go_upto_region 4 with (fail)
      go_region
    all_goals
      go_wp2_with fail
    all_goals
      go_end0
      refine turn_mk ((((((T.out.drew.set 1 _).set 0 _).set 2 _).set 3 _).drew.drew)) ?_
      rw [measW, if_neg H1.out]
      have hd := HD.out
      refine cs_mk ?_ ?_ ?_ rfl rfl rfl rfl <;> (first | rfl | (dsimp only; rw [← hd]; try omega))
end Go.Proofs.Ytahpejcejbgcpaa
