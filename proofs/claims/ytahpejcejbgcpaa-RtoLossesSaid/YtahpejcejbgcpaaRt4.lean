import Derived.Test.YtahpejcejbgcpaaRt0
namespace Go.Proofs.Ytahpejcejbgcpaa
open Go Go.RowKit
set_option linter.unusedVariables false
set_option linter.unusedSimpArgs false
set_option maxRecDepth 100000 in
set_option maxHeartbeats 1000000 in
theorem lateC_any (x : Wy) (b : Nat) (w : World) (h : w.heap[b]? = some (.cells x.cs 23 (0, 0))) (hx : x.Ok) : Calls Try.prog 29 #[.pointer (some ⟨b, 0, none⟩)] w (Turn b (lateW x) w) := by
  obtain ⟨⟨a1, a2⟩, ⟨b1, b2⟩, ⟨c1, c2⟩, ⟨d1, d2⟩, ⟨e1, e2⟩, ⟨f1, f2⟩, ⟨g1, g2⟩⟩ := hx
  have hb := lt_of_blk h
  have T := Lib.hid (Tr.refl h)
  have k2 : w.cell? ⟨b, 2, none⟩ = some (.int .i64 x.r) := cell_of h rfl
  have k3 : w.cell? ⟨b, 3, none⟩ = some (.int .i64 x.e) := cell_of h rfl
  have k4 : w.cell? ⟨b, 4, none⟩ = some (.int .i64 x.c) := cell_of h rfl
  have k5 : w.cell? ⟨b, 5, none⟩ = some (.int .i64 x.t) := cell_of h rfl
  have k6 : w.cell? ⟨b, 6, none⟩ = some (.int .i64 x.a) := cell_of h rfl
  have fz : ∀ j, w.frozen? ⟨b, j, none⟩ = false := fun j => frozen_at h
  clear h
  go_enter Try.func29, Try.ntmps29
  go_wp2_with (go_at_call 30; refine (thr_any _ _ (by omega) (by omega)).mono ?_; rintro e w' ⟨rfl, rfl⟩)
  all_goals
    go_end0
    refine turn_mk (((((T.out.set 2 _).set 5 _).set 4 _).set 6 _).set 3 _) ?_
    refine cs_mk rfl rfl ?_ ?_ rfl rfl rfl <;> (dsimp only [lateW]; omega)
set_option maxRecDepth 100000 in
set_option maxHeartbeats 1000000 in
theorem fastC_any (x : Wy) (b : Nat) (w : World) (h : w.heap[b]? = some (.cells x.cs 23 (0, 0))) (hx : x.Ok) : Calls Try.prog 31 #[.pointer (some ⟨b, 0, none⟩)] w (Turn b (fastW x) w) := by
  obtain ⟨⟨a1, a2⟩, ⟨b1, b2⟩, ⟨c1, c2⟩, ⟨d1, d2⟩, ⟨e1, e2⟩, ⟨f1, f2⟩, ⟨g1, g2⟩⟩ := hx
  have hb := lt_of_blk h
  have T := Lib.hid (Tr.refl h)
  have k4 : w.cell? ⟨b, 4, none⟩ = some (.int .i64 x.c) := cell_of h rfl
  have k5 : w.cell? ⟨b, 5, none⟩ = some (.int .i64 x.t) := cell_of h rfl
  have k6 : w.cell? ⟨b, 6, none⟩ = some (.int .i64 x.a) := cell_of h rfl
  have fz : ∀ j, w.frozen? ⟨b, j, none⟩ = false := fun j => frozen_at h
  clear h
  go_enter Try.func31, Try.ntmps31
  go_wp2_with (go_at_call 30; refine (thr_any _ _ (by omega) (by omega)).mono ?_; rintro e w' ⟨rfl, rfl⟩)
  go_end0
  exact turn_mk (((T.out.set 5 _).set 4 _).set 6 _) (cs_mk rfl rfl rfl rfl rfl rfl rfl)
end Go.Proofs.Ytahpejcejbgcpaa
namespace Go.Proofs.Ytahpejcejbgcpaa
open Go Go.RowKit
set_option linter.unusedVariables false
set_option linter.unusedSimpArgs false
theorem Tr.drewN {b : Nat} {cs : Array Value} {w w' : World} (h : Tr b cs w w') (n : Nat) : Tr b cs w (w'.drewN n) := by
  have hu := up_drewN w' n
  exact ⟨(hu.block b (lt_of_blk h.1)).trans h.1, h.2.trans (hu.out No) (fun _ h => h.elim)⟩
set_option maxRecDepth 100000 in
set_option maxHeartbeats 1000000 in
theorem growC_any (x : Wy) (n : Int) (b : Nat) (w : World) (h : w.heap[b]? = some (.cells x.cs 23 (0, 0))) (hx : x.Ok) (hn : 0 ≤ n) (hn2 : n ≤ 65536) : Calls Try.prog 33 #[.pointer (some ⟨b, 0, none⟩), .int .i64 n] w (Turn b (growW x n) w) := by
  obtain ⟨⟨a1, a2⟩, ⟨b1, b2⟩, ⟨c1, c2⟩, ⟨d1, d2⟩, ⟨e1, e2⟩, ⟨f1, f2⟩, ⟨g1, g2⟩⟩ := hx
  have hb := lt_of_blk h
  have T := Lib.hid (Tr.refl h)
  by_cases h1 : x.c ≤ x.t
  · have t1 : decide (x.c ≤ x.t) = true := decide_eq_true h1
    have k4 : w.cell? ⟨b, 4, none⟩ = some (.int .i64 x.c) := cell_of h rfl
    have k5 : w.cell? ⟨b, 5, none⟩ = some (.int .i64 x.t) := cell_of h rfl
    have fz : ∀ j, w.frozen? ⟨b, j, none⟩ = false := fun j => frozen_at h
    clear h
    go_enter Try.func33, Try.ntmps33
    go_upto_region 0 with (fail)
    go_quiet (fail)
    go_wp2_with fail
    all_goals
      refine bodyPost_ret (results_none rfl _ _ _) rfl ?_
      refine turn_mk ((T.out.drewN _).set 4 _) ?_
      rw [growW, if_pos h1]
      refine cs_mk rfl rfl rfl rfl ?_ rfl rfl <;> (dsimp only; omega)
  · have t1 : decide (x.c ≤ x.t) = false := decide_eq_false h1
    have k4 : w.cell? ⟨b, 4, none⟩ = some (.int .i64 x.c) := cell_of h rfl
    have k5 : w.cell? ⟨b, 5, none⟩ = some (.int .i64 x.t) := cell_of h rfl
    have k6 : w.cell? ⟨b, 6, none⟩ = some (.int .i64 x.a) := cell_of h rfl
    have fz : ∀ j, w.frozen? ⟨b, j, none⟩ = false := fun j => frozen_at h
    clear h
    go_enter Try.func33, Try.ntmps33
    go_upto_region 0 with (fail)
    go_quiet (fail)
    go_upto_region 3 with (fail)
    all_goals
      go_quiet (fail)
      go_wp2_with fail
    all_goals
      go_end0
      rw [growW, if_neg (by omega)]
      first
      | (rw [if_pos (by omega)]
         refine turn_mk (((((T.out.drewN _).set 6 _).drewN _).set 6 _).set 4 _) ?_
         refine cs_mk rfl rfl rfl rfl ?_ rfl rfl <;> (dsimp only; omega))
      | (rw [if_neg (by omega)]
         refine turn_mk (((T.out.drewN _).set 6 _).drewN _) ?_
         refine cs_mk rfl rfl rfl rfl rfl rfl ?_ <;> (dsimp only; omega))
end Go.Proofs.Ytahpejcejbgcpaa
