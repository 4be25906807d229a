import Derived.Test.YtdhkbpnhbbedmaaWt0
namespace Go.Proofs.Ytdhkbpnhbbedmaa
open Go Go.RowKit
set_option linter.unusedVariables false
set_option linter.unusedSimpArgs false
set_option maxRecDepth 100000 in
set_option maxHeartbeats 1000000 in
theorem ask_any (x : Wt) (b : Nat) (w : World) (h : w.heap[b]? = some (.cells x.cs 23 (0, 0))) : Calls Try.prog 20 #[.pointer (some ⟨b, 0, none⟩)] w (Dn b ⟨x.s, true, x.n⟩ ⟨true, false, false, false, false, true⟩ w) := by
  have hb := lt_of_blk h
  have T0 := Lib.hid (Tw.start h)
  clear h
  go_enter Try.func20, Try.ntmps20
  go_upto_region 1 with (fail)
  generalize w.alloc (.cells #[.bool false, .bool false, .bool false, .bool false, .bool false, .bool false] 25) = w1 at T0 ⊢
  generalize w.heap.size = q at T0 hb ⊢
  have hne : ¬ b = q := by omega
  have hne2 : ¬ q = b := by omega
  have k0 : w1.cell? ⟨b, 0, none⟩ = some (.int .i64 x.s) := cell_of T0.out.hb rfl
  have k1 : w1.cell? ⟨b, 1, none⟩ = some (.bool x.p) := cell_of T0.out.hb rfl
  have k2 : w1.cell? ⟨b, 2, none⟩ = some (.int .i64 x.n) := cell_of T0.out.hb rfl
  have fz : ∀ j, w1.frozen? ⟨b, j, none⟩ = false := fun j => frozen_at T0.out.hb
  have fq : ∀ j, w1.frozen? ⟨q, j, none⟩ = false := fun j => frozen_at T0.out.hq
  have q0 : w1.cell? ⟨q, 0, none⟩ = some (.bool false) := cell_of T0.out.hq rfl
  have q1 : w1.cell? ⟨q, 1, none⟩ = some (.bool false) := cell_of T0.out.hq rfl
  have q2 : w1.cell? ⟨q, 2, none⟩ = some (.bool false) := cell_of T0.out.hq rfl
  have q3 : w1.cell? ⟨q, 3, none⟩ = some (.bool false) := cell_of T0.out.hq rfl
  have q4 : w1.cell? ⟨q, 4, none⟩ = some (.bool false) := cell_of T0.out.hq rfl
  have q5 : w1.cell? ⟨q, 5, none⟩ = some (.bool false) := cell_of T0.out.hq rfl
  go_wp2_with fail
  have HT := (((((((T0.out.setb 1 (.bool true)).setq 0 (.bool true)).setq 1 (.bool false)).setq 2 (.bool false)).setq 3 (.bool false)).setq 4 (.bool false)).setq 5 (.bool true))
  exact bodyPost_ret (results_cell_row (fn := Try.f20) (p := 2) (ty := 25) rfl _ _ q 25 (⟨true, false, false, false, false, true⟩ : Du).cs (0, 0) _ rfl HT.hq Try.underlying25 rfl rfl) rfl ⟨rfl, HT.hb, HT.out⟩
set_option maxRecDepth 100000 in
set_option maxHeartbeats 1000000 in
theorem doubt_f (x : Wt) (b : Nat) (w : World) (h : w.heap[b]? = some (.cells x.cs 23 (0, 0))) (hp : x.p = false) : Calls Try.prog 19 #[.pointer (some ⟨b, 0, none⟩)] w (Dn b ⟨x.s, true, x.n⟩ ⟨true, false, false, false, false, true⟩ w) := by
  have hb := lt_of_blk h
  have T0 := Lib.hid (Tw.start h)
  clear h
  go_enter Try.func19, Try.ntmps19
  go_upto_region 1 with (fail)
  generalize w.alloc (.cells #[.bool false, .bool false, .bool false, .bool false, .bool false, .bool false] 25) = w1 at T0 ⊢
  generalize w.heap.size = q at T0 hb ⊢
  have hne : ¬ b = q := by omega
  have hne2 : ¬ q = b := by omega
  have k0 : w1.cell? ⟨b, 0, none⟩ = some (.int .i64 x.s) := cell_of T0.out.hb rfl
  have k1 : w1.cell? ⟨b, 1, none⟩ = some (.bool x.p) := cell_of T0.out.hb rfl
  have k2 : w1.cell? ⟨b, 2, none⟩ = some (.int .i64 x.n) := cell_of T0.out.hb rfl
  have fz : ∀ j, w1.frozen? ⟨b, j, none⟩ = false := fun j => frozen_at T0.out.hb
  have fq : ∀ j, w1.frozen? ⟨q, j, none⟩ = false := fun j => frozen_at T0.out.hq
  have q0 : w1.cell? ⟨q, 0, none⟩ = some (.bool false) := cell_of T0.out.hq rfl
  have q1 : w1.cell? ⟨q, 1, none⟩ = some (.bool false) := cell_of T0.out.hq rfl
  have q2 : w1.cell? ⟨q, 2, none⟩ = some (.bool false) := cell_of T0.out.hq rfl
  have q3 : w1.cell? ⟨q, 3, none⟩ = some (.bool false) := cell_of T0.out.hq rfl
  have q4 : w1.cell? ⟨q, 4, none⟩ = some (.bool false) := cell_of T0.out.hq rfl
  have q5 : w1.cell? ⟨q, 5, none⟩ = some (.bool false) := cell_of T0.out.hq rfl
  go_wp2_with fail
  refine (ask_any x b _ T0.out.hb).mono ?_
  rintro e w2 ⟨rfl, HT⟩
  have T2 := Lib.hid (T0.out.call HT)
  clear k0 k1 k2 fz fq q0 q1 q2 q3 q4 q5
  clear HT
  have k0 : w2.cell? ⟨b, 0, none⟩ = some (.int .i64 x.s) := cell_of T2.out.hb rfl
  have k1 : w2.cell? ⟨b, 1, none⟩ = some (.bool true) := cell_of T2.out.hb rfl
  have k2 : w2.cell? ⟨b, 2, none⟩ = some (.int .i64 x.n) := cell_of T2.out.hb rfl
  have fz : ∀ j, w2.frozen? ⟨b, j, none⟩ = false := fun j => frozen_at T2.out.hb
  have fq : ∀ j, w2.frozen? ⟨q, j, none⟩ = false := fun j => frozen_at T2.out.hq
  have q0 : w2.cell? ⟨q, 0, none⟩ = some (.bool false) := cell_of T2.out.hq rfl
  have q1 : w2.cell? ⟨q, 1, none⟩ = some (.bool false) := cell_of T2.out.hq rfl
  have q2 : w2.cell? ⟨q, 2, none⟩ = some (.bool false) := cell_of T2.out.hq rfl
  have q3 : w2.cell? ⟨q, 3, none⟩ = some (.bool false) := cell_of T2.out.hq rfl
  have q4 : w2.cell? ⟨q, 4, none⟩ = some (.bool false) := cell_of T2.out.hq rfl
  have q5 : w2.cell? ⟨q, 5, none⟩ = some (.bool false) := cell_of T2.out.hq rfl
  go_wp2_with fail
  have HT := ((((((T2.out.setq 0 (.bool true)).setq 1 (.bool false)).setq 2 (.bool false)).setq 3 (.bool false)).setq 4 (.bool false)).setq 5 (.bool true))
  exact bodyPost_ret (results_cell_row (fn := Try.f19) (p := 2) (ty := 25) rfl _ _ q 25 (⟨true, false, false, false, false, true⟩ : Du).cs (0, 0) _ rfl HT.hq Try.underlying25 rfl rfl) rfl ⟨rfl, HT.hb, HT.out⟩
set_option maxRecDepth 100000 in
set_option maxHeartbeats 1000000 in
theorem doubt_t (x : Wt) (b : Nat) (w : World) (h : w.heap[b]? = some (.cells x.cs 23 (0, 0))) (hp : x.p = true) : Calls Try.prog 19 #[.pointer (some ⟨b, 0, none⟩)] w (Dn b ⟨2, x.p, x.n⟩ ⟨false, true, false, false, false, true⟩ w) := by
  have hb := lt_of_blk h
  have T0 := Lib.hid (Tw.start h)
  clear h
  go_enter Try.func19, Try.ntmps19
  go_upto_region 1 with (fail)
  generalize w.alloc (.cells #[.bool false, .bool false, .bool false, .bool false, .bool false, .bool false] 25) = w1 at T0 ⊢
  generalize w.heap.size = q at T0 hb ⊢
  have hne : ¬ b = q := by omega
  have hne2 : ¬ q = b := by omega
  have k0 : w1.cell? ⟨b, 0, none⟩ = some (.int .i64 x.s) := cell_of T0.out.hb rfl
  have k1 : w1.cell? ⟨b, 1, none⟩ = some (.bool x.p) := cell_of T0.out.hb rfl
  have k2 : w1.cell? ⟨b, 2, none⟩ = some (.int .i64 x.n) := cell_of T0.out.hb rfl
  have fz : ∀ j, w1.frozen? ⟨b, j, none⟩ = false := fun j => frozen_at T0.out.hb
  have fq : ∀ j, w1.frozen? ⟨q, j, none⟩ = false := fun j => frozen_at T0.out.hq
  have q0 : w1.cell? ⟨q, 0, none⟩ = some (.bool false) := cell_of T0.out.hq rfl
  have q1 : w1.cell? ⟨q, 1, none⟩ = some (.bool false) := cell_of T0.out.hq rfl
  have q2 : w1.cell? ⟨q, 2, none⟩ = some (.bool false) := cell_of T0.out.hq rfl
  have q3 : w1.cell? ⟨q, 3, none⟩ = some (.bool false) := cell_of T0.out.hq rfl
  have q4 : w1.cell? ⟨q, 4, none⟩ = some (.bool false) := cell_of T0.out.hq rfl
  have q5 : w1.cell? ⟨q, 5, none⟩ = some (.bool false) := cell_of T0.out.hq rfl
  go_wp2_with fail
  have HT := (((((((T0.out.setb 0 (.int .i64 2)).setq 0 (.bool false)).setq 1 (.bool true)).setq 2 (.bool false)).setq 3 (.bool false)).setq 4 (.bool false)).setq 5 (.bool true))
  exact bodyPost_ret (results_cell_row (fn := Try.f19) (p := 2) (ty := 25) rfl _ _ q 25 (⟨false, true, false, false, false, true⟩ : Du).cs (0, 0) _ rfl HT.hq Try.underlying25 rfl rfl) rfl ⟨rfl, HT.hb, HT.out⟩
set_option maxRecDepth 100000 in
set_option maxHeartbeats 1000000 in
theorem count_lo (x : Wt) (b : Nat) (w : World) (h : w.heap[b]? = some (.cells x.cs 23 (0, 0))) (h1 : -1 ≤ x.n) (h2 : x.n ≤ 3) (d1 : decide (x.n < 2) = true) : Calls Try.prog 21 #[.pointer (some ⟨b, 0, none⟩)] w (Dn b ⟨x.s, false, (x.n + 1)⟩ ⟨false, false, false, false, false, false⟩ w) := by
  have hb := lt_of_blk h
  have T0 := Lib.hid (Tw.start h)
  clear h
  go_enter Try.func21, Try.ntmps21
  go_upto_region 1 with (fail)
  generalize w.alloc (.cells #[.bool false, .bool false, .bool false, .bool false, .bool false, .bool false] 25) = w1 at T0 ⊢
  generalize w.heap.size = q at T0 hb ⊢
  have hne : ¬ b = q := by omega
  have hne2 : ¬ q = b := by omega
  have k0 : w1.cell? ⟨b, 0, none⟩ = some (.int .i64 x.s) := cell_of T0.out.hb rfl
  have k1 : w1.cell? ⟨b, 1, none⟩ = some (.bool x.p) := cell_of T0.out.hb rfl
  have k2 : w1.cell? ⟨b, 2, none⟩ = some (.int .i64 x.n) := cell_of T0.out.hb rfl
  have fz : ∀ j, w1.frozen? ⟨b, j, none⟩ = false := fun j => frozen_at T0.out.hb
  have fq : ∀ j, w1.frozen? ⟨q, j, none⟩ = false := fun j => frozen_at T0.out.hq
  have q0 : w1.cell? ⟨q, 0, none⟩ = some (.bool false) := cell_of T0.out.hq rfl
  have q1 : w1.cell? ⟨q, 1, none⟩ = some (.bool false) := cell_of T0.out.hq rfl
  have q2 : w1.cell? ⟨q, 2, none⟩ = some (.bool false) := cell_of T0.out.hq rfl
  have q3 : w1.cell? ⟨q, 3, none⟩ = some (.bool false) := cell_of T0.out.hq rfl
  have q4 : w1.cell? ⟨q, 4, none⟩ = some (.bool false) := cell_of T0.out.hq rfl
  have q5 : w1.cell? ⟨q, 5, none⟩ = some (.bool false) := cell_of T0.out.hq rfl
  go_wp2_with fail
  have HT := ((((((((T0.out.setb 1 (.bool false)).setb 2 (.int .i64 (x.n + 1))).setq 0 (.bool false)).setq 1 (.bool false)).setq 2 (.bool false)).setq 3 (.bool false)).setq 4 (.bool false)).setq 5 (.bool false))
  exact bodyPost_ret (results_cell_row (fn := Try.f21) (p := 2) (ty := 25) rfl _ _ q 25 (⟨false, false, false, false, false, false⟩ : Du).cs (0, 0) _ rfl HT.hq Try.underlying25 rfl rfl) rfl ⟨rfl, HT.hb, HT.out⟩
set_option maxRecDepth 100000 in
set_option maxHeartbeats 1000000 in
theorem count_hi (x : Wt) (b : Nat) (w : World) (h : w.heap[b]? = some (.cells x.cs 23 (0, 0))) (h1 : -1 ≤ x.n) (h2 : x.n ≤ 3) (d1 : decide (x.n < 2) = false) : Calls Try.prog 21 #[.pointer (some ⟨b, 0, none⟩)] w (Dn b ⟨1, false, 0⟩ ⟨false, false, true, false, false, true⟩ w) := by
  have hb := lt_of_blk h
  have T0 := Lib.hid (Tw.start h)
  clear h
  go_enter Try.func21, Try.ntmps21
  go_upto_region 1 with (fail)
  generalize w.alloc (.cells #[.bool false, .bool false, .bool false, .bool false, .bool false, .bool false] 25) = w1 at T0 ⊢
  generalize w.heap.size = q at T0 hb ⊢
  have hne : ¬ b = q := by omega
  have hne2 : ¬ q = b := by omega
  have k0 : w1.cell? ⟨b, 0, none⟩ = some (.int .i64 x.s) := cell_of T0.out.hb rfl
  have k1 : w1.cell? ⟨b, 1, none⟩ = some (.bool x.p) := cell_of T0.out.hb rfl
  have k2 : w1.cell? ⟨b, 2, none⟩ = some (.int .i64 x.n) := cell_of T0.out.hb rfl
  have fz : ∀ j, w1.frozen? ⟨b, j, none⟩ = false := fun j => frozen_at T0.out.hb
  have fq : ∀ j, w1.frozen? ⟨q, j, none⟩ = false := fun j => frozen_at T0.out.hq
  have q0 : w1.cell? ⟨q, 0, none⟩ = some (.bool false) := cell_of T0.out.hq rfl
  have q1 : w1.cell? ⟨q, 1, none⟩ = some (.bool false) := cell_of T0.out.hq rfl
  have q2 : w1.cell? ⟨q, 2, none⟩ = some (.bool false) := cell_of T0.out.hq rfl
  have q3 : w1.cell? ⟨q, 3, none⟩ = some (.bool false) := cell_of T0.out.hq rfl
  have q4 : w1.cell? ⟨q, 4, none⟩ = some (.bool false) := cell_of T0.out.hq rfl
  have q5 : w1.cell? ⟨q, 5, none⟩ = some (.bool false) := cell_of T0.out.hq rfl
  go_wp2_with fail
  refine (leave_any x 1 b _ T0.out.hb).mono ?_
  rintro e w2 ⟨rfl, HT⟩
  have T2 := Lib.hid (T0.out.call HT)
  clear k0 k1 k2 fz fq q0 q1 q2 q3 q4 q5
  clear HT
  have k0 : w2.cell? ⟨b, 0, none⟩ = some (.int .i64 1) := cell_of T2.out.hb rfl
  have k1 : w2.cell? ⟨b, 1, none⟩ = some (.bool false) := cell_of T2.out.hb rfl
  have k2 : w2.cell? ⟨b, 2, none⟩ = some (.int .i64 0) := cell_of T2.out.hb rfl
  have fz : ∀ j, w2.frozen? ⟨b, j, none⟩ = false := fun j => frozen_at T2.out.hb
  have fq : ∀ j, w2.frozen? ⟨q, j, none⟩ = false := fun j => frozen_at T2.out.hq
  have q0 : w2.cell? ⟨q, 0, none⟩ = some (.bool false) := cell_of T2.out.hq rfl
  have q1 : w2.cell? ⟨q, 1, none⟩ = some (.bool false) := cell_of T2.out.hq rfl
  have q2 : w2.cell? ⟨q, 2, none⟩ = some (.bool false) := cell_of T2.out.hq rfl
  have q3 : w2.cell? ⟨q, 3, none⟩ = some (.bool false) := cell_of T2.out.hq rfl
  have q4 : w2.cell? ⟨q, 4, none⟩ = some (.bool false) := cell_of T2.out.hq rfl
  have q5 : w2.cell? ⟨q, 5, none⟩ = some (.bool false) := cell_of T2.out.hq rfl
  go_wp2_with fail
  have HT := ((((((T2.out.setq 0 (.bool false)).setq 1 (.bool false)).setq 2 (.bool true)).setq 3 (.bool false)).setq 4 (.bool false)).setq 5 (.bool true))
  exact bodyPost_ret (results_cell_row (fn := Try.f21) (p := 2) (ty := 25) rfl _ _ q 25 (⟨false, false, true, false, false, true⟩ : Du).cs (0, 0) _ rfl HT.hq Try.underlying25 rfl rfl) rfl ⟨rfl, HT.hb, HT.out⟩
set_option maxRecDepth 100000 in
set_option maxHeartbeats 1000000 in
theorem press_f (x : Wt) (b : Nat) (w : World) (h : w.heap[b]? = some (.cells x.cs 23 (0, 0))) (hp : x.p = false) : Calls Try.prog 22 #[.pointer (some ⟨b, 0, none⟩)] w (Dn b ⟨x.s, true, x.n⟩ ⟨true, false, false, false, false, true⟩ w) := by
  have hb := lt_of_blk h
  have T0 := Lib.hid (Tw.start h)
  clear h
  go_enter Try.func22, Try.ntmps22
  go_upto_region 1 with (fail)
  generalize w.alloc (.cells #[.bool false, .bool false, .bool false, .bool false, .bool false, .bool false] 25) = w1 at T0 ⊢
  generalize w.heap.size = q at T0 hb ⊢
  have hne : ¬ b = q := by omega
  have hne2 : ¬ q = b := by omega
  have k0 : w1.cell? ⟨b, 0, none⟩ = some (.int .i64 x.s) := cell_of T0.out.hb rfl
  have k1 : w1.cell? ⟨b, 1, none⟩ = some (.bool x.p) := cell_of T0.out.hb rfl
  have k2 : w1.cell? ⟨b, 2, none⟩ = some (.int .i64 x.n) := cell_of T0.out.hb rfl
  have fz : ∀ j, w1.frozen? ⟨b, j, none⟩ = false := fun j => frozen_at T0.out.hb
  have fq : ∀ j, w1.frozen? ⟨q, j, none⟩ = false := fun j => frozen_at T0.out.hq
  have q0 : w1.cell? ⟨q, 0, none⟩ = some (.bool false) := cell_of T0.out.hq rfl
  have q1 : w1.cell? ⟨q, 1, none⟩ = some (.bool false) := cell_of T0.out.hq rfl
  have q2 : w1.cell? ⟨q, 2, none⟩ = some (.bool false) := cell_of T0.out.hq rfl
  have q3 : w1.cell? ⟨q, 3, none⟩ = some (.bool false) := cell_of T0.out.hq rfl
  have q4 : w1.cell? ⟨q, 4, none⟩ = some (.bool false) := cell_of T0.out.hq rfl
  have q5 : w1.cell? ⟨q, 5, none⟩ = some (.bool false) := cell_of T0.out.hq rfl
  go_wp2_with fail
  refine (ask_any x b _ T0.out.hb).mono ?_
  rintro e w2 ⟨rfl, HT⟩
  have T2 := Lib.hid (T0.out.call HT)
  clear k0 k1 k2 fz fq q0 q1 q2 q3 q4 q5
  clear HT
  have k0 : w2.cell? ⟨b, 0, none⟩ = some (.int .i64 x.s) := cell_of T2.out.hb rfl
  have k1 : w2.cell? ⟨b, 1, none⟩ = some (.bool true) := cell_of T2.out.hb rfl
  have k2 : w2.cell? ⟨b, 2, none⟩ = some (.int .i64 x.n) := cell_of T2.out.hb rfl
  have fz : ∀ j, w2.frozen? ⟨b, j, none⟩ = false := fun j => frozen_at T2.out.hb
  have fq : ∀ j, w2.frozen? ⟨q, j, none⟩ = false := fun j => frozen_at T2.out.hq
  have q0 : w2.cell? ⟨q, 0, none⟩ = some (.bool false) := cell_of T2.out.hq rfl
  have q1 : w2.cell? ⟨q, 1, none⟩ = some (.bool false) := cell_of T2.out.hq rfl
  have q2 : w2.cell? ⟨q, 2, none⟩ = some (.bool false) := cell_of T2.out.hq rfl
  have q3 : w2.cell? ⟨q, 3, none⟩ = some (.bool false) := cell_of T2.out.hq rfl
  have q4 : w2.cell? ⟨q, 4, none⟩ = some (.bool false) := cell_of T2.out.hq rfl
  have q5 : w2.cell? ⟨q, 5, none⟩ = some (.bool false) := cell_of T2.out.hq rfl
  go_wp2_with fail
  have HT := ((((((T2.out.setq 0 (.bool true)).setq 1 (.bool false)).setq 2 (.bool false)).setq 3 (.bool false)).setq 4 (.bool false)).setq 5 (.bool true))
  exact bodyPost_ret (results_cell_row (fn := Try.f22) (p := 2) (ty := 25) rfl _ _ q 25 (⟨true, false, false, false, false, true⟩ : Du).cs (0, 0) _ rfl HT.hq Try.underlying25 rfl rfl) rfl ⟨rfl, HT.hb, HT.out⟩
set_option maxRecDepth 100000 in
set_option maxHeartbeats 1000000 in
theorem press_m (x : Wt) (b : Nat) (w : World) (h : w.heap[b]? = some (.cells x.cs 23 (0, 0))) (hp : x.p = true) (d1 : (x.n == -1) = true) : Calls Try.prog 22 #[.pointer (some ⟨b, 0, none⟩)] w (Dn b ⟨3, false, 0⟩ ⟨false, false, false, true, false, true⟩ w) := by
  have hb := lt_of_blk h
  have T0 := Lib.hid (Tw.start h)
  clear h
  go_enter Try.func22, Try.ntmps22
  go_upto_region 1 with (fail)
  generalize w.alloc (.cells #[.bool false, .bool false, .bool false, .bool false, .bool false, .bool false] 25) = w1 at T0 ⊢
  generalize w.heap.size = q at T0 hb ⊢
  have hne : ¬ b = q := by omega
  have hne2 : ¬ q = b := by omega
  have k0 : w1.cell? ⟨b, 0, none⟩ = some (.int .i64 x.s) := cell_of T0.out.hb rfl
  have k1 : w1.cell? ⟨b, 1, none⟩ = some (.bool x.p) := cell_of T0.out.hb rfl
  have k2 : w1.cell? ⟨b, 2, none⟩ = some (.int .i64 x.n) := cell_of T0.out.hb rfl
  have fz : ∀ j, w1.frozen? ⟨b, j, none⟩ = false := fun j => frozen_at T0.out.hb
  have fq : ∀ j, w1.frozen? ⟨q, j, none⟩ = false := fun j => frozen_at T0.out.hq
  have q0 : w1.cell? ⟨q, 0, none⟩ = some (.bool false) := cell_of T0.out.hq rfl
  have q1 : w1.cell? ⟨q, 1, none⟩ = some (.bool false) := cell_of T0.out.hq rfl
  have q2 : w1.cell? ⟨q, 2, none⟩ = some (.bool false) := cell_of T0.out.hq rfl
  have q3 : w1.cell? ⟨q, 3, none⟩ = some (.bool false) := cell_of T0.out.hq rfl
  have q4 : w1.cell? ⟨q, 4, none⟩ = some (.bool false) := cell_of T0.out.hq rfl
  have q5 : w1.cell? ⟨q, 5, none⟩ = some (.bool false) := cell_of T0.out.hq rfl
  go_wp2_with fail
  refine (leave_any x 3 b _ T0.out.hb).mono ?_
  rintro e w2 ⟨rfl, HT⟩
  have T2 := Lib.hid (T0.out.call HT)
  clear k0 k1 k2 fz fq q0 q1 q2 q3 q4 q5
  clear HT
  have k0 : w2.cell? ⟨b, 0, none⟩ = some (.int .i64 3) := cell_of T2.out.hb rfl
  have k1 : w2.cell? ⟨b, 1, none⟩ = some (.bool false) := cell_of T2.out.hb rfl
  have k2 : w2.cell? ⟨b, 2, none⟩ = some (.int .i64 0) := cell_of T2.out.hb rfl
  have fz : ∀ j, w2.frozen? ⟨b, j, none⟩ = false := fun j => frozen_at T2.out.hb
  have fq : ∀ j, w2.frozen? ⟨q, j, none⟩ = false := fun j => frozen_at T2.out.hq
  have q0 : w2.cell? ⟨q, 0, none⟩ = some (.bool false) := cell_of T2.out.hq rfl
  have q1 : w2.cell? ⟨q, 1, none⟩ = some (.bool false) := cell_of T2.out.hq rfl
  have q2 : w2.cell? ⟨q, 2, none⟩ = some (.bool false) := cell_of T2.out.hq rfl
  have q3 : w2.cell? ⟨q, 3, none⟩ = some (.bool false) := cell_of T2.out.hq rfl
  have q4 : w2.cell? ⟨q, 4, none⟩ = some (.bool false) := cell_of T2.out.hq rfl
  have q5 : w2.cell? ⟨q, 5, none⟩ = some (.bool false) := cell_of T2.out.hq rfl
  go_wp2_with fail
  have HT := ((((((T2.out.setq 0 (.bool false)).setq 1 (.bool false)).setq 2 (.bool false)).setq 3 (.bool true)).setq 4 (.bool false)).setq 5 (.bool true))
  exact bodyPost_ret (results_cell_row (fn := Try.f22) (p := 2) (ty := 25) rfl _ _ q 25 (⟨false, false, false, true, false, true⟩ : Du).cs (0, 0) _ rfl HT.hq Try.underlying25 rfl rfl) rfl ⟨rfl, HT.hb, HT.out⟩
set_option maxRecDepth 100000 in
set_option maxHeartbeats 1000000 in
theorem press_t (x : Wt) (b : Nat) (w : World) (h : w.heap[b]? = some (.cells x.cs 23 (0, 0))) (hp : x.p = true) (d1 : (x.n == -1) = false) : Calls Try.prog 22 #[.pointer (some ⟨b, 0, none⟩)] w (Dn b ⟨x.s, x.p, (-1)⟩ ⟨false, false, false, false, false, true⟩ w) := by
  have hb := lt_of_blk h
  have T0 := Lib.hid (Tw.start h)
  clear h
  go_enter Try.func22, Try.ntmps22
  go_upto_region 1 with (fail)
  generalize w.alloc (.cells #[.bool false, .bool false, .bool false, .bool false, .bool false, .bool false] 25) = w1 at T0 ⊢
  generalize w.heap.size = q at T0 hb ⊢
  have hne : ¬ b = q := by omega
  have hne2 : ¬ q = b := by omega
  have k0 : w1.cell? ⟨b, 0, none⟩ = some (.int .i64 x.s) := cell_of T0.out.hb rfl
  have k1 : w1.cell? ⟨b, 1, none⟩ = some (.bool x.p) := cell_of T0.out.hb rfl
  have k2 : w1.cell? ⟨b, 2, none⟩ = some (.int .i64 x.n) := cell_of T0.out.hb rfl
  have fz : ∀ j, w1.frozen? ⟨b, j, none⟩ = false := fun j => frozen_at T0.out.hb
  have fq : ∀ j, w1.frozen? ⟨q, j, none⟩ = false := fun j => frozen_at T0.out.hq
  have q0 : w1.cell? ⟨q, 0, none⟩ = some (.bool false) := cell_of T0.out.hq rfl
  have q1 : w1.cell? ⟨q, 1, none⟩ = some (.bool false) := cell_of T0.out.hq rfl
  have q2 : w1.cell? ⟨q, 2, none⟩ = some (.bool false) := cell_of T0.out.hq rfl
  have q3 : w1.cell? ⟨q, 3, none⟩ = some (.bool false) := cell_of T0.out.hq rfl
  have q4 : w1.cell? ⟨q, 4, none⟩ = some (.bool false) := cell_of T0.out.hq rfl
  have q5 : w1.cell? ⟨q, 5, none⟩ = some (.bool false) := cell_of T0.out.hq rfl
  go_wp2_with fail
  have HT := (((((((T0.out.setb 2 (.int .i64 (-1))).setq 0 (.bool false)).setq 1 (.bool false)).setq 2 (.bool false)).setq 3 (.bool false)).setq 4 (.bool false)).setq 5 (.bool true))
  exact bodyPost_ret (results_cell_row (fn := Try.f22) (p := 2) (ty := 25) rfl _ _ q 25 (⟨false, false, false, false, false, true⟩ : Du).cs (0, 0) _ rfl HT.hq Try.underlying25 rfl rfl) rfl ⟨rfl, HT.hb, HT.out⟩
set_option maxRecDepth 100000 in
set_option maxHeartbeats 1000000 in
theorem ini_1 (x : Wt) (b : Nat) (w : World) (h : w.heap[b]? = some (.cells x.cs 23 (0, 0))) : Calls Try.prog 13 #[.pointer (some ⟨b, 0, none⟩), .int .i64 1] w (Dn b ⟨1, false, x.n⟩ ⟨false, false, false, false, false, true⟩ w) := by
  have hb := lt_of_blk h
  have T0 := Lib.hid (Tw.start h)
  clear h
  go_enter Try.func13, Try.ntmps13
  go_upto_region 1 with (fail)
  generalize w.alloc (.cells #[.bool false, .bool false, .bool false, .bool false, .bool false, .bool false] 25) = w1 at T0 ⊢
  generalize w.heap.size = q at T0 hb ⊢
  have hne : ¬ b = q := by omega
  have hne2 : ¬ q = b := by omega
  have k0 : w1.cell? ⟨b, 0, none⟩ = some (.int .i64 x.s) := cell_of T0.out.hb rfl
  have k1 : w1.cell? ⟨b, 1, none⟩ = some (.bool x.p) := cell_of T0.out.hb rfl
  have k2 : w1.cell? ⟨b, 2, none⟩ = some (.int .i64 x.n) := cell_of T0.out.hb rfl
  have fz : ∀ j, w1.frozen? ⟨b, j, none⟩ = false := fun j => frozen_at T0.out.hb
  have fq : ∀ j, w1.frozen? ⟨q, j, none⟩ = false := fun j => frozen_at T0.out.hq
  have q0 : w1.cell? ⟨q, 0, none⟩ = some (.bool false) := cell_of T0.out.hq rfl
  have q1 : w1.cell? ⟨q, 1, none⟩ = some (.bool false) := cell_of T0.out.hq rfl
  have q2 : w1.cell? ⟨q, 2, none⟩ = some (.bool false) := cell_of T0.out.hq rfl
  have q3 : w1.cell? ⟨q, 3, none⟩ = some (.bool false) := cell_of T0.out.hq rfl
  have q4 : w1.cell? ⟨q, 4, none⟩ = some (.bool false) := cell_of T0.out.hq rfl
  have q5 : w1.cell? ⟨q, 5, none⟩ = some (.bool false) := cell_of T0.out.hq rfl
  go_wp2_with fail
  refine (settle_any x 1 b _ T0.out.hb).mono ?_
  rintro e w2 ⟨rfl, HT⟩
  have T2 := Lib.hid (T0.out.call HT)
  clear k0 k1 k2 fz fq q0 q1 q2 q3 q4 q5
  clear HT
  have k0 : w2.cell? ⟨b, 0, none⟩ = some (.int .i64 1) := cell_of T2.out.hb rfl
  have k1 : w2.cell? ⟨b, 1, none⟩ = some (.bool false) := cell_of T2.out.hb rfl
  have k2 : w2.cell? ⟨b, 2, none⟩ = some (.int .i64 x.n) := cell_of T2.out.hb rfl
  have fz : ∀ j, w2.frozen? ⟨b, j, none⟩ = false := fun j => frozen_at T2.out.hb
  have fq : ∀ j, w2.frozen? ⟨q, j, none⟩ = false := fun j => frozen_at T2.out.hq
  have q0 : w2.cell? ⟨q, 0, none⟩ = some (.bool false) := cell_of T2.out.hq rfl
  have q1 : w2.cell? ⟨q, 1, none⟩ = some (.bool false) := cell_of T2.out.hq rfl
  have q2 : w2.cell? ⟨q, 2, none⟩ = some (.bool false) := cell_of T2.out.hq rfl
  have q3 : w2.cell? ⟨q, 3, none⟩ = some (.bool false) := cell_of T2.out.hq rfl
  have q4 : w2.cell? ⟨q, 4, none⟩ = some (.bool false) := cell_of T2.out.hq rfl
  have q5 : w2.cell? ⟨q, 5, none⟩ = some (.bool false) := cell_of T2.out.hq rfl
  go_wp2_with fail
  have HT := ((((((T2.out.setq 0 (.bool false)).setq 1 (.bool false)).setq 2 (.bool false)).setq 3 (.bool false)).setq 4 (.bool false)).setq 5 (.bool true))
  exact bodyPost_ret (results_cell_row (fn := Try.f13) (p := 4) (ty := 25) rfl _ _ q 25 (⟨false, false, false, false, false, true⟩ : Du).cs (0, 0) _ rfl HT.hq Try.underlying25 rfl rfl) rfl ⟨rfl, HT.hb, HT.out⟩
set_option maxRecDepth 100000 in
set_option maxHeartbeats 1000000 in
theorem ini_5 (x : Wt) (b : Nat) (w : World) (h : w.heap[b]? = some (.cells x.cs 23 (0, 0))) : Calls Try.prog 13 #[.pointer (some ⟨b, 0, none⟩), .int .i64 5] w (Dn b ⟨x.s, x.p, x.n⟩ ⟨false, false, false, false, true, true⟩ w) := by
  have hb := lt_of_blk h
  have T0 := Lib.hid (Tw.start h)
  clear h
  go_enter Try.func13, Try.ntmps13
  go_upto_region 1 with (fail)
  generalize w.alloc (.cells #[.bool false, .bool false, .bool false, .bool false, .bool false, .bool false] 25) = w1 at T0 ⊢
  generalize w.heap.size = q at T0 hb ⊢
  have hne : ¬ b = q := by omega
  have hne2 : ¬ q = b := by omega
  have k0 : w1.cell? ⟨b, 0, none⟩ = some (.int .i64 x.s) := cell_of T0.out.hb rfl
  have k1 : w1.cell? ⟨b, 1, none⟩ = some (.bool x.p) := cell_of T0.out.hb rfl
  have k2 : w1.cell? ⟨b, 2, none⟩ = some (.int .i64 x.n) := cell_of T0.out.hb rfl
  have fz : ∀ j, w1.frozen? ⟨b, j, none⟩ = false := fun j => frozen_at T0.out.hb
  have fq : ∀ j, w1.frozen? ⟨q, j, none⟩ = false := fun j => frozen_at T0.out.hq
  have q0 : w1.cell? ⟨q, 0, none⟩ = some (.bool false) := cell_of T0.out.hq rfl
  have q1 : w1.cell? ⟨q, 1, none⟩ = some (.bool false) := cell_of T0.out.hq rfl
  have q2 : w1.cell? ⟨q, 2, none⟩ = some (.bool false) := cell_of T0.out.hq rfl
  have q3 : w1.cell? ⟨q, 3, none⟩ = some (.bool false) := cell_of T0.out.hq rfl
  have q4 : w1.cell? ⟨q, 4, none⟩ = some (.bool false) := cell_of T0.out.hq rfl
  have q5 : w1.cell? ⟨q, 5, none⟩ = some (.bool false) := cell_of T0.out.hq rfl
  go_wp2_with fail
  have HT := ((((((T0.out.setq 0 (.bool false)).setq 1 (.bool false)).setq 2 (.bool false)).setq 3 (.bool false)).setq 4 (.bool true)).setq 5 (.bool true))
  exact bodyPost_ret (results_cell_row (fn := Try.f13) (p := 4) (ty := 25) rfl _ _ q 25 (⟨false, false, false, false, true, true⟩ : Du).cs (0, 0) _ rfl HT.hq Try.underlying25 rfl rfl) rfl ⟨rfl, HT.hb, HT.out⟩
set_option maxRecDepth 100000 in
set_option maxHeartbeats 1000000 in
theorem ini_2 (x : Wt) (b : Nat) (w : World) (h : w.heap[b]? = some (.cells x.cs 23 (0, 0))) : Calls Try.prog 13 #[.pointer (some ⟨b, 0, none⟩), .int .i64 2] w (Dn b ⟨x.s, x.p, x.n⟩ ⟨false, false, false, false, false, false⟩ w) := by
  have hb := lt_of_blk h
  have T0 := Lib.hid (Tw.start h)
  clear h
  go_enter Try.func13, Try.ntmps13
  go_upto_region 1 with (fail)
  generalize w.alloc (.cells #[.bool false, .bool false, .bool false, .bool false, .bool false, .bool false] 25) = w1 at T0 ⊢
  generalize w.heap.size = q at T0 hb ⊢
  have hne : ¬ b = q := by omega
  have hne2 : ¬ q = b := by omega
  have k0 : w1.cell? ⟨b, 0, none⟩ = some (.int .i64 x.s) := cell_of T0.out.hb rfl
  have k1 : w1.cell? ⟨b, 1, none⟩ = some (.bool x.p) := cell_of T0.out.hb rfl
  have k2 : w1.cell? ⟨b, 2, none⟩ = some (.int .i64 x.n) := cell_of T0.out.hb rfl
  have fz : ∀ j, w1.frozen? ⟨b, j, none⟩ = false := fun j => frozen_at T0.out.hb
  have fq : ∀ j, w1.frozen? ⟨q, j, none⟩ = false := fun j => frozen_at T0.out.hq
  have q0 : w1.cell? ⟨q, 0, none⟩ = some (.bool false) := cell_of T0.out.hq rfl
  have q1 : w1.cell? ⟨q, 1, none⟩ = some (.bool false) := cell_of T0.out.hq rfl
  have q2 : w1.cell? ⟨q, 2, none⟩ = some (.bool false) := cell_of T0.out.hq rfl
  have q3 : w1.cell? ⟨q, 3, none⟩ = some (.bool false) := cell_of T0.out.hq rfl
  have q4 : w1.cell? ⟨q, 4, none⟩ = some (.bool false) := cell_of T0.out.hq rfl
  have q5 : w1.cell? ⟨q, 5, none⟩ = some (.bool false) := cell_of T0.out.hq rfl
  go_wp2_with fail
  have HT := ((((((T0.out.setq 0 (.bool false)).setq 1 (.bool false)).setq 2 (.bool false)).setq 3 (.bool false)).setq 4 (.bool false)).setq 5 (.bool false))
  exact bodyPost_ret (results_cell_row (fn := Try.f13) (p := 4) (ty := 25) rfl _ _ q 25 (⟨false, false, false, false, false, false⟩ : Du).cs (0, 0) _ rfl HT.hq Try.underlying25 rfl rfl) rfl ⟨rfl, HT.hb, HT.out⟩
set_option maxRecDepth 100000 in
set_option maxHeartbeats 1000000 in
theorem ini_3 (x : Wt) (b : Nat) (w : World) (h : w.heap[b]? = some (.cells x.cs 23 (0, 0))) : Calls Try.prog 13 #[.pointer (some ⟨b, 0, none⟩), .int .i64 3] w (Dn b ⟨x.s, x.p, x.n⟩ ⟨false, false, false, false, false, false⟩ w) := by
  have hb := lt_of_blk h
  have T0 := Lib.hid (Tw.start h)
  clear h
  go_enter Try.func13, Try.ntmps13
  go_upto_region 1 with (fail)
  generalize w.alloc (.cells #[.bool false, .bool false, .bool false, .bool false, .bool false, .bool false] 25) = w1 at T0 ⊢
  generalize w.heap.size = q at T0 hb ⊢
  have hne : ¬ b = q := by omega
  have hne2 : ¬ q = b := by omega
  have k0 : w1.cell? ⟨b, 0, none⟩ = some (.int .i64 x.s) := cell_of T0.out.hb rfl
  have k1 : w1.cell? ⟨b, 1, none⟩ = some (.bool x.p) := cell_of T0.out.hb rfl
  have k2 : w1.cell? ⟨b, 2, none⟩ = some (.int .i64 x.n) := cell_of T0.out.hb rfl
  have fz : ∀ j, w1.frozen? ⟨b, j, none⟩ = false := fun j => frozen_at T0.out.hb
  have fq : ∀ j, w1.frozen? ⟨q, j, none⟩ = false := fun j => frozen_at T0.out.hq
  have q0 : w1.cell? ⟨q, 0, none⟩ = some (.bool false) := cell_of T0.out.hq rfl
  have q1 : w1.cell? ⟨q, 1, none⟩ = some (.bool false) := cell_of T0.out.hq rfl
  have q2 : w1.cell? ⟨q, 2, none⟩ = some (.bool false) := cell_of T0.out.hq rfl
  have q3 : w1.cell? ⟨q, 3, none⟩ = some (.bool false) := cell_of T0.out.hq rfl
  have q4 : w1.cell? ⟨q, 4, none⟩ = some (.bool false) := cell_of T0.out.hq rfl
  have q5 : w1.cell? ⟨q, 5, none⟩ = some (.bool false) := cell_of T0.out.hq rfl
  go_wp2_with fail
  have HT := ((((((T0.out.setq 0 (.bool false)).setq 1 (.bool false)).setq 2 (.bool false)).setq 3 (.bool false)).setq 4 (.bool false)).setq 5 (.bool false))
  exact bodyPost_ret (results_cell_row (fn := Try.f13) (p := 4) (ty := 25) rfl _ _ q 25 (⟨false, false, false, false, false, false⟩ : Du).cs (0, 0) _ rfl HT.hq Try.underlying25 rfl rfl) rfl ⟨rfl, HT.hb, HT.out⟩
set_option maxRecDepth 100000 in
set_option maxHeartbeats 1000000 in
theorem ini_4 (x : Wt) (b : Nat) (w : World) (h : w.heap[b]? = some (.cells x.cs 23 (0, 0))) : Calls Try.prog 13 #[.pointer (some ⟨b, 0, none⟩), .int .i64 4] w (Dn b ⟨x.s, x.p, x.n⟩ ⟨false, false, false, false, false, false⟩ w) := by
  have hb := lt_of_blk h
  have T0 := Lib.hid (Tw.start h)
  clear h
  go_enter Try.func13, Try.ntmps13
  go_upto_region 1 with (fail)
  generalize w.alloc (.cells #[.bool false, .bool false, .bool false, .bool false, .bool false, .bool false] 25) = w1 at T0 ⊢
  generalize w.heap.size = q at T0 hb ⊢
  have hne : ¬ b = q := by omega
  have hne2 : ¬ q = b := by omega
  have k0 : w1.cell? ⟨b, 0, none⟩ = some (.int .i64 x.s) := cell_of T0.out.hb rfl
  have k1 : w1.cell? ⟨b, 1, none⟩ = some (.bool x.p) := cell_of T0.out.hb rfl
  have k2 : w1.cell? ⟨b, 2, none⟩ = some (.int .i64 x.n) := cell_of T0.out.hb rfl
  have fz : ∀ j, w1.frozen? ⟨b, j, none⟩ = false := fun j => frozen_at T0.out.hb
  have fq : ∀ j, w1.frozen? ⟨q, j, none⟩ = false := fun j => frozen_at T0.out.hq
  have q0 : w1.cell? ⟨q, 0, none⟩ = some (.bool false) := cell_of T0.out.hq rfl
  have q1 : w1.cell? ⟨q, 1, none⟩ = some (.bool false) := cell_of T0.out.hq rfl
  have q2 : w1.cell? ⟨q, 2, none⟩ = some (.bool false) := cell_of T0.out.hq rfl
  have q3 : w1.cell? ⟨q, 3, none⟩ = some (.bool false) := cell_of T0.out.hq rfl
  have q4 : w1.cell? ⟨q, 4, none⟩ = some (.bool false) := cell_of T0.out.hq rfl
  have q5 : w1.cell? ⟨q, 5, none⟩ = some (.bool false) := cell_of T0.out.hq rfl
  go_wp2_with fail
  have HT := ((((((T0.out.setq 0 (.bool false)).setq 1 (.bool false)).setq 2 (.bool false)).setq 3 (.bool false)).setq 4 (.bool false)).setq 5 (.bool false))
  exact bodyPost_ret (results_cell_row (fn := Try.f13) (p := 4) (ty := 25) rfl _ _ q 25 (⟨false, false, false, false, false, false⟩ : Du).cs (0, 0) _ rfl HT.hq Try.underlying25 rfl rfl) rfl ⟨rfl, HT.hb, HT.out⟩
set_option maxRecDepth 100000 in
set_option maxHeartbeats 1000000 in
theorem oka_3 (x : Wt) (b : Nat) (w : World) (h : w.heap[b]? = some (.cells x.cs 23 (0, 0))) : Calls Try.prog 14 #[.pointer (some ⟨b, 0, none⟩), .int .i64 3] w (Dn b ⟨x.s, false, x.n⟩ ⟨false, false, false, false, false, true⟩ w) := by
  have hb := lt_of_blk h
  have T0 := Lib.hid (Tw.start h)
  clear h
  go_enter Try.func14, Try.ntmps14
  go_upto_region 1 with (fail)
  generalize w.alloc (.cells #[.bool false, .bool false, .bool false, .bool false, .bool false, .bool false] 25) = w1 at T0 ⊢
  generalize w.heap.size = q at T0 hb ⊢
  have hne : ¬ b = q := by omega
  have hne2 : ¬ q = b := by omega
  have k0 : w1.cell? ⟨b, 0, none⟩ = some (.int .i64 x.s) := cell_of T0.out.hb rfl
  have k1 : w1.cell? ⟨b, 1, none⟩ = some (.bool x.p) := cell_of T0.out.hb rfl
  have k2 : w1.cell? ⟨b, 2, none⟩ = some (.int .i64 x.n) := cell_of T0.out.hb rfl
  have fz : ∀ j, w1.frozen? ⟨b, j, none⟩ = false := fun j => frozen_at T0.out.hb
  have fq : ∀ j, w1.frozen? ⟨q, j, none⟩ = false := fun j => frozen_at T0.out.hq
  have q0 : w1.cell? ⟨q, 0, none⟩ = some (.bool false) := cell_of T0.out.hq rfl
  have q1 : w1.cell? ⟨q, 1, none⟩ = some (.bool false) := cell_of T0.out.hq rfl
  have q2 : w1.cell? ⟨q, 2, none⟩ = some (.bool false) := cell_of T0.out.hq rfl
  have q3 : w1.cell? ⟨q, 3, none⟩ = some (.bool false) := cell_of T0.out.hq rfl
  have q4 : w1.cell? ⟨q, 4, none⟩ = some (.bool false) := cell_of T0.out.hq rfl
  have q5 : w1.cell? ⟨q, 5, none⟩ = some (.bool false) := cell_of T0.out.hq rfl
  go_wp2_with fail
  have HT := (((((((T0.out.setb 1 (.bool false)).setq 0 (.bool false)).setq 1 (.bool false)).setq 2 (.bool false)).setq 3 (.bool false)).setq 4 (.bool false)).setq 5 (.bool true))
  exact bodyPost_ret (results_cell_row (fn := Try.f14) (p := 4) (ty := 25) rfl _ _ q 25 (⟨false, false, false, false, false, true⟩ : Du).cs (0, 0) _ rfl HT.hq Try.underlying25 rfl rfl) rfl ⟨rfl, HT.hb, HT.out⟩
set_option maxRecDepth 100000 in
set_option maxHeartbeats 1000000 in
theorem oka_4 (x : Wt) (b : Nat) (w : World) (h : w.heap[b]? = some (.cells x.cs 23 (0, 0))) : Calls Try.prog 14 #[.pointer (some ⟨b, 0, none⟩), .int .i64 4] w (Dn b ⟨x.s, x.p, x.n⟩ ⟨false, false, false, false, false, true⟩ w) := by
  have hb := lt_of_blk h
  have T0 := Lib.hid (Tw.start h)
  clear h
  go_enter Try.func14, Try.ntmps14
  go_upto_region 1 with (fail)
  generalize w.alloc (.cells #[.bool false, .bool false, .bool false, .bool false, .bool false, .bool false] 25) = w1 at T0 ⊢
  generalize w.heap.size = q at T0 hb ⊢
  have hne : ¬ b = q := by omega
  have hne2 : ¬ q = b := by omega
  have k0 : w1.cell? ⟨b, 0, none⟩ = some (.int .i64 x.s) := cell_of T0.out.hb rfl
  have k1 : w1.cell? ⟨b, 1, none⟩ = some (.bool x.p) := cell_of T0.out.hb rfl
  have k2 : w1.cell? ⟨b, 2, none⟩ = some (.int .i64 x.n) := cell_of T0.out.hb rfl
  have fz : ∀ j, w1.frozen? ⟨b, j, none⟩ = false := fun j => frozen_at T0.out.hb
  have fq : ∀ j, w1.frozen? ⟨q, j, none⟩ = false := fun j => frozen_at T0.out.hq
  have q0 : w1.cell? ⟨q, 0, none⟩ = some (.bool false) := cell_of T0.out.hq rfl
  have q1 : w1.cell? ⟨q, 1, none⟩ = some (.bool false) := cell_of T0.out.hq rfl
  have q2 : w1.cell? ⟨q, 2, none⟩ = some (.bool false) := cell_of T0.out.hq rfl
  have q3 : w1.cell? ⟨q, 3, none⟩ = some (.bool false) := cell_of T0.out.hq rfl
  have q4 : w1.cell? ⟨q, 4, none⟩ = some (.bool false) := cell_of T0.out.hq rfl
  have q5 : w1.cell? ⟨q, 5, none⟩ = some (.bool false) := cell_of T0.out.hq rfl
  go_wp2_with fail
  have HT := ((((((T0.out.setq 0 (.bool false)).setq 1 (.bool false)).setq 2 (.bool false)).setq 3 (.bool false)).setq 4 (.bool false)).setq 5 (.bool true))
  exact bodyPost_ret (results_cell_row (fn := Try.f14) (p := 4) (ty := 25) rfl _ _ q 25 (⟨false, false, false, false, false, true⟩ : Du).cs (0, 0) _ rfl HT.hq Try.underlying25 rfl rfl) rfl ⟨rfl, HT.hb, HT.out⟩
set_option maxRecDepth 100000 in
set_option maxHeartbeats 1000000 in
theorem oka_2 (x : Wt) (b : Nat) (w : World) (h : w.heap[b]? = some (.cells x.cs 23 (0, 0))) : Calls Try.prog 14 #[.pointer (some ⟨b, 0, none⟩), .int .i64 2] w (Dn b ⟨3, false, x.n⟩ ⟨false, true, false, false, false, true⟩ w) := by
  have hb := lt_of_blk h
  have T0 := Lib.hid (Tw.start h)
  clear h
  go_enter Try.func14, Try.ntmps14
  go_upto_region 1 with (fail)
  generalize w.alloc (.cells #[.bool false, .bool false, .bool false, .bool false, .bool false, .bool false] 25) = w1 at T0 ⊢
  generalize w.heap.size = q at T0 hb ⊢
  have hne : ¬ b = q := by omega
  have hne2 : ¬ q = b := by omega
  have k0 : w1.cell? ⟨b, 0, none⟩ = some (.int .i64 x.s) := cell_of T0.out.hb rfl
  have k1 : w1.cell? ⟨b, 1, none⟩ = some (.bool x.p) := cell_of T0.out.hb rfl
  have k2 : w1.cell? ⟨b, 2, none⟩ = some (.int .i64 x.n) := cell_of T0.out.hb rfl
  have fz : ∀ j, w1.frozen? ⟨b, j, none⟩ = false := fun j => frozen_at T0.out.hb
  have fq : ∀ j, w1.frozen? ⟨q, j, none⟩ = false := fun j => frozen_at T0.out.hq
  have q0 : w1.cell? ⟨q, 0, none⟩ = some (.bool false) := cell_of T0.out.hq rfl
  have q1 : w1.cell? ⟨q, 1, none⟩ = some (.bool false) := cell_of T0.out.hq rfl
  have q2 : w1.cell? ⟨q, 2, none⟩ = some (.bool false) := cell_of T0.out.hq rfl
  have q3 : w1.cell? ⟨q, 3, none⟩ = some (.bool false) := cell_of T0.out.hq rfl
  have q4 : w1.cell? ⟨q, 4, none⟩ = some (.bool false) := cell_of T0.out.hq rfl
  have q5 : w1.cell? ⟨q, 5, none⟩ = some (.bool false) := cell_of T0.out.hq rfl
  go_wp2_with fail
  refine (settle_any x 3 b _ T0.out.hb).mono ?_
  rintro e w2 ⟨rfl, HT⟩
  have T2 := Lib.hid (T0.out.call HT)
  clear k0 k1 k2 fz fq q0 q1 q2 q3 q4 q5
  clear HT
  have k0 : w2.cell? ⟨b, 0, none⟩ = some (.int .i64 3) := cell_of T2.out.hb rfl
  have k1 : w2.cell? ⟨b, 1, none⟩ = some (.bool false) := cell_of T2.out.hb rfl
  have k2 : w2.cell? ⟨b, 2, none⟩ = some (.int .i64 x.n) := cell_of T2.out.hb rfl
  have fz : ∀ j, w2.frozen? ⟨b, j, none⟩ = false := fun j => frozen_at T2.out.hb
  have fq : ∀ j, w2.frozen? ⟨q, j, none⟩ = false := fun j => frozen_at T2.out.hq
  have q0 : w2.cell? ⟨q, 0, none⟩ = some (.bool false) := cell_of T2.out.hq rfl
  have q1 : w2.cell? ⟨q, 1, none⟩ = some (.bool false) := cell_of T2.out.hq rfl
  have q2 : w2.cell? ⟨q, 2, none⟩ = some (.bool false) := cell_of T2.out.hq rfl
  have q3 : w2.cell? ⟨q, 3, none⟩ = some (.bool false) := cell_of T2.out.hq rfl
  have q4 : w2.cell? ⟨q, 4, none⟩ = some (.bool false) := cell_of T2.out.hq rfl
  have q5 : w2.cell? ⟨q, 5, none⟩ = some (.bool false) := cell_of T2.out.hq rfl
  go_wp2_with fail
  have HT := ((((((T2.out.setq 0 (.bool false)).setq 1 (.bool true)).setq 2 (.bool false)).setq 3 (.bool false)).setq 4 (.bool false)).setq 5 (.bool true))
  exact bodyPost_ret (results_cell_row (fn := Try.f14) (p := 4) (ty := 25) rfl _ _ q 25 (⟨false, true, false, false, false, true⟩ : Du).cs (0, 0) _ rfl HT.hq Try.underlying25 rfl rfl) rfl ⟨rfl, HT.hb, HT.out⟩
set_option maxRecDepth 100000 in
set_option maxHeartbeats 1000000 in
theorem oka_5f (x : Wt) (b : Nat) (w : World) (h : w.heap[b]? = some (.cells x.cs 23 (0, 0))) (hp : x.p = false) : Calls Try.prog 14 #[.pointer (some ⟨b, 0, none⟩), .int .i64 5] w (Dn b ⟨x.s, true, x.n⟩ ⟨true, false, false, false, false, true⟩ w) := by
  have hb := lt_of_blk h
  have T0 := Lib.hid (Tw.start h)
  clear h
  go_enter Try.func14, Try.ntmps14
  go_upto_region 1 with (fail)
  generalize w.alloc (.cells #[.bool false, .bool false, .bool false, .bool false, .bool false, .bool false] 25) = w1 at T0 ⊢
  generalize w.heap.size = q at T0 hb ⊢
  have hne : ¬ b = q := by omega
  have hne2 : ¬ q = b := by omega
  have k0 : w1.cell? ⟨b, 0, none⟩ = some (.int .i64 x.s) := cell_of T0.out.hb rfl
  have k1 : w1.cell? ⟨b, 1, none⟩ = some (.bool x.p) := cell_of T0.out.hb rfl
  have k2 : w1.cell? ⟨b, 2, none⟩ = some (.int .i64 x.n) := cell_of T0.out.hb rfl
  have fz : ∀ j, w1.frozen? ⟨b, j, none⟩ = false := fun j => frozen_at T0.out.hb
  have fq : ∀ j, w1.frozen? ⟨q, j, none⟩ = false := fun j => frozen_at T0.out.hq
  have q0 : w1.cell? ⟨q, 0, none⟩ = some (.bool false) := cell_of T0.out.hq rfl
  have q1 : w1.cell? ⟨q, 1, none⟩ = some (.bool false) := cell_of T0.out.hq rfl
  have q2 : w1.cell? ⟨q, 2, none⟩ = some (.bool false) := cell_of T0.out.hq rfl
  have q3 : w1.cell? ⟨q, 3, none⟩ = some (.bool false) := cell_of T0.out.hq rfl
  have q4 : w1.cell? ⟨q, 4, none⟩ = some (.bool false) := cell_of T0.out.hq rfl
  have q5 : w1.cell? ⟨q, 5, none⟩ = some (.bool false) := cell_of T0.out.hq rfl
  go_wp2_with fail
  refine (doubt_f x b _ T0.out.hb hp).mono ?_
  rintro e w2 ⟨rfl, HT⟩
  have T2 := Lib.hid (T0.out.call HT)
  clear k0 k1 k2 fz fq q0 q1 q2 q3 q4 q5
  clear HT
  have k0 : w2.cell? ⟨b, 0, none⟩ = some (.int .i64 x.s) := cell_of T2.out.hb rfl
  have k1 : w2.cell? ⟨b, 1, none⟩ = some (.bool true) := cell_of T2.out.hb rfl
  have k2 : w2.cell? ⟨b, 2, none⟩ = some (.int .i64 x.n) := cell_of T2.out.hb rfl
  have fz : ∀ j, w2.frozen? ⟨b, j, none⟩ = false := fun j => frozen_at T2.out.hb
  have fq : ∀ j, w2.frozen? ⟨q, j, none⟩ = false := fun j => frozen_at T2.out.hq
  have q0 : w2.cell? ⟨q, 0, none⟩ = some (.bool false) := cell_of T2.out.hq rfl
  have q1 : w2.cell? ⟨q, 1, none⟩ = some (.bool false) := cell_of T2.out.hq rfl
  have q2 : w2.cell? ⟨q, 2, none⟩ = some (.bool false) := cell_of T2.out.hq rfl
  have q3 : w2.cell? ⟨q, 3, none⟩ = some (.bool false) := cell_of T2.out.hq rfl
  have q4 : w2.cell? ⟨q, 4, none⟩ = some (.bool false) := cell_of T2.out.hq rfl
  have q5 : w2.cell? ⟨q, 5, none⟩ = some (.bool false) := cell_of T2.out.hq rfl
  go_wp2_with fail
  have HT := ((((((T2.out.setq 0 (.bool true)).setq 1 (.bool false)).setq 2 (.bool false)).setq 3 (.bool false)).setq 4 (.bool false)).setq 5 (.bool true))
  exact bodyPost_ret (results_cell_row (fn := Try.f14) (p := 4) (ty := 25) rfl _ _ q 25 (⟨true, false, false, false, false, true⟩ : Du).cs (0, 0) _ rfl HT.hq Try.underlying25 rfl rfl) rfl ⟨rfl, HT.hb, HT.out⟩
set_option maxRecDepth 100000 in
set_option maxHeartbeats 1000000 in
theorem oka_5t (x : Wt) (b : Nat) (w : World) (h : w.heap[b]? = some (.cells x.cs 23 (0, 0))) (hp : x.p = true) : Calls Try.prog 14 #[.pointer (some ⟨b, 0, none⟩), .int .i64 5] w (Dn b ⟨2, x.p, x.n⟩ ⟨false, true, false, false, false, true⟩ w) := by
  have hb := lt_of_blk h
  have T0 := Lib.hid (Tw.start h)
  clear h
  go_enter Try.func14, Try.ntmps14
  go_upto_region 1 with (fail)
  generalize w.alloc (.cells #[.bool false, .bool false, .bool false, .bool false, .bool false, .bool false] 25) = w1 at T0 ⊢
  generalize w.heap.size = q at T0 hb ⊢
  have hne : ¬ b = q := by omega
  have hne2 : ¬ q = b := by omega
  have k0 : w1.cell? ⟨b, 0, none⟩ = some (.int .i64 x.s) := cell_of T0.out.hb rfl
  have k1 : w1.cell? ⟨b, 1, none⟩ = some (.bool x.p) := cell_of T0.out.hb rfl
  have k2 : w1.cell? ⟨b, 2, none⟩ = some (.int .i64 x.n) := cell_of T0.out.hb rfl
  have fz : ∀ j, w1.frozen? ⟨b, j, none⟩ = false := fun j => frozen_at T0.out.hb
  have fq : ∀ j, w1.frozen? ⟨q, j, none⟩ = false := fun j => frozen_at T0.out.hq
  have q0 : w1.cell? ⟨q, 0, none⟩ = some (.bool false) := cell_of T0.out.hq rfl
  have q1 : w1.cell? ⟨q, 1, none⟩ = some (.bool false) := cell_of T0.out.hq rfl
  have q2 : w1.cell? ⟨q, 2, none⟩ = some (.bool false) := cell_of T0.out.hq rfl
  have q3 : w1.cell? ⟨q, 3, none⟩ = some (.bool false) := cell_of T0.out.hq rfl
  have q4 : w1.cell? ⟨q, 4, none⟩ = some (.bool false) := cell_of T0.out.hq rfl
  have q5 : w1.cell? ⟨q, 5, none⟩ = some (.bool false) := cell_of T0.out.hq rfl
  go_wp2_with fail
  refine (doubt_t x b _ T0.out.hb hp).mono ?_
  rintro e w2 ⟨rfl, HT⟩
  have T2 := Lib.hid (T0.out.call HT)
  clear k0 k1 k2 fz fq q0 q1 q2 q3 q4 q5
  clear HT
  have k0 : w2.cell? ⟨b, 0, none⟩ = some (.int .i64 2) := cell_of T2.out.hb rfl
  have k1 : w2.cell? ⟨b, 1, none⟩ = some (.bool x.p) := cell_of T2.out.hb rfl
  have k2 : w2.cell? ⟨b, 2, none⟩ = some (.int .i64 x.n) := cell_of T2.out.hb rfl
  have fz : ∀ j, w2.frozen? ⟨b, j, none⟩ = false := fun j => frozen_at T2.out.hb
  have fq : ∀ j, w2.frozen? ⟨q, j, none⟩ = false := fun j => frozen_at T2.out.hq
  have q0 : w2.cell? ⟨q, 0, none⟩ = some (.bool false) := cell_of T2.out.hq rfl
  have q1 : w2.cell? ⟨q, 1, none⟩ = some (.bool false) := cell_of T2.out.hq rfl
  have q2 : w2.cell? ⟨q, 2, none⟩ = some (.bool false) := cell_of T2.out.hq rfl
  have q3 : w2.cell? ⟨q, 3, none⟩ = some (.bool false) := cell_of T2.out.hq rfl
  have q4 : w2.cell? ⟨q, 4, none⟩ = some (.bool false) := cell_of T2.out.hq rfl
  have q5 : w2.cell? ⟨q, 5, none⟩ = some (.bool false) := cell_of T2.out.hq rfl
  go_wp2_with fail
  have HT := ((((((T2.out.setq 0 (.bool false)).setq 1 (.bool true)).setq 2 (.bool false)).setq 3 (.bool false)).setq 4 (.bool false)).setq 5 (.bool true))
  exact bodyPost_ret (results_cell_row (fn := Try.f14) (p := 4) (ty := 25) rfl _ _ q 25 (⟨false, true, false, false, false, true⟩ : Du).cs (0, 0) _ rfl HT.hq Try.underlying25 rfl rfl) rfl ⟨rfl, HT.hb, HT.out⟩
set_option maxRecDepth 100000 in
set_option maxHeartbeats 1000000 in
theorem oka_1 (x : Wt) (b : Nat) (w : World) (h : w.heap[b]? = some (.cells x.cs 23 (0, 0))) : Calls Try.prog 14 #[.pointer (some ⟨b, 0, none⟩), .int .i64 1] w (Dn b ⟨x.s, x.p, x.n⟩ ⟨false, false, false, false, false, false⟩ w) := by
  have hb := lt_of_blk h
  have T0 := Lib.hid (Tw.start h)
  clear h
  go_enter Try.func14, Try.ntmps14
  go_upto_region 1 with (fail)
  generalize w.alloc (.cells #[.bool false, .bool false, .bool false, .bool false, .bool false, .bool false] 25) = w1 at T0 ⊢
  generalize w.heap.size = q at T0 hb ⊢
  have hne : ¬ b = q := by omega
  have hne2 : ¬ q = b := by omega
  have k0 : w1.cell? ⟨b, 0, none⟩ = some (.int .i64 x.s) := cell_of T0.out.hb rfl
  have k1 : w1.cell? ⟨b, 1, none⟩ = some (.bool x.p) := cell_of T0.out.hb rfl
  have k2 : w1.cell? ⟨b, 2, none⟩ = some (.int .i64 x.n) := cell_of T0.out.hb rfl
  have fz : ∀ j, w1.frozen? ⟨b, j, none⟩ = false := fun j => frozen_at T0.out.hb
  have fq : ∀ j, w1.frozen? ⟨q, j, none⟩ = false := fun j => frozen_at T0.out.hq
  have q0 : w1.cell? ⟨q, 0, none⟩ = some (.bool false) := cell_of T0.out.hq rfl
  have q1 : w1.cell? ⟨q, 1, none⟩ = some (.bool false) := cell_of T0.out.hq rfl
  have q2 : w1.cell? ⟨q, 2, none⟩ = some (.bool false) := cell_of T0.out.hq rfl
  have q3 : w1.cell? ⟨q, 3, none⟩ = some (.bool false) := cell_of T0.out.hq rfl
  have q4 : w1.cell? ⟨q, 4, none⟩ = some (.bool false) := cell_of T0.out.hq rfl
  have q5 : w1.cell? ⟨q, 5, none⟩ = some (.bool false) := cell_of T0.out.hq rfl
  go_wp2_with fail
  have HT := ((((((T0.out.setq 0 (.bool false)).setq 1 (.bool false)).setq 2 (.bool false)).setq 3 (.bool false)).setq 4 (.bool false)).setq 5 (.bool false))
  exact bodyPost_ret (results_cell_row (fn := Try.f14) (p := 4) (ty := 25) rfl _ _ q 25 (⟨false, false, false, false, false, false⟩ : Du).cs (0, 0) _ rfl HT.hq Try.underlying25 rfl rfl) rfl ⟨rfl, HT.hb, HT.out⟩
set_option maxRecDepth 100000 in
set_option maxHeartbeats 1000000 in
theorem sus_3 (x : Wt) (b : Nat) (w : World) (h : w.heap[b]? = some (.cells x.cs 23 (0, 0))) : Calls Try.prog 15 #[.pointer (some ⟨b, 0, none⟩), .int .i64 3] w (Dn b ⟨1, false, x.n⟩ ⟨false, false, true, false, false, true⟩ w) := by
  have hb := lt_of_blk h
  have T0 := Lib.hid (Tw.start h)
  clear h
  go_enter Try.func15, Try.ntmps15
  go_upto_region 1 with (fail)
  generalize w.alloc (.cells #[.bool false, .bool false, .bool false, .bool false, .bool false, .bool false] 25) = w1 at T0 ⊢
  generalize w.heap.size = q at T0 hb ⊢
  have hne : ¬ b = q := by omega
  have hne2 : ¬ q = b := by omega
  have k0 : w1.cell? ⟨b, 0, none⟩ = some (.int .i64 x.s) := cell_of T0.out.hb rfl
  have k1 : w1.cell? ⟨b, 1, none⟩ = some (.bool x.p) := cell_of T0.out.hb rfl
  have k2 : w1.cell? ⟨b, 2, none⟩ = some (.int .i64 x.n) := cell_of T0.out.hb rfl
  have fz : ∀ j, w1.frozen? ⟨b, j, none⟩ = false := fun j => frozen_at T0.out.hb
  have fq : ∀ j, w1.frozen? ⟨q, j, none⟩ = false := fun j => frozen_at T0.out.hq
  have q0 : w1.cell? ⟨q, 0, none⟩ = some (.bool false) := cell_of T0.out.hq rfl
  have q1 : w1.cell? ⟨q, 1, none⟩ = some (.bool false) := cell_of T0.out.hq rfl
  have q2 : w1.cell? ⟨q, 2, none⟩ = some (.bool false) := cell_of T0.out.hq rfl
  have q3 : w1.cell? ⟨q, 3, none⟩ = some (.bool false) := cell_of T0.out.hq rfl
  have q4 : w1.cell? ⟨q, 4, none⟩ = some (.bool false) := cell_of T0.out.hq rfl
  have q5 : w1.cell? ⟨q, 5, none⟩ = some (.bool false) := cell_of T0.out.hq rfl
  go_wp2_with fail
  refine (settle_any x 1 b _ T0.out.hb).mono ?_
  rintro e w2 ⟨rfl, HT⟩
  have T2 := Lib.hid (T0.out.call HT)
  clear k0 k1 k2 fz fq q0 q1 q2 q3 q4 q5
  clear HT
  have k0 : w2.cell? ⟨b, 0, none⟩ = some (.int .i64 1) := cell_of T2.out.hb rfl
  have k1 : w2.cell? ⟨b, 1, none⟩ = some (.bool false) := cell_of T2.out.hb rfl
  have k2 : w2.cell? ⟨b, 2, none⟩ = some (.int .i64 x.n) := cell_of T2.out.hb rfl
  have fz : ∀ j, w2.frozen? ⟨b, j, none⟩ = false := fun j => frozen_at T2.out.hb
  have fq : ∀ j, w2.frozen? ⟨q, j, none⟩ = false := fun j => frozen_at T2.out.hq
  have q0 : w2.cell? ⟨q, 0, none⟩ = some (.bool false) := cell_of T2.out.hq rfl
  have q1 : w2.cell? ⟨q, 1, none⟩ = some (.bool false) := cell_of T2.out.hq rfl
  have q2 : w2.cell? ⟨q, 2, none⟩ = some (.bool false) := cell_of T2.out.hq rfl
  have q3 : w2.cell? ⟨q, 3, none⟩ = some (.bool false) := cell_of T2.out.hq rfl
  have q4 : w2.cell? ⟨q, 4, none⟩ = some (.bool false) := cell_of T2.out.hq rfl
  have q5 : w2.cell? ⟨q, 5, none⟩ = some (.bool false) := cell_of T2.out.hq rfl
  go_wp2_with fail
  have HT := ((((((T2.out.setq 0 (.bool false)).setq 1 (.bool false)).setq 2 (.bool true)).setq 3 (.bool false)).setq 4 (.bool false)).setq 5 (.bool true))
  exact bodyPost_ret (results_cell_row (fn := Try.f15) (p := 4) (ty := 25) rfl _ _ q 25 (⟨false, false, true, false, false, true⟩ : Du).cs (0, 0) _ rfl HT.hq Try.underlying25 rfl rfl) rfl ⟨rfl, HT.hb, HT.out⟩
set_option maxRecDepth 100000 in
set_option maxHeartbeats 1000000 in
theorem sus_4 (x : Wt) (b : Nat) (w : World) (h : w.heap[b]? = some (.cells x.cs 23 (0, 0))) : Calls Try.prog 15 #[.pointer (some ⟨b, 0, none⟩), .int .i64 4] w (Dn b ⟨1, x.p, x.n⟩ ⟨false, false, true, false, false, true⟩ w) := by
  have hb := lt_of_blk h
  have T0 := Lib.hid (Tw.start h)
  clear h
  go_enter Try.func15, Try.ntmps15
  go_upto_region 1 with (fail)
  generalize w.alloc (.cells #[.bool false, .bool false, .bool false, .bool false, .bool false, .bool false] 25) = w1 at T0 ⊢
  generalize w.heap.size = q at T0 hb ⊢
  have hne : ¬ b = q := by omega
  have hne2 : ¬ q = b := by omega
  have k0 : w1.cell? ⟨b, 0, none⟩ = some (.int .i64 x.s) := cell_of T0.out.hb rfl
  have k1 : w1.cell? ⟨b, 1, none⟩ = some (.bool x.p) := cell_of T0.out.hb rfl
  have k2 : w1.cell? ⟨b, 2, none⟩ = some (.int .i64 x.n) := cell_of T0.out.hb rfl
  have fz : ∀ j, w1.frozen? ⟨b, j, none⟩ = false := fun j => frozen_at T0.out.hb
  have fq : ∀ j, w1.frozen? ⟨q, j, none⟩ = false := fun j => frozen_at T0.out.hq
  have q0 : w1.cell? ⟨q, 0, none⟩ = some (.bool false) := cell_of T0.out.hq rfl
  have q1 : w1.cell? ⟨q, 1, none⟩ = some (.bool false) := cell_of T0.out.hq rfl
  have q2 : w1.cell? ⟨q, 2, none⟩ = some (.bool false) := cell_of T0.out.hq rfl
  have q3 : w1.cell? ⟨q, 3, none⟩ = some (.bool false) := cell_of T0.out.hq rfl
  have q4 : w1.cell? ⟨q, 4, none⟩ = some (.bool false) := cell_of T0.out.hq rfl
  have q5 : w1.cell? ⟨q, 5, none⟩ = some (.bool false) := cell_of T0.out.hq rfl
  go_wp2_with fail
  have HT := (((((((T0.out.setb 0 (.int .i64 1)).setq 0 (.bool false)).setq 1 (.bool false)).setq 2 (.bool true)).setq 3 (.bool false)).setq 4 (.bool false)).setq 5 (.bool true))
  exact bodyPost_ret (results_cell_row (fn := Try.f15) (p := 4) (ty := 25) rfl _ _ q 25 (⟨false, false, true, false, false, true⟩ : Du).cs (0, 0) _ rfl HT.hq Try.underlying25 rfl rfl) rfl ⟨rfl, HT.hb, HT.out⟩
set_option maxRecDepth 100000 in
set_option maxHeartbeats 1000000 in
theorem sus_5 (x : Wt) (b : Nat) (w : World) (h : w.heap[b]? = some (.cells x.cs 23 (0, 0))) : Calls Try.prog 15 #[.pointer (some ⟨b, 0, none⟩), .int .i64 5] w (Dn b ⟨3, false, x.n⟩ ⟨false, false, false, true, false, true⟩ w) := by
  have hb := lt_of_blk h
  have T0 := Lib.hid (Tw.start h)
  clear h
  go_enter Try.func15, Try.ntmps15
  go_upto_region 1 with (fail)
  generalize w.alloc (.cells #[.bool false, .bool false, .bool false, .bool false, .bool false, .bool false] 25) = w1 at T0 ⊢
  generalize w.heap.size = q at T0 hb ⊢
  have hne : ¬ b = q := by omega
  have hne2 : ¬ q = b := by omega
  have k0 : w1.cell? ⟨b, 0, none⟩ = some (.int .i64 x.s) := cell_of T0.out.hb rfl
  have k1 : w1.cell? ⟨b, 1, none⟩ = some (.bool x.p) := cell_of T0.out.hb rfl
  have k2 : w1.cell? ⟨b, 2, none⟩ = some (.int .i64 x.n) := cell_of T0.out.hb rfl
  have fz : ∀ j, w1.frozen? ⟨b, j, none⟩ = false := fun j => frozen_at T0.out.hb
  have fq : ∀ j, w1.frozen? ⟨q, j, none⟩ = false := fun j => frozen_at T0.out.hq
  have q0 : w1.cell? ⟨q, 0, none⟩ = some (.bool false) := cell_of T0.out.hq rfl
  have q1 : w1.cell? ⟨q, 1, none⟩ = some (.bool false) := cell_of T0.out.hq rfl
  have q2 : w1.cell? ⟨q, 2, none⟩ = some (.bool false) := cell_of T0.out.hq rfl
  have q3 : w1.cell? ⟨q, 3, none⟩ = some (.bool false) := cell_of T0.out.hq rfl
  have q4 : w1.cell? ⟨q, 4, none⟩ = some (.bool false) := cell_of T0.out.hq rfl
  have q5 : w1.cell? ⟨q, 5, none⟩ = some (.bool false) := cell_of T0.out.hq rfl
  go_wp2_with fail
  refine (settle_any x 3 b _ T0.out.hb).mono ?_
  rintro e w2 ⟨rfl, HT⟩
  have T2 := Lib.hid (T0.out.call HT)
  clear k0 k1 k2 fz fq q0 q1 q2 q3 q4 q5
  clear HT
  have k0 : w2.cell? ⟨b, 0, none⟩ = some (.int .i64 3) := cell_of T2.out.hb rfl
  have k1 : w2.cell? ⟨b, 1, none⟩ = some (.bool false) := cell_of T2.out.hb rfl
  have k2 : w2.cell? ⟨b, 2, none⟩ = some (.int .i64 x.n) := cell_of T2.out.hb rfl
  have fz : ∀ j, w2.frozen? ⟨b, j, none⟩ = false := fun j => frozen_at T2.out.hb
  have fq : ∀ j, w2.frozen? ⟨q, j, none⟩ = false := fun j => frozen_at T2.out.hq
  have q0 : w2.cell? ⟨q, 0, none⟩ = some (.bool false) := cell_of T2.out.hq rfl
  have q1 : w2.cell? ⟨q, 1, none⟩ = some (.bool false) := cell_of T2.out.hq rfl
  have q2 : w2.cell? ⟨q, 2, none⟩ = some (.bool false) := cell_of T2.out.hq rfl
  have q3 : w2.cell? ⟨q, 3, none⟩ = some (.bool false) := cell_of T2.out.hq rfl
  have q4 : w2.cell? ⟨q, 4, none⟩ = some (.bool false) := cell_of T2.out.hq rfl
  have q5 : w2.cell? ⟨q, 5, none⟩ = some (.bool false) := cell_of T2.out.hq rfl
  go_wp2_with fail
  have HT := ((((((T2.out.setq 0 (.bool false)).setq 1 (.bool false)).setq 2 (.bool false)).setq 3 (.bool true)).setq 4 (.bool false)).setq 5 (.bool true))
  exact bodyPost_ret (results_cell_row (fn := Try.f15) (p := 4) (ty := 25) rfl _ _ q 25 (⟨false, false, false, true, false, true⟩ : Du).cs (0, 0) _ rfl HT.hq Try.underlying25 rfl rfl) rfl ⟨rfl, HT.hb, HT.out⟩
set_option maxRecDepth 100000 in
set_option maxHeartbeats 1000000 in
theorem sus_2 (x : Wt) (b : Nat) (w : World) (h : w.heap[b]? = some (.cells x.cs 23 (0, 0))) : Calls Try.prog 15 #[.pointer (some ⟨b, 0, none⟩), .int .i64 2] w (Dn b ⟨3, false, x.n⟩ ⟨false, false, false, false, false, true⟩ w) := by
  have hb := lt_of_blk h
  have T0 := Lib.hid (Tw.start h)
  clear h
  go_enter Try.func15, Try.ntmps15
  go_upto_region 1 with (fail)
  generalize w.alloc (.cells #[.bool false, .bool false, .bool false, .bool false, .bool false, .bool false] 25) = w1 at T0 ⊢
  generalize w.heap.size = q at T0 hb ⊢
  have hne : ¬ b = q := by omega
  have hne2 : ¬ q = b := by omega
  have k0 : w1.cell? ⟨b, 0, none⟩ = some (.int .i64 x.s) := cell_of T0.out.hb rfl
  have k1 : w1.cell? ⟨b, 1, none⟩ = some (.bool x.p) := cell_of T0.out.hb rfl
  have k2 : w1.cell? ⟨b, 2, none⟩ = some (.int .i64 x.n) := cell_of T0.out.hb rfl
  have fz : ∀ j, w1.frozen? ⟨b, j, none⟩ = false := fun j => frozen_at T0.out.hb
  have fq : ∀ j, w1.frozen? ⟨q, j, none⟩ = false := fun j => frozen_at T0.out.hq
  have q0 : w1.cell? ⟨q, 0, none⟩ = some (.bool false) := cell_of T0.out.hq rfl
  have q1 : w1.cell? ⟨q, 1, none⟩ = some (.bool false) := cell_of T0.out.hq rfl
  have q2 : w1.cell? ⟨q, 2, none⟩ = some (.bool false) := cell_of T0.out.hq rfl
  have q3 : w1.cell? ⟨q, 3, none⟩ = some (.bool false) := cell_of T0.out.hq rfl
  have q4 : w1.cell? ⟨q, 4, none⟩ = some (.bool false) := cell_of T0.out.hq rfl
  have q5 : w1.cell? ⟨q, 5, none⟩ = some (.bool false) := cell_of T0.out.hq rfl
  go_wp2_with fail
  refine (settle_any x 3 b _ T0.out.hb).mono ?_
  rintro e w2 ⟨rfl, HT⟩
  have T2 := Lib.hid (T0.out.call HT)
  clear k0 k1 k2 fz fq q0 q1 q2 q3 q4 q5
  clear HT
  have k0 : w2.cell? ⟨b, 0, none⟩ = some (.int .i64 3) := cell_of T2.out.hb rfl
  have k1 : w2.cell? ⟨b, 1, none⟩ = some (.bool false) := cell_of T2.out.hb rfl
  have k2 : w2.cell? ⟨b, 2, none⟩ = some (.int .i64 x.n) := cell_of T2.out.hb rfl
  have fz : ∀ j, w2.frozen? ⟨b, j, none⟩ = false := fun j => frozen_at T2.out.hb
  have fq : ∀ j, w2.frozen? ⟨q, j, none⟩ = false := fun j => frozen_at T2.out.hq
  have q0 : w2.cell? ⟨q, 0, none⟩ = some (.bool false) := cell_of T2.out.hq rfl
  have q1 : w2.cell? ⟨q, 1, none⟩ = some (.bool false) := cell_of T2.out.hq rfl
  have q2 : w2.cell? ⟨q, 2, none⟩ = some (.bool false) := cell_of T2.out.hq rfl
  have q3 : w2.cell? ⟨q, 3, none⟩ = some (.bool false) := cell_of T2.out.hq rfl
  have q4 : w2.cell? ⟨q, 4, none⟩ = some (.bool false) := cell_of T2.out.hq rfl
  have q5 : w2.cell? ⟨q, 5, none⟩ = some (.bool false) := cell_of T2.out.hq rfl
  go_wp2_with fail
  have HT := ((((((T2.out.setq 0 (.bool false)).setq 1 (.bool false)).setq 2 (.bool false)).setq 3 (.bool false)).setq 4 (.bool false)).setq 5 (.bool true))
  exact bodyPost_ret (results_cell_row (fn := Try.f15) (p := 4) (ty := 25) rfl _ _ q 25 (⟨false, false, false, false, false, true⟩ : Du).cs (0, 0) _ rfl HT.hq Try.underlying25 rfl rfl) rfl ⟨rfl, HT.hb, HT.out⟩
set_option maxRecDepth 100000 in
set_option maxHeartbeats 1000000 in
theorem sus_1 (x : Wt) (b : Nat) (w : World) (h : w.heap[b]? = some (.cells x.cs 23 (0, 0))) : Calls Try.prog 15 #[.pointer (some ⟨b, 0, none⟩), .int .i64 1] w (Dn b ⟨x.s, x.p, x.n⟩ ⟨false, false, false, false, false, false⟩ w) := by
  have hb := lt_of_blk h
  have T0 := Lib.hid (Tw.start h)
  clear h
  go_enter Try.func15, Try.ntmps15
  go_upto_region 1 with (fail)
  generalize w.alloc (.cells #[.bool false, .bool false, .bool false, .bool false, .bool false, .bool false] 25) = w1 at T0 ⊢
  generalize w.heap.size = q at T0 hb ⊢
  have hne : ¬ b = q := by omega
  have hne2 : ¬ q = b := by omega
  have k0 : w1.cell? ⟨b, 0, none⟩ = some (.int .i64 x.s) := cell_of T0.out.hb rfl
  have k1 : w1.cell? ⟨b, 1, none⟩ = some (.bool x.p) := cell_of T0.out.hb rfl
  have k2 : w1.cell? ⟨b, 2, none⟩ = some (.int .i64 x.n) := cell_of T0.out.hb rfl
  have fz : ∀ j, w1.frozen? ⟨b, j, none⟩ = false := fun j => frozen_at T0.out.hb
  have fq : ∀ j, w1.frozen? ⟨q, j, none⟩ = false := fun j => frozen_at T0.out.hq
  have q0 : w1.cell? ⟨q, 0, none⟩ = some (.bool false) := cell_of T0.out.hq rfl
  have q1 : w1.cell? ⟨q, 1, none⟩ = some (.bool false) := cell_of T0.out.hq rfl
  have q2 : w1.cell? ⟨q, 2, none⟩ = some (.bool false) := cell_of T0.out.hq rfl
  have q3 : w1.cell? ⟨q, 3, none⟩ = some (.bool false) := cell_of T0.out.hq rfl
  have q4 : w1.cell? ⟨q, 4, none⟩ = some (.bool false) := cell_of T0.out.hq rfl
  have q5 : w1.cell? ⟨q, 5, none⟩ = some (.bool false) := cell_of T0.out.hq rfl
  go_wp2_with fail
  have HT := ((((((T0.out.setq 0 (.bool false)).setq 1 (.bool false)).setq 2 (.bool false)).setq 3 (.bool false)).setq 4 (.bool false)).setq 5 (.bool false))
  exact bodyPost_ret (results_cell_row (fn := Try.f15) (p := 4) (ty := 25) rfl _ _ q 25 (⟨false, false, false, false, false, false⟩ : Du).cs (0, 0) _ rfl HT.hq Try.underlying25 rfl rfl) rfl ⟨rfl, HT.hb, HT.out⟩
set_option maxRecDepth 100000 in
set_option maxHeartbeats 1000000 in
theorem gon_5 (x : Wt) (b : Nat) (w : World) (h : w.heap[b]? = some (.cells x.cs 23 (0, 0))) : Calls Try.prog 16 #[.pointer (some ⟨b, 0, none⟩), .int .i64 5] w (Dn b ⟨x.s, x.p, x.n⟩ ⟨false, false, false, false, true, true⟩ w) := by
  have hb := lt_of_blk h
  have T0 := Lib.hid (Tw.start h)
  clear h
  go_enter Try.func16, Try.ntmps16
  go_upto_region 1 with (fail)
  generalize w.alloc (.cells #[.bool false, .bool false, .bool false, .bool false, .bool false, .bool false] 25) = w1 at T0 ⊢
  generalize w.heap.size = q at T0 hb ⊢
  have hne : ¬ b = q := by omega
  have hne2 : ¬ q = b := by omega
  have k0 : w1.cell? ⟨b, 0, none⟩ = some (.int .i64 x.s) := cell_of T0.out.hb rfl
  have k1 : w1.cell? ⟨b, 1, none⟩ = some (.bool x.p) := cell_of T0.out.hb rfl
  have k2 : w1.cell? ⟨b, 2, none⟩ = some (.int .i64 x.n) := cell_of T0.out.hb rfl
  have fz : ∀ j, w1.frozen? ⟨b, j, none⟩ = false := fun j => frozen_at T0.out.hb
  have fq : ∀ j, w1.frozen? ⟨q, j, none⟩ = false := fun j => frozen_at T0.out.hq
  have q0 : w1.cell? ⟨q, 0, none⟩ = some (.bool false) := cell_of T0.out.hq rfl
  have q1 : w1.cell? ⟨q, 1, none⟩ = some (.bool false) := cell_of T0.out.hq rfl
  have q2 : w1.cell? ⟨q, 2, none⟩ = some (.bool false) := cell_of T0.out.hq rfl
  have q3 : w1.cell? ⟨q, 3, none⟩ = some (.bool false) := cell_of T0.out.hq rfl
  have q4 : w1.cell? ⟨q, 4, none⟩ = some (.bool false) := cell_of T0.out.hq rfl
  have q5 : w1.cell? ⟨q, 5, none⟩ = some (.bool false) := cell_of T0.out.hq rfl
  go_wp2_with fail
  have HT := ((((((T0.out.setq 0 (.bool false)).setq 1 (.bool false)).setq 2 (.bool false)).setq 3 (.bool false)).setq 4 (.bool true)).setq 5 (.bool true))
  exact bodyPost_ret (results_cell_row (fn := Try.f16) (p := 4) (ty := 25) rfl _ _ q 25 (⟨false, false, false, false, true, true⟩ : Du).cs (0, 0) _ rfl HT.hq Try.underlying25 rfl rfl) rfl ⟨rfl, HT.hb, HT.out⟩
set_option maxRecDepth 100000 in
set_option maxHeartbeats 1000000 in
theorem gon_2 (x : Wt) (b : Nat) (w : World) (h : w.heap[b]? = some (.cells x.cs 23 (0, 0))) : Calls Try.prog 16 #[.pointer (some ⟨b, 0, none⟩), .int .i64 2] w (Dn b ⟨x.s, x.p, x.n⟩ ⟨false, false, false, false, false, false⟩ w) := by
  have hb := lt_of_blk h
  have T0 := Lib.hid (Tw.start h)
  clear h
  go_enter Try.func16, Try.ntmps16
  go_upto_region 1 with (fail)
  generalize w.alloc (.cells #[.bool false, .bool false, .bool false, .bool false, .bool false, .bool false] 25) = w1 at T0 ⊢
  generalize w.heap.size = q at T0 hb ⊢
  have hne : ¬ b = q := by omega
  have hne2 : ¬ q = b := by omega
  have k0 : w1.cell? ⟨b, 0, none⟩ = some (.int .i64 x.s) := cell_of T0.out.hb rfl
  have k1 : w1.cell? ⟨b, 1, none⟩ = some (.bool x.p) := cell_of T0.out.hb rfl
  have k2 : w1.cell? ⟨b, 2, none⟩ = some (.int .i64 x.n) := cell_of T0.out.hb rfl
  have fz : ∀ j, w1.frozen? ⟨b, j, none⟩ = false := fun j => frozen_at T0.out.hb
  have fq : ∀ j, w1.frozen? ⟨q, j, none⟩ = false := fun j => frozen_at T0.out.hq
  have q0 : w1.cell? ⟨q, 0, none⟩ = some (.bool false) := cell_of T0.out.hq rfl
  have q1 : w1.cell? ⟨q, 1, none⟩ = some (.bool false) := cell_of T0.out.hq rfl
  have q2 : w1.cell? ⟨q, 2, none⟩ = some (.bool false) := cell_of T0.out.hq rfl
  have q3 : w1.cell? ⟨q, 3, none⟩ = some (.bool false) := cell_of T0.out.hq rfl
  have q4 : w1.cell? ⟨q, 4, none⟩ = some (.bool false) := cell_of T0.out.hq rfl
  have q5 : w1.cell? ⟨q, 5, none⟩ = some (.bool false) := cell_of T0.out.hq rfl
  go_wp2_with fail
  have HT := ((((((T0.out.setq 0 (.bool false)).setq 1 (.bool false)).setq 2 (.bool false)).setq 3 (.bool false)).setq 4 (.bool false)).setq 5 (.bool false))
  exact bodyPost_ret (results_cell_row (fn := Try.f16) (p := 4) (ty := 25) rfl _ _ q 25 (⟨false, false, false, false, false, false⟩ : Du).cs (0, 0) _ rfl HT.hq Try.underlying25 rfl rfl) rfl ⟨rfl, HT.hb, HT.out⟩
set_option maxRecDepth 100000 in
set_option maxHeartbeats 1000000 in
theorem gon_3 (x : Wt) (b : Nat) (w : World) (h : w.heap[b]? = some (.cells x.cs 23 (0, 0))) : Calls Try.prog 16 #[.pointer (some ⟨b, 0, none⟩), .int .i64 3] w (Dn b ⟨x.s, x.p, x.n⟩ ⟨false, false, false, false, false, false⟩ w) := by
  have hb := lt_of_blk h
  have T0 := Lib.hid (Tw.start h)
  clear h
  go_enter Try.func16, Try.ntmps16
  go_upto_region 1 with (fail)
  generalize w.alloc (.cells #[.bool false, .bool false, .bool false, .bool false, .bool false, .bool false] 25) = w1 at T0 ⊢
  generalize w.heap.size = q at T0 hb ⊢
  have hne : ¬ b = q := by omega
  have hne2 : ¬ q = b := by omega
  have k0 : w1.cell? ⟨b, 0, none⟩ = some (.int .i64 x.s) := cell_of T0.out.hb rfl
  have k1 : w1.cell? ⟨b, 1, none⟩ = some (.bool x.p) := cell_of T0.out.hb rfl
  have k2 : w1.cell? ⟨b, 2, none⟩ = some (.int .i64 x.n) := cell_of T0.out.hb rfl
  have fz : ∀ j, w1.frozen? ⟨b, j, none⟩ = false := fun j => frozen_at T0.out.hb
  have fq : ∀ j, w1.frozen? ⟨q, j, none⟩ = false := fun j => frozen_at T0.out.hq
  have q0 : w1.cell? ⟨q, 0, none⟩ = some (.bool false) := cell_of T0.out.hq rfl
  have q1 : w1.cell? ⟨q, 1, none⟩ = some (.bool false) := cell_of T0.out.hq rfl
  have q2 : w1.cell? ⟨q, 2, none⟩ = some (.bool false) := cell_of T0.out.hq rfl
  have q3 : w1.cell? ⟨q, 3, none⟩ = some (.bool false) := cell_of T0.out.hq rfl
  have q4 : w1.cell? ⟨q, 4, none⟩ = some (.bool false) := cell_of T0.out.hq rfl
  have q5 : w1.cell? ⟨q, 5, none⟩ = some (.bool false) := cell_of T0.out.hq rfl
  go_wp2_with fail
  have HT := ((((((T0.out.setq 0 (.bool false)).setq 1 (.bool false)).setq 2 (.bool false)).setq 3 (.bool false)).setq 4 (.bool false)).setq 5 (.bool false))
  exact bodyPost_ret (results_cell_row (fn := Try.f16) (p := 4) (ty := 25) rfl _ _ q 25 (⟨false, false, false, false, false, false⟩ : Du).cs (0, 0) _ rfl HT.hq Try.underlying25 rfl rfl) rfl ⟨rfl, HT.hb, HT.out⟩
set_option maxRecDepth 100000 in
set_option maxHeartbeats 1000000 in
theorem gon_4 (x : Wt) (b : Nat) (w : World) (h : w.heap[b]? = some (.cells x.cs 23 (0, 0))) : Calls Try.prog 16 #[.pointer (some ⟨b, 0, none⟩), .int .i64 4] w (Dn b ⟨x.s, x.p, x.n⟩ ⟨false, false, false, false, false, false⟩ w) := by
  have hb := lt_of_blk h
  have T0 := Lib.hid (Tw.start h)
  clear h
  go_enter Try.func16, Try.ntmps16
  go_upto_region 1 with (fail)
  generalize w.alloc (.cells #[.bool false, .bool false, .bool false, .bool false, .bool false, .bool false] 25) = w1 at T0 ⊢
  generalize w.heap.size = q at T0 hb ⊢
  have hne : ¬ b = q := by omega
  have hne2 : ¬ q = b := by omega
  have k0 : w1.cell? ⟨b, 0, none⟩ = some (.int .i64 x.s) := cell_of T0.out.hb rfl
  have k1 : w1.cell? ⟨b, 1, none⟩ = some (.bool x.p) := cell_of T0.out.hb rfl
  have k2 : w1.cell? ⟨b, 2, none⟩ = some (.int .i64 x.n) := cell_of T0.out.hb rfl
  have fz : ∀ j, w1.frozen? ⟨b, j, none⟩ = false := fun j => frozen_at T0.out.hb
  have fq : ∀ j, w1.frozen? ⟨q, j, none⟩ = false := fun j => frozen_at T0.out.hq
  have q0 : w1.cell? ⟨q, 0, none⟩ = some (.bool false) := cell_of T0.out.hq rfl
  have q1 : w1.cell? ⟨q, 1, none⟩ = some (.bool false) := cell_of T0.out.hq rfl
  have q2 : w1.cell? ⟨q, 2, none⟩ = some (.bool false) := cell_of T0.out.hq rfl
  have q3 : w1.cell? ⟨q, 3, none⟩ = some (.bool false) := cell_of T0.out.hq rfl
  have q4 : w1.cell? ⟨q, 4, none⟩ = some (.bool false) := cell_of T0.out.hq rfl
  have q5 : w1.cell? ⟨q, 5, none⟩ = some (.bool false) := cell_of T0.out.hq rfl
  go_wp2_with fail
  have HT := ((((((T0.out.setq 0 (.bool false)).setq 1 (.bool false)).setq 2 (.bool false)).setq 3 (.bool false)).setq 4 (.bool false)).setq 5 (.bool false))
  exact bodyPost_ret (results_cell_row (fn := Try.f16) (p := 4) (ty := 25) rfl _ _ q 25 (⟨false, false, false, false, false, false⟩ : Du).cs (0, 0) _ rfl HT.hq Try.underlying25 rfl rfl) rfl ⟨rfl, HT.hb, HT.out⟩
set_option maxRecDepth 100000 in
set_option maxHeartbeats 1000000 in
theorem reo_3lo (x : Wt) (b : Nat) (w : World) (h : w.heap[b]? = some (.cells x.cs 23 (0, 0))) (h1 : -1 ≤ x.n) (h2 : x.n ≤ 3) (d1 : decide (x.n < 2) = true) : Calls Try.prog 17 #[.pointer (some ⟨b, 0, none⟩), .int .i64 3] w (Dn b ⟨x.s, false, (x.n + 1)⟩ ⟨false, false, false, false, false, false⟩ w) := by
  have hb := lt_of_blk h
  have T0 := Lib.hid (Tw.start h)
  clear h
  go_enter Try.func17, Try.ntmps17
  go_upto_region 1 with (fail)
  generalize w.alloc (.cells #[.bool false, .bool false, .bool false, .bool false, .bool false, .bool false] 25) = w1 at T0 ⊢
  generalize w.heap.size = q at T0 hb ⊢
  have hne : ¬ b = q := by omega
  have hne2 : ¬ q = b := by omega
  have k0 : w1.cell? ⟨b, 0, none⟩ = some (.int .i64 x.s) := cell_of T0.out.hb rfl
  have k1 : w1.cell? ⟨b, 1, none⟩ = some (.bool x.p) := cell_of T0.out.hb rfl
  have k2 : w1.cell? ⟨b, 2, none⟩ = some (.int .i64 x.n) := cell_of T0.out.hb rfl
  have fz : ∀ j, w1.frozen? ⟨b, j, none⟩ = false := fun j => frozen_at T0.out.hb
  have fq : ∀ j, w1.frozen? ⟨q, j, none⟩ = false := fun j => frozen_at T0.out.hq
  have q0 : w1.cell? ⟨q, 0, none⟩ = some (.bool false) := cell_of T0.out.hq rfl
  have q1 : w1.cell? ⟨q, 1, none⟩ = some (.bool false) := cell_of T0.out.hq rfl
  have q2 : w1.cell? ⟨q, 2, none⟩ = some (.bool false) := cell_of T0.out.hq rfl
  have q3 : w1.cell? ⟨q, 3, none⟩ = some (.bool false) := cell_of T0.out.hq rfl
  have q4 : w1.cell? ⟨q, 4, none⟩ = some (.bool false) := cell_of T0.out.hq rfl
  have q5 : w1.cell? ⟨q, 5, none⟩ = some (.bool false) := cell_of T0.out.hq rfl
  go_wp2_with fail
  refine (count_lo x b _ T0.out.hb h1 h2 d1).mono ?_
  rintro e w2 ⟨rfl, HT⟩
  have T2 := Lib.hid (T0.out.call HT)
  clear k0 k1 k2 fz fq q0 q1 q2 q3 q4 q5
  clear HT
  have k0 : w2.cell? ⟨b, 0, none⟩ = some (.int .i64 x.s) := cell_of T2.out.hb rfl
  have k1 : w2.cell? ⟨b, 1, none⟩ = some (.bool false) := cell_of T2.out.hb rfl
  have k2 : w2.cell? ⟨b, 2, none⟩ = some (.int .i64 (x.n + 1)) := cell_of T2.out.hb rfl
  have fz : ∀ j, w2.frozen? ⟨b, j, none⟩ = false := fun j => frozen_at T2.out.hb
  have fq : ∀ j, w2.frozen? ⟨q, j, none⟩ = false := fun j => frozen_at T2.out.hq
  have q0 : w2.cell? ⟨q, 0, none⟩ = some (.bool false) := cell_of T2.out.hq rfl
  have q1 : w2.cell? ⟨q, 1, none⟩ = some (.bool false) := cell_of T2.out.hq rfl
  have q2 : w2.cell? ⟨q, 2, none⟩ = some (.bool false) := cell_of T2.out.hq rfl
  have q3 : w2.cell? ⟨q, 3, none⟩ = some (.bool false) := cell_of T2.out.hq rfl
  have q4 : w2.cell? ⟨q, 4, none⟩ = some (.bool false) := cell_of T2.out.hq rfl
  have q5 : w2.cell? ⟨q, 5, none⟩ = some (.bool false) := cell_of T2.out.hq rfl
  go_wp2_with fail
  have HT := ((((((T2.out.setq 0 (.bool false)).setq 1 (.bool false)).setq 2 (.bool false)).setq 3 (.bool false)).setq 4 (.bool false)).setq 5 (.bool false))
  exact bodyPost_ret (results_cell_row (fn := Try.f17) (p := 4) (ty := 25) rfl _ _ q 25 (⟨false, false, false, false, false, false⟩ : Du).cs (0, 0) _ rfl HT.hq Try.underlying25 rfl rfl) rfl ⟨rfl, HT.hb, HT.out⟩
set_option maxRecDepth 100000 in
set_option maxHeartbeats 1000000 in
theorem reo_3hi (x : Wt) (b : Nat) (w : World) (h : w.heap[b]? = some (.cells x.cs 23 (0, 0))) (h1 : -1 ≤ x.n) (h2 : x.n ≤ 3) (d1 : decide (x.n < 2) = false) : Calls Try.prog 17 #[.pointer (some ⟨b, 0, none⟩), .int .i64 3] w (Dn b ⟨1, false, 0⟩ ⟨false, false, true, false, false, true⟩ w) := by
  have hb := lt_of_blk h
  have T0 := Lib.hid (Tw.start h)
  clear h
  go_enter Try.func17, Try.ntmps17
  go_upto_region 1 with (fail)
  generalize w.alloc (.cells #[.bool false, .bool false, .bool false, .bool false, .bool false, .bool false] 25) = w1 at T0 ⊢
  generalize w.heap.size = q at T0 hb ⊢
  have hne : ¬ b = q := by omega
  have hne2 : ¬ q = b := by omega
  have k0 : w1.cell? ⟨b, 0, none⟩ = some (.int .i64 x.s) := cell_of T0.out.hb rfl
  have k1 : w1.cell? ⟨b, 1, none⟩ = some (.bool x.p) := cell_of T0.out.hb rfl
  have k2 : w1.cell? ⟨b, 2, none⟩ = some (.int .i64 x.n) := cell_of T0.out.hb rfl
  have fz : ∀ j, w1.frozen? ⟨b, j, none⟩ = false := fun j => frozen_at T0.out.hb
  have fq : ∀ j, w1.frozen? ⟨q, j, none⟩ = false := fun j => frozen_at T0.out.hq
  have q0 : w1.cell? ⟨q, 0, none⟩ = some (.bool false) := cell_of T0.out.hq rfl
  have q1 : w1.cell? ⟨q, 1, none⟩ = some (.bool false) := cell_of T0.out.hq rfl
  have q2 : w1.cell? ⟨q, 2, none⟩ = some (.bool false) := cell_of T0.out.hq rfl
  have q3 : w1.cell? ⟨q, 3, none⟩ = some (.bool false) := cell_of T0.out.hq rfl
  have q4 : w1.cell? ⟨q, 4, none⟩ = some (.bool false) := cell_of T0.out.hq rfl
  have q5 : w1.cell? ⟨q, 5, none⟩ = some (.bool false) := cell_of T0.out.hq rfl
  go_wp2_with fail
  refine (count_hi x b _ T0.out.hb h1 h2 d1).mono ?_
  rintro e w2 ⟨rfl, HT⟩
  have T2 := Lib.hid (T0.out.call HT)
  clear k0 k1 k2 fz fq q0 q1 q2 q3 q4 q5
  clear HT
  have k0 : w2.cell? ⟨b, 0, none⟩ = some (.int .i64 1) := cell_of T2.out.hb rfl
  have k1 : w2.cell? ⟨b, 1, none⟩ = some (.bool false) := cell_of T2.out.hb rfl
  have k2 : w2.cell? ⟨b, 2, none⟩ = some (.int .i64 0) := cell_of T2.out.hb rfl
  have fz : ∀ j, w2.frozen? ⟨b, j, none⟩ = false := fun j => frozen_at T2.out.hb
  have fq : ∀ j, w2.frozen? ⟨q, j, none⟩ = false := fun j => frozen_at T2.out.hq
  have q0 : w2.cell? ⟨q, 0, none⟩ = some (.bool false) := cell_of T2.out.hq rfl
  have q1 : w2.cell? ⟨q, 1, none⟩ = some (.bool false) := cell_of T2.out.hq rfl
  have q2 : w2.cell? ⟨q, 2, none⟩ = some (.bool false) := cell_of T2.out.hq rfl
  have q3 : w2.cell? ⟨q, 3, none⟩ = some (.bool false) := cell_of T2.out.hq rfl
  have q4 : w2.cell? ⟨q, 4, none⟩ = some (.bool false) := cell_of T2.out.hq rfl
  have q5 : w2.cell? ⟨q, 5, none⟩ = some (.bool false) := cell_of T2.out.hq rfl
  go_wp2_with fail
  have HT := ((((((T2.out.setq 0 (.bool false)).setq 1 (.bool false)).setq 2 (.bool true)).setq 3 (.bool false)).setq 4 (.bool false)).setq 5 (.bool true))
  exact bodyPost_ret (results_cell_row (fn := Try.f17) (p := 4) (ty := 25) rfl _ _ q 25 (⟨false, false, true, false, false, true⟩ : Du).cs (0, 0) _ rfl HT.hq Try.underlying25 rfl rfl) rfl ⟨rfl, HT.hb, HT.out⟩
set_option maxRecDepth 100000 in
set_option maxHeartbeats 1000000 in
theorem reo_5f (x : Wt) (b : Nat) (w : World) (h : w.heap[b]? = some (.cells x.cs 23 (0, 0))) (hp : x.p = false) : Calls Try.prog 17 #[.pointer (some ⟨b, 0, none⟩), .int .i64 5] w (Dn b ⟨x.s, true, x.n⟩ ⟨true, false, false, false, false, true⟩ w) := by
  have hb := lt_of_blk h
  have T0 := Lib.hid (Tw.start h)
  clear h
  go_enter Try.func17, Try.ntmps17
  go_upto_region 1 with (fail)
  generalize w.alloc (.cells #[.bool false, .bool false, .bool false, .bool false, .bool false, .bool false] 25) = w1 at T0 ⊢
  generalize w.heap.size = q at T0 hb ⊢
  have hne : ¬ b = q := by omega
  have hne2 : ¬ q = b := by omega
  have k0 : w1.cell? ⟨b, 0, none⟩ = some (.int .i64 x.s) := cell_of T0.out.hb rfl
  have k1 : w1.cell? ⟨b, 1, none⟩ = some (.bool x.p) := cell_of T0.out.hb rfl
  have k2 : w1.cell? ⟨b, 2, none⟩ = some (.int .i64 x.n) := cell_of T0.out.hb rfl
  have fz : ∀ j, w1.frozen? ⟨b, j, none⟩ = false := fun j => frozen_at T0.out.hb
  have fq : ∀ j, w1.frozen? ⟨q, j, none⟩ = false := fun j => frozen_at T0.out.hq
  have q0 : w1.cell? ⟨q, 0, none⟩ = some (.bool false) := cell_of T0.out.hq rfl
  have q1 : w1.cell? ⟨q, 1, none⟩ = some (.bool false) := cell_of T0.out.hq rfl
  have q2 : w1.cell? ⟨q, 2, none⟩ = some (.bool false) := cell_of T0.out.hq rfl
  have q3 : w1.cell? ⟨q, 3, none⟩ = some (.bool false) := cell_of T0.out.hq rfl
  have q4 : w1.cell? ⟨q, 4, none⟩ = some (.bool false) := cell_of T0.out.hq rfl
  have q5 : w1.cell? ⟨q, 5, none⟩ = some (.bool false) := cell_of T0.out.hq rfl
  go_wp2_with fail
  refine (press_f x b _ T0.out.hb hp).mono ?_
  rintro e w2 ⟨rfl, HT⟩
  have T2 := Lib.hid (T0.out.call HT)
  clear k0 k1 k2 fz fq q0 q1 q2 q3 q4 q5
  clear HT
  have k0 : w2.cell? ⟨b, 0, none⟩ = some (.int .i64 x.s) := cell_of T2.out.hb rfl
  have k1 : w2.cell? ⟨b, 1, none⟩ = some (.bool true) := cell_of T2.out.hb rfl
  have k2 : w2.cell? ⟨b, 2, none⟩ = some (.int .i64 x.n) := cell_of T2.out.hb rfl
  have fz : ∀ j, w2.frozen? ⟨b, j, none⟩ = false := fun j => frozen_at T2.out.hb
  have fq : ∀ j, w2.frozen? ⟨q, j, none⟩ = false := fun j => frozen_at T2.out.hq
  have q0 : w2.cell? ⟨q, 0, none⟩ = some (.bool false) := cell_of T2.out.hq rfl
  have q1 : w2.cell? ⟨q, 1, none⟩ = some (.bool false) := cell_of T2.out.hq rfl
  have q2 : w2.cell? ⟨q, 2, none⟩ = some (.bool false) := cell_of T2.out.hq rfl
  have q3 : w2.cell? ⟨q, 3, none⟩ = some (.bool false) := cell_of T2.out.hq rfl
  have q4 : w2.cell? ⟨q, 4, none⟩ = some (.bool false) := cell_of T2.out.hq rfl
  have q5 : w2.cell? ⟨q, 5, none⟩ = some (.bool false) := cell_of T2.out.hq rfl
  go_wp2_with fail
  have HT := ((((((T2.out.setq 0 (.bool true)).setq 1 (.bool false)).setq 2 (.bool false)).setq 3 (.bool false)).setq 4 (.bool false)).setq 5 (.bool true))
  exact bodyPost_ret (results_cell_row (fn := Try.f17) (p := 4) (ty := 25) rfl _ _ q 25 (⟨true, false, false, false, false, true⟩ : Du).cs (0, 0) _ rfl HT.hq Try.underlying25 rfl rfl) rfl ⟨rfl, HT.hb, HT.out⟩
set_option maxRecDepth 100000 in
set_option maxHeartbeats 1000000 in
theorem reo_5m (x : Wt) (b : Nat) (w : World) (h : w.heap[b]? = some (.cells x.cs 23 (0, 0))) (hp : x.p = true) (d1 : (x.n == -1) = true) : Calls Try.prog 17 #[.pointer (some ⟨b, 0, none⟩), .int .i64 5] w (Dn b ⟨3, false, 0⟩ ⟨false, false, false, true, false, true⟩ w) := by
  have hb := lt_of_blk h
  have T0 := Lib.hid (Tw.start h)
  clear h
  go_enter Try.func17, Try.ntmps17
  go_upto_region 1 with (fail)
  generalize w.alloc (.cells #[.bool false, .bool false, .bool false, .bool false, .bool false, .bool false] 25) = w1 at T0 ⊢
  generalize w.heap.size = q at T0 hb ⊢
  have hne : ¬ b = q := by omega
  have hne2 : ¬ q = b := by omega
  have k0 : w1.cell? ⟨b, 0, none⟩ = some (.int .i64 x.s) := cell_of T0.out.hb rfl
  have k1 : w1.cell? ⟨b, 1, none⟩ = some (.bool x.p) := cell_of T0.out.hb rfl
  have k2 : w1.cell? ⟨b, 2, none⟩ = some (.int .i64 x.n) := cell_of T0.out.hb rfl
  have fz : ∀ j, w1.frozen? ⟨b, j, none⟩ = false := fun j => frozen_at T0.out.hb
  have fq : ∀ j, w1.frozen? ⟨q, j, none⟩ = false := fun j => frozen_at T0.out.hq
  have q0 : w1.cell? ⟨q, 0, none⟩ = some (.bool false) := cell_of T0.out.hq rfl
  have q1 : w1.cell? ⟨q, 1, none⟩ = some (.bool false) := cell_of T0.out.hq rfl
  have q2 : w1.cell? ⟨q, 2, none⟩ = some (.bool false) := cell_of T0.out.hq rfl
  have q3 : w1.cell? ⟨q, 3, none⟩ = some (.bool false) := cell_of T0.out.hq rfl
  have q4 : w1.cell? ⟨q, 4, none⟩ = some (.bool false) := cell_of T0.out.hq rfl
  have q5 : w1.cell? ⟨q, 5, none⟩ = some (.bool false) := cell_of T0.out.hq rfl
  go_wp2_with fail
  refine (press_m x b _ T0.out.hb hp d1).mono ?_
  rintro e w2 ⟨rfl, HT⟩
  have T2 := Lib.hid (T0.out.call HT)
  clear k0 k1 k2 fz fq q0 q1 q2 q3 q4 q5
  clear HT
  have k0 : w2.cell? ⟨b, 0, none⟩ = some (.int .i64 3) := cell_of T2.out.hb rfl
  have k1 : w2.cell? ⟨b, 1, none⟩ = some (.bool false) := cell_of T2.out.hb rfl
  have k2 : w2.cell? ⟨b, 2, none⟩ = some (.int .i64 0) := cell_of T2.out.hb rfl
  have fz : ∀ j, w2.frozen? ⟨b, j, none⟩ = false := fun j => frozen_at T2.out.hb
  have fq : ∀ j, w2.frozen? ⟨q, j, none⟩ = false := fun j => frozen_at T2.out.hq
  have q0 : w2.cell? ⟨q, 0, none⟩ = some (.bool false) := cell_of T2.out.hq rfl
  have q1 : w2.cell? ⟨q, 1, none⟩ = some (.bool false) := cell_of T2.out.hq rfl
  have q2 : w2.cell? ⟨q, 2, none⟩ = some (.bool false) := cell_of T2.out.hq rfl
  have q3 : w2.cell? ⟨q, 3, none⟩ = some (.bool false) := cell_of T2.out.hq rfl
  have q4 : w2.cell? ⟨q, 4, none⟩ = some (.bool false) := cell_of T2.out.hq rfl
  have q5 : w2.cell? ⟨q, 5, none⟩ = some (.bool false) := cell_of T2.out.hq rfl
  go_wp2_with fail
  have HT := ((((((T2.out.setq 0 (.bool false)).setq 1 (.bool false)).setq 2 (.bool false)).setq 3 (.bool true)).setq 4 (.bool false)).setq 5 (.bool true))
  exact bodyPost_ret (results_cell_row (fn := Try.f17) (p := 4) (ty := 25) rfl _ _ q 25 (⟨false, false, false, true, false, true⟩ : Du).cs (0, 0) _ rfl HT.hq Try.underlying25 rfl rfl) rfl ⟨rfl, HT.hb, HT.out⟩
set_option maxRecDepth 100000 in
set_option maxHeartbeats 1000000 in
theorem reo_5t (x : Wt) (b : Nat) (w : World) (h : w.heap[b]? = some (.cells x.cs 23 (0, 0))) (hp : x.p = true) (d1 : (x.n == -1) = false) : Calls Try.prog 17 #[.pointer (some ⟨b, 0, none⟩), .int .i64 5] w (Dn b ⟨x.s, x.p, (-1)⟩ ⟨false, false, false, false, false, true⟩ w) := by
  have hb := lt_of_blk h
  have T0 := Lib.hid (Tw.start h)
  clear h
  go_enter Try.func17, Try.ntmps17
  go_upto_region 1 with (fail)
  generalize w.alloc (.cells #[.bool false, .bool false, .bool false, .bool false, .bool false, .bool false] 25) = w1 at T0 ⊢
  generalize w.heap.size = q at T0 hb ⊢
  have hne : ¬ b = q := by omega
  have hne2 : ¬ q = b := by omega
  have k0 : w1.cell? ⟨b, 0, none⟩ = some (.int .i64 x.s) := cell_of T0.out.hb rfl
  have k1 : w1.cell? ⟨b, 1, none⟩ = some (.bool x.p) := cell_of T0.out.hb rfl
  have k2 : w1.cell? ⟨b, 2, none⟩ = some (.int .i64 x.n) := cell_of T0.out.hb rfl
  have fz : ∀ j, w1.frozen? ⟨b, j, none⟩ = false := fun j => frozen_at T0.out.hb
  have fq : ∀ j, w1.frozen? ⟨q, j, none⟩ = false := fun j => frozen_at T0.out.hq
  have q0 : w1.cell? ⟨q, 0, none⟩ = some (.bool false) := cell_of T0.out.hq rfl
  have q1 : w1.cell? ⟨q, 1, none⟩ = some (.bool false) := cell_of T0.out.hq rfl
  have q2 : w1.cell? ⟨q, 2, none⟩ = some (.bool false) := cell_of T0.out.hq rfl
  have q3 : w1.cell? ⟨q, 3, none⟩ = some (.bool false) := cell_of T0.out.hq rfl
  have q4 : w1.cell? ⟨q, 4, none⟩ = some (.bool false) := cell_of T0.out.hq rfl
  have q5 : w1.cell? ⟨q, 5, none⟩ = some (.bool false) := cell_of T0.out.hq rfl
  go_wp2_with fail
  refine (press_t x b _ T0.out.hb hp d1).mono ?_
  rintro e w2 ⟨rfl, HT⟩
  have T2 := Lib.hid (T0.out.call HT)
  clear k0 k1 k2 fz fq q0 q1 q2 q3 q4 q5
  clear HT
  have k0 : w2.cell? ⟨b, 0, none⟩ = some (.int .i64 x.s) := cell_of T2.out.hb rfl
  have k1 : w2.cell? ⟨b, 1, none⟩ = some (.bool x.p) := cell_of T2.out.hb rfl
  have k2 : w2.cell? ⟨b, 2, none⟩ = some (.int .i64 (-1)) := cell_of T2.out.hb rfl
  have fz : ∀ j, w2.frozen? ⟨b, j, none⟩ = false := fun j => frozen_at T2.out.hb
  have fq : ∀ j, w2.frozen? ⟨q, j, none⟩ = false := fun j => frozen_at T2.out.hq
  have q0 : w2.cell? ⟨q, 0, none⟩ = some (.bool false) := cell_of T2.out.hq rfl
  have q1 : w2.cell? ⟨q, 1, none⟩ = some (.bool false) := cell_of T2.out.hq rfl
  have q2 : w2.cell? ⟨q, 2, none⟩ = some (.bool false) := cell_of T2.out.hq rfl
  have q3 : w2.cell? ⟨q, 3, none⟩ = some (.bool false) := cell_of T2.out.hq rfl
  have q4 : w2.cell? ⟨q, 4, none⟩ = some (.bool false) := cell_of T2.out.hq rfl
  have q5 : w2.cell? ⟨q, 5, none⟩ = some (.bool false) := cell_of T2.out.hq rfl
  go_wp2_with fail
  have HT := ((((((T2.out.setq 0 (.bool false)).setq 1 (.bool false)).setq 2 (.bool false)).setq 3 (.bool false)).setq 4 (.bool false)).setq 5 (.bool true))
  exact bodyPost_ret (results_cell_row (fn := Try.f17) (p := 4) (ty := 25) rfl _ _ q 25 (⟨false, false, false, false, false, true⟩ : Du).cs (0, 0) _ rfl HT.hq Try.underlying25 rfl rfl) rfl ⟨rfl, HT.hb, HT.out⟩
set_option maxRecDepth 100000 in
set_option maxHeartbeats 1000000 in
theorem reo_2 (x : Wt) (b : Nat) (w : World) (h : w.heap[b]? = some (.cells x.cs 23 (0, 0))) : Calls Try.prog 17 #[.pointer (some ⟨b, 0, none⟩), .int .i64 2] w (Dn b ⟨3, false, 0⟩ ⟨false, false, false, false, false, true⟩ w) := by
  have hb := lt_of_blk h
  have T0 := Lib.hid (Tw.start h)
  clear h
  go_enter Try.func17, Try.ntmps17
  go_upto_region 1 with (fail)
  generalize w.alloc (.cells #[.bool false, .bool false, .bool false, .bool false, .bool false, .bool false] 25) = w1 at T0 ⊢
  generalize w.heap.size = q at T0 hb ⊢
  have hne : ¬ b = q := by omega
  have hne2 : ¬ q = b := by omega
  have k0 : w1.cell? ⟨b, 0, none⟩ = some (.int .i64 x.s) := cell_of T0.out.hb rfl
  have k1 : w1.cell? ⟨b, 1, none⟩ = some (.bool x.p) := cell_of T0.out.hb rfl
  have k2 : w1.cell? ⟨b, 2, none⟩ = some (.int .i64 x.n) := cell_of T0.out.hb rfl
  have fz : ∀ j, w1.frozen? ⟨b, j, none⟩ = false := fun j => frozen_at T0.out.hb
  have fq : ∀ j, w1.frozen? ⟨q, j, none⟩ = false := fun j => frozen_at T0.out.hq
  have q0 : w1.cell? ⟨q, 0, none⟩ = some (.bool false) := cell_of T0.out.hq rfl
  have q1 : w1.cell? ⟨q, 1, none⟩ = some (.bool false) := cell_of T0.out.hq rfl
  have q2 : w1.cell? ⟨q, 2, none⟩ = some (.bool false) := cell_of T0.out.hq rfl
  have q3 : w1.cell? ⟨q, 3, none⟩ = some (.bool false) := cell_of T0.out.hq rfl
  have q4 : w1.cell? ⟨q, 4, none⟩ = some (.bool false) := cell_of T0.out.hq rfl
  have q5 : w1.cell? ⟨q, 5, none⟩ = some (.bool false) := cell_of T0.out.hq rfl
  go_wp2_with fail
  refine (leave_any x 3 b _ T0.out.hb).mono ?_
  rintro e w2 ⟨rfl, HT⟩
  have T2 := Lib.hid (T0.out.call HT)
  clear k0 k1 k2 fz fq q0 q1 q2 q3 q4 q5
  clear HT
  have k0 : w2.cell? ⟨b, 0, none⟩ = some (.int .i64 3) := cell_of T2.out.hb rfl
  have k1 : w2.cell? ⟨b, 1, none⟩ = some (.bool false) := cell_of T2.out.hb rfl
  have k2 : w2.cell? ⟨b, 2, none⟩ = some (.int .i64 0) := cell_of T2.out.hb rfl
  have fz : ∀ j, w2.frozen? ⟨b, j, none⟩ = false := fun j => frozen_at T2.out.hb
  have fq : ∀ j, w2.frozen? ⟨q, j, none⟩ = false := fun j => frozen_at T2.out.hq
  have q0 : w2.cell? ⟨q, 0, none⟩ = some (.bool false) := cell_of T2.out.hq rfl
  have q1 : w2.cell? ⟨q, 1, none⟩ = some (.bool false) := cell_of T2.out.hq rfl
  have q2 : w2.cell? ⟨q, 2, none⟩ = some (.bool false) := cell_of T2.out.hq rfl
  have q3 : w2.cell? ⟨q, 3, none⟩ = some (.bool false) := cell_of T2.out.hq rfl
  have q4 : w2.cell? ⟨q, 4, none⟩ = some (.bool false) := cell_of T2.out.hq rfl
  have q5 : w2.cell? ⟨q, 5, none⟩ = some (.bool false) := cell_of T2.out.hq rfl
  go_wp2_with fail
  have HT := ((((((T2.out.setq 0 (.bool false)).setq 1 (.bool false)).setq 2 (.bool false)).setq 3 (.bool false)).setq 4 (.bool false)).setq 5 (.bool true))
  exact bodyPost_ret (results_cell_row (fn := Try.f17) (p := 4) (ty := 25) rfl _ _ q 25 (⟨false, false, false, false, false, true⟩ : Du).cs (0, 0) _ rfl HT.hq Try.underlying25 rfl rfl) rfl ⟨rfl, HT.hb, HT.out⟩
set_option maxRecDepth 100000 in
set_option maxHeartbeats 1000000 in
theorem reo_1 (x : Wt) (b : Nat) (w : World) (h : w.heap[b]? = some (.cells x.cs 23 (0, 0))) : Calls Try.prog 17 #[.pointer (some ⟨b, 0, none⟩), .int .i64 1] w (Dn b ⟨x.s, x.p, x.n⟩ ⟨false, false, false, false, false, false⟩ w) := by
  have hb := lt_of_blk h
  have T0 := Lib.hid (Tw.start h)
  clear h
  go_enter Try.func17, Try.ntmps17
  go_upto_region 1 with (fail)
  generalize w.alloc (.cells #[.bool false, .bool false, .bool false, .bool false, .bool false, .bool false] 25) = w1 at T0 ⊢
  generalize w.heap.size = q at T0 hb ⊢
  have hne : ¬ b = q := by omega
  have hne2 : ¬ q = b := by omega
  have k0 : w1.cell? ⟨b, 0, none⟩ = some (.int .i64 x.s) := cell_of T0.out.hb rfl
  have k1 : w1.cell? ⟨b, 1, none⟩ = some (.bool x.p) := cell_of T0.out.hb rfl
  have k2 : w1.cell? ⟨b, 2, none⟩ = some (.int .i64 x.n) := cell_of T0.out.hb rfl
  have fz : ∀ j, w1.frozen? ⟨b, j, none⟩ = false := fun j => frozen_at T0.out.hb
  have fq : ∀ j, w1.frozen? ⟨q, j, none⟩ = false := fun j => frozen_at T0.out.hq
  have q0 : w1.cell? ⟨q, 0, none⟩ = some (.bool false) := cell_of T0.out.hq rfl
  have q1 : w1.cell? ⟨q, 1, none⟩ = some (.bool false) := cell_of T0.out.hq rfl
  have q2 : w1.cell? ⟨q, 2, none⟩ = some (.bool false) := cell_of T0.out.hq rfl
  have q3 : w1.cell? ⟨q, 3, none⟩ = some (.bool false) := cell_of T0.out.hq rfl
  have q4 : w1.cell? ⟨q, 4, none⟩ = some (.bool false) := cell_of T0.out.hq rfl
  have q5 : w1.cell? ⟨q, 5, none⟩ = some (.bool false) := cell_of T0.out.hq rfl
  go_wp2_with fail
  have HT := ((((((T0.out.setq 0 (.bool false)).setq 1 (.bool false)).setq 2 (.bool false)).setq 3 (.bool false)).setq 4 (.bool false)).setq 5 (.bool false))
  exact bodyPost_ret (results_cell_row (fn := Try.f17) (p := 4) (ty := 25) rfl _ _ q 25 (⟨false, false, false, false, false, false⟩ : Du).cs (0, 0) _ rfl HT.hq Try.underlying25 rfl rfl) rfl ⟨rfl, HT.hb, HT.out⟩
set_option maxRecDepth 100000 in
set_option maxHeartbeats 1000000 in
theorem reo_4 (x : Wt) (b : Nat) (w : World) (h : w.heap[b]? = some (.cells x.cs 23 (0, 0))) : Calls Try.prog 17 #[.pointer (some ⟨b, 0, none⟩), .int .i64 4] w (Dn b ⟨x.s, x.p, x.n⟩ ⟨false, false, false, false, false, false⟩ w) := by
  have hb := lt_of_blk h
  have T0 := Lib.hid (Tw.start h)
  clear h
  go_enter Try.func17, Try.ntmps17
  go_upto_region 1 with (fail)
  generalize w.alloc (.cells #[.bool false, .bool false, .bool false, .bool false, .bool false, .bool false] 25) = w1 at T0 ⊢
  generalize w.heap.size = q at T0 hb ⊢
  have hne : ¬ b = q := by omega
  have hne2 : ¬ q = b := by omega
  have k0 : w1.cell? ⟨b, 0, none⟩ = some (.int .i64 x.s) := cell_of T0.out.hb rfl
  have k1 : w1.cell? ⟨b, 1, none⟩ = some (.bool x.p) := cell_of T0.out.hb rfl
  have k2 : w1.cell? ⟨b, 2, none⟩ = some (.int .i64 x.n) := cell_of T0.out.hb rfl
  have fz : ∀ j, w1.frozen? ⟨b, j, none⟩ = false := fun j => frozen_at T0.out.hb
  have fq : ∀ j, w1.frozen? ⟨q, j, none⟩ = false := fun j => frozen_at T0.out.hq
  have q0 : w1.cell? ⟨q, 0, none⟩ = some (.bool false) := cell_of T0.out.hq rfl
  have q1 : w1.cell? ⟨q, 1, none⟩ = some (.bool false) := cell_of T0.out.hq rfl
  have q2 : w1.cell? ⟨q, 2, none⟩ = some (.bool false) := cell_of T0.out.hq rfl
  have q3 : w1.cell? ⟨q, 3, none⟩ = some (.bool false) := cell_of T0.out.hq rfl
  have q4 : w1.cell? ⟨q, 4, none⟩ = some (.bool false) := cell_of T0.out.hq rfl
  have q5 : w1.cell? ⟨q, 5, none⟩ = some (.bool false) := cell_of T0.out.hq rfl
  go_wp2_with fail
  have HT := ((((((T0.out.setq 0 (.bool false)).setq 1 (.bool false)).setq 2 (.bool false)).setq 3 (.bool false)).setq 4 (.bool false)).setq 5 (.bool false))
  exact bodyPost_ret (results_cell_row (fn := Try.f17) (p := 4) (ty := 25) rfl _ _ q 25 (⟨false, false, false, false, false, false⟩ : Du).cs (0, 0) _ rfl HT.hq Try.underlying25 rfl rfl) rfl ⟨rfl, HT.hb, HT.out⟩
end Go.Proofs.Ytdhkbpnhbbedmaa
