import Derived.Test.YtahpejcejbgcpaaRt13
namespace Go.Proofs.Ytahpejcejbgcpaa
open Go Go.RowKit
set_option linter.unusedVariables false
set_option linter.unusedSimpArgs false
set_option maxRecDepth 100000 in
set_option maxHeartbeats 4000000 in
theorem rmeas_f (x : Wy) (n : Int) (h : ¬ x.Ok) (w : World) : Calls Try.prog 10 #[.agg x.cs, .int .i64 n] w (WRes W0 2 w) := by
  have HS := okc_f x h
  clear h
  have hb0 := new_at w (.cells x.cs 23)
  have hb0 := (((up_alloc (w.alloc (.cells x.cs 23)) (.cells #[.int .i64 0, .int .i64 0, .int .i64 0, .int .i64 0, .int .i64 0, .int .i64 0, .int .i64 0] 23)).block _ (lt_of_blk hb0)).trans hb0)
  have hs1 : (w.alloc (.cells x.cs 23)).heap.size = w.heap.size + 1 := by simp
  have hb1 := new_at (w.alloc (.cells x.cs 23)) (.cells #[.int .i64 0, .int .i64 0, .int .i64 0, .int .i64 0, .int .i64 0, .int .i64 0, .int .i64 0] 23)
  rw [hs1] at hb1
  have hu : Up w ((w.alloc (.cells x.cs 23)).alloc (.cells #[.int .i64 0, .int .i64 0, .int .i64 0, .int .i64 0, .int .i64 0, .int .i64 0, .int .i64 0] 23)) := (up_alloc w (.cells x.cs 23)).trans (up_alloc (w.alloc (.cells x.cs 23)) (.cells #[.int .i64 0, .int .i64 0, .int .i64 0, .int .i64 0, .int .i64 0, .int .i64 0, .int .i64 0] 23))
  change ((w.alloc (.cells x.cs 23)).alloc (.cells #[.int .i64 0, .int .i64 0, .int .i64 0, .int .i64 0, .int .i64 0, .int .i64 0, .int .i64 0] 23)).heap[w.heap.size]? = _ at hb0
  have HM0 := Lib.hid hb0
  change ((w.alloc (.cells x.cs 23)).alloc (.cells #[.int .i64 0, .int .i64 0, .int .i64 0, .int .i64 0, .int .i64 0, .int .i64 0, .int .i64 0] 23)).heap[w.heap.size + 1]? = _ at hb1
  have HM1 := Lib.hid hb1
  have HU1 := Lib.hid hu
  clear hu hb0 hb1 hs1
  try clear hb0
  go_enter Try.func10, Try.ntmps10
  go_upto_region 1 with (fail)
  generalize ((w.alloc (.cells x.cs 23)).alloc (.cells #[.int .i64 0, .int .i64 0, .int .i64 0, .int .i64 0, .int .i64 0, .int .i64 0, .int .i64 0] 23)) = w2 at HM0 HM1 HU1 ⊢
  obtain ⟨p, hp⟩ : ∃ p, p = w.heap.size := ⟨_, rfl⟩
  rw [← hp] at HM0 HM1 ⊢
  have HP := Lib.hid hp
  clear hp
  have k0 : w2.cell? ⟨p, 0, none⟩ = some (.int .i64 x.s) := cell_of HM0.out rfl
  have k1 : w2.cell? ⟨p, 1, none⟩ = some (.int .i64 x.v) := cell_of HM0.out rfl
  have k2 : w2.cell? ⟨p, 2, none⟩ = some (.int .i64 x.r) := cell_of HM0.out rfl
  have k3 : w2.cell? ⟨p, 3, none⟩ = some (.int .i64 x.e) := cell_of HM0.out rfl
  have k4 : w2.cell? ⟨p, 4, none⟩ = some (.int .i64 x.c) := cell_of HM0.out rfl
  have k5 : w2.cell? ⟨p, 5, none⟩ = some (.int .i64 x.t) := cell_of HM0.out rfl
  have k6 : w2.cell? ⟨p, 6, none⟩ = some (.int .i64 x.a) := cell_of HM0.out rfl
  go_wp2_with fail
  refine (HS _).mono ?_
  rintro e w3 ⟨rfl, HU3⟩
  have hm3 := (HU3.out.block _ (lt_of_blk HM1.out)).trans HM1.out
  have HU4 := Lib.hid (HU1.out.trans HU3.out)
  have HM3 := Lib.hid hm3
  have f3 : ∀ j, w3.frozen? ⟨p + 1, j, none⟩ = false := fun j => frozen_at hm3
  have q0 : w3.cell? ⟨p + 1, 0, none⟩ = some (.int .i64 0) := cell_of hm3 rfl
  have q1 : w3.cell? ⟨p + 1, 1, none⟩ = some (.int .i64 0) := cell_of hm3 rfl
  have q2 : w3.cell? ⟨p + 1, 2, none⟩ = some (.int .i64 0) := cell_of hm3 rfl
  have q3 : w3.cell? ⟨p + 1, 3, none⟩ = some (.int .i64 0) := cell_of hm3 rfl
  have q4 : w3.cell? ⟨p + 1, 4, none⟩ = some (.int .i64 0) := cell_of hm3 rfl
  have q5 : w3.cell? ⟨p + 1, 5, none⟩ = some (.int .i64 0) := cell_of hm3 rfl
  have q6 : w3.cell? ⟨p + 1, 6, none⟩ = some (.int .i64 0) := cell_of hm3 rfl
  clear k0 k1 k2 k3 k4 k5 k6
  clear hm3
  go_wp2_with fail
  have HT := ((((((((Tr.refl HM3.out).set 0 (.int .i64 W0.s)).set 1 (.int .i64 W0.v)).set 2 (.int .i64 W0.r)).set 3 (.int .i64 W0.e)).set 4 (.int .i64 W0.c)).set 5 (.int .i64 W0.t)).set 6 (.int .i64 W0.a))
  refine bodyPost_ret (results_row_tmp (fn := Try.f10) (p := 4) (u := 5) (ty := 23) rfl _ _ (p + 1) 23 W0.cs (0, 0) _ rfl HT.1 Try.underlying23 rfl rfl) rfl ⟨rfl, Lib.hid (Below.out HU4.out HT.2 (fun k hk => by rw [hk, HP.out]; omega) (HU4.out).size)⟩
set_option maxRecDepth 100000 in
set_option maxHeartbeats 4000000 in
theorem rmeas_l (x : Wy) (n : Int) (h : x.Ok) (h2 : n < 0) (w : World) : Calls Try.prog 10 #[.agg x.cs, .int .i64 n] w (WRes W0 1 w) := by
  have HS := okc_t x h
  clear h
  have n1 : decide (n < 0) = true := decide_eq_true h2
  clear h2
  have hb0 := new_at w (.cells x.cs 23)
  have hb0 := (((up_alloc (w.alloc (.cells x.cs 23)) (.cells #[.int .i64 0, .int .i64 0, .int .i64 0, .int .i64 0, .int .i64 0, .int .i64 0, .int .i64 0] 23)).block _ (lt_of_blk hb0)).trans hb0)
  have hs1 : (w.alloc (.cells x.cs 23)).heap.size = w.heap.size + 1 := by simp
  have hb1 := new_at (w.alloc (.cells x.cs 23)) (.cells #[.int .i64 0, .int .i64 0, .int .i64 0, .int .i64 0, .int .i64 0, .int .i64 0, .int .i64 0] 23)
  rw [hs1] at hb1
  have hu : Up w ((w.alloc (.cells x.cs 23)).alloc (.cells #[.int .i64 0, .int .i64 0, .int .i64 0, .int .i64 0, .int .i64 0, .int .i64 0, .int .i64 0] 23)) := (up_alloc w (.cells x.cs 23)).trans (up_alloc (w.alloc (.cells x.cs 23)) (.cells #[.int .i64 0, .int .i64 0, .int .i64 0, .int .i64 0, .int .i64 0, .int .i64 0, .int .i64 0] 23))
  change ((w.alloc (.cells x.cs 23)).alloc (.cells #[.int .i64 0, .int .i64 0, .int .i64 0, .int .i64 0, .int .i64 0, .int .i64 0, .int .i64 0] 23)).heap[w.heap.size]? = _ at hb0
  have HM0 := Lib.hid hb0
  change ((w.alloc (.cells x.cs 23)).alloc (.cells #[.int .i64 0, .int .i64 0, .int .i64 0, .int .i64 0, .int .i64 0, .int .i64 0, .int .i64 0] 23)).heap[w.heap.size + 1]? = _ at hb1
  have HM1 := Lib.hid hb1
  have HU1 := Lib.hid hu
  clear hu hb0 hb1 hs1
  try clear hb0
  go_enter Try.func10, Try.ntmps10
  go_upto_region 1 with (fail)
  generalize ((w.alloc (.cells x.cs 23)).alloc (.cells #[.int .i64 0, .int .i64 0, .int .i64 0, .int .i64 0, .int .i64 0, .int .i64 0, .int .i64 0] 23)) = w2 at HM0 HM1 HU1 ⊢
  obtain ⟨p, hp⟩ : ∃ p, p = w.heap.size := ⟨_, rfl⟩
  rw [← hp] at HM0 HM1 ⊢
  have HP := Lib.hid hp
  clear hp
  have k0 : w2.cell? ⟨p, 0, none⟩ = some (.int .i64 x.s) := cell_of HM0.out rfl
  have k1 : w2.cell? ⟨p, 1, none⟩ = some (.int .i64 x.v) := cell_of HM0.out rfl
  have k2 : w2.cell? ⟨p, 2, none⟩ = some (.int .i64 x.r) := cell_of HM0.out rfl
  have k3 : w2.cell? ⟨p, 3, none⟩ = some (.int .i64 x.e) := cell_of HM0.out rfl
  have k4 : w2.cell? ⟨p, 4, none⟩ = some (.int .i64 x.c) := cell_of HM0.out rfl
  have k5 : w2.cell? ⟨p, 5, none⟩ = some (.int .i64 x.t) := cell_of HM0.out rfl
  have k6 : w2.cell? ⟨p, 6, none⟩ = some (.int .i64 x.a) := cell_of HM0.out rfl
  go_wp2_with fail
  refine (HS _).mono ?_
  rintro e w3 ⟨rfl, HU3⟩
  have hm3 := (HU3.out.block _ (lt_of_blk HM1.out)).trans HM1.out
  have HU4 := Lib.hid (HU1.out.trans HU3.out)
  have HM3 := Lib.hid hm3
  have f3 : ∀ j, w3.frozen? ⟨p + 1, j, none⟩ = false := fun j => frozen_at hm3
  have q0 : w3.cell? ⟨p + 1, 0, none⟩ = some (.int .i64 0) := cell_of hm3 rfl
  have q1 : w3.cell? ⟨p + 1, 1, none⟩ = some (.int .i64 0) := cell_of hm3 rfl
  have q2 : w3.cell? ⟨p + 1, 2, none⟩ = some (.int .i64 0) := cell_of hm3 rfl
  have q3 : w3.cell? ⟨p + 1, 3, none⟩ = some (.int .i64 0) := cell_of hm3 rfl
  have q4 : w3.cell? ⟨p + 1, 4, none⟩ = some (.int .i64 0) := cell_of hm3 rfl
  have q5 : w3.cell? ⟨p + 1, 5, none⟩ = some (.int .i64 0) := cell_of hm3 rfl
  have q6 : w3.cell? ⟨p + 1, 6, none⟩ = some (.int .i64 0) := cell_of hm3 rfl
  clear k0 k1 k2 k3 k4 k5 k6
  clear hm3
  go_wp2_with fail
  have HT := ((((((((Tr.refl HM3.out).set 0 (.int .i64 W0.s)).set 1 (.int .i64 W0.v)).set 2 (.int .i64 W0.r)).set 3 (.int .i64 W0.e)).set 4 (.int .i64 W0.c)).set 5 (.int .i64 W0.t)).set 6 (.int .i64 W0.a))
  refine bodyPost_ret (results_row_tmp (fn := Try.f10) (p := 4) (u := 5) (ty := 23) rfl _ _ (p + 1) 23 W0.cs (0, 0) _ rfl HT.1 Try.underlying23 rfl rfl) rfl ⟨rfl, Lib.hid (Below.out HU4.out HT.2 (fun k hk => by rw [hk, HP.out]; omega) (HU4.out).size)⟩
set_option maxRecDepth 100000 in
set_option maxHeartbeats 4000000 in
theorem rmeas_h (x : Wy) (n : Int) (h : x.Ok) (h2 : 1099511627776 < n) (w : World) : Calls Try.prog 10 #[.agg x.cs, .int .i64 n] w (WRes W0 1 w) := by
  have HS := okc_t x h
  clear h
  have n1 : decide (n < 0) = false := decide_eq_false (by omega)
  have n2 : decide (n > 1099511627776) = true := decide_eq_true h2
  clear h2
  have hb0 := new_at w (.cells x.cs 23)
  have hb0 := (((up_alloc (w.alloc (.cells x.cs 23)) (.cells #[.int .i64 0, .int .i64 0, .int .i64 0, .int .i64 0, .int .i64 0, .int .i64 0, .int .i64 0] 23)).block _ (lt_of_blk hb0)).trans hb0)
  have hs1 : (w.alloc (.cells x.cs 23)).heap.size = w.heap.size + 1 := by simp
  have hb1 := new_at (w.alloc (.cells x.cs 23)) (.cells #[.int .i64 0, .int .i64 0, .int .i64 0, .int .i64 0, .int .i64 0, .int .i64 0, .int .i64 0] 23)
  rw [hs1] at hb1
  have hu : Up w ((w.alloc (.cells x.cs 23)).alloc (.cells #[.int .i64 0, .int .i64 0, .int .i64 0, .int .i64 0, .int .i64 0, .int .i64 0, .int .i64 0] 23)) := (up_alloc w (.cells x.cs 23)).trans (up_alloc (w.alloc (.cells x.cs 23)) (.cells #[.int .i64 0, .int .i64 0, .int .i64 0, .int .i64 0, .int .i64 0, .int .i64 0, .int .i64 0] 23))
  change ((w.alloc (.cells x.cs 23)).alloc (.cells #[.int .i64 0, .int .i64 0, .int .i64 0, .int .i64 0, .int .i64 0, .int .i64 0, .int .i64 0] 23)).heap[w.heap.size]? = _ at hb0
  have HM0 := Lib.hid hb0
  change ((w.alloc (.cells x.cs 23)).alloc (.cells #[.int .i64 0, .int .i64 0, .int .i64 0, .int .i64 0, .int .i64 0, .int .i64 0, .int .i64 0] 23)).heap[w.heap.size + 1]? = _ at hb1
  have HM1 := Lib.hid hb1
  have HU1 := Lib.hid hu
  clear hu hb0 hb1 hs1
  try clear hb0
  go_enter Try.func10, Try.ntmps10
  go_upto_region 1 with (fail)
  generalize ((w.alloc (.cells x.cs 23)).alloc (.cells #[.int .i64 0, .int .i64 0, .int .i64 0, .int .i64 0, .int .i64 0, .int .i64 0, .int .i64 0] 23)) = w2 at HM0 HM1 HU1 ⊢
  obtain ⟨p, hp⟩ : ∃ p, p = w.heap.size := ⟨_, rfl⟩
  rw [← hp] at HM0 HM1 ⊢
  have HP := Lib.hid hp
  clear hp
  have k0 : w2.cell? ⟨p, 0, none⟩ = some (.int .i64 x.s) := cell_of HM0.out rfl
  have k1 : w2.cell? ⟨p, 1, none⟩ = some (.int .i64 x.v) := cell_of HM0.out rfl
  have k2 : w2.cell? ⟨p, 2, none⟩ = some (.int .i64 x.r) := cell_of HM0.out rfl
  have k3 : w2.cell? ⟨p, 3, none⟩ = some (.int .i64 x.e) := cell_of HM0.out rfl
  have k4 : w2.cell? ⟨p, 4, none⟩ = some (.int .i64 x.c) := cell_of HM0.out rfl
  have k5 : w2.cell? ⟨p, 5, none⟩ = some (.int .i64 x.t) := cell_of HM0.out rfl
  have k6 : w2.cell? ⟨p, 6, none⟩ = some (.int .i64 x.a) := cell_of HM0.out rfl
  go_wp2_with fail
  refine (HS _).mono ?_
  rintro e w3 ⟨rfl, HU3⟩
  have hm3 := (HU3.out.block _ (lt_of_blk HM1.out)).trans HM1.out
  have HU4 := Lib.hid (HU1.out.trans HU3.out)
  have HM3 := Lib.hid hm3
  have f3 : ∀ j, w3.frozen? ⟨p + 1, j, none⟩ = false := fun j => frozen_at hm3
  have q0 : w3.cell? ⟨p + 1, 0, none⟩ = some (.int .i64 0) := cell_of hm3 rfl
  have q1 : w3.cell? ⟨p + 1, 1, none⟩ = some (.int .i64 0) := cell_of hm3 rfl
  have q2 : w3.cell? ⟨p + 1, 2, none⟩ = some (.int .i64 0) := cell_of hm3 rfl
  have q3 : w3.cell? ⟨p + 1, 3, none⟩ = some (.int .i64 0) := cell_of hm3 rfl
  have q4 : w3.cell? ⟨p + 1, 4, none⟩ = some (.int .i64 0) := cell_of hm3 rfl
  have q5 : w3.cell? ⟨p + 1, 5, none⟩ = some (.int .i64 0) := cell_of hm3 rfl
  have q6 : w3.cell? ⟨p + 1, 6, none⟩ = some (.int .i64 0) := cell_of hm3 rfl
  clear k0 k1 k2 k3 k4 k5 k6
  clear hm3
  go_wp2_with fail
  have HT := ((((((((Tr.refl HM3.out).set 0 (.int .i64 W0.s)).set 1 (.int .i64 W0.v)).set 2 (.int .i64 W0.r)).set 3 (.int .i64 W0.e)).set 4 (.int .i64 W0.c)).set 5 (.int .i64 W0.t)).set 6 (.int .i64 W0.a))
  refine bodyPost_ret (results_row_tmp (fn := Try.f10) (p := 4) (u := 5) (ty := 23) rfl _ _ (p + 1) 23 W0.cs (0, 0) _ rfl HT.1 Try.underlying23 rfl rfl) rfl ⟨rfl, Lib.hid (Below.out HU4.out HT.2 (fun k hk => by rw [hk, HP.out]; omega) (HU4.out).size)⟩
set_option maxRecDepth 100000 in
set_option maxHeartbeats 4000000 in
theorem rmeas_0 (x : Wy) (n : Int) (h : x.Ok) (h2 : 0 ≤ n) (h3 : n ≤ 1099511627776) (h4 : x.s = 0) (h5 : x.v = 0) (w : World) : Calls Try.prog 10 #[.agg x.cs, .int .i64 n] w (WRes (⟨n, n / 2, clp (n + 4 * (n / 2)) 4 64, 0, x.c, x.t, x.a⟩ : Wy) 0 w) := by
  have HS := okc_t x h
  obtain ⟨⟨a1, a2⟩, ⟨b1, b2⟩, ⟨c1, c2⟩, ⟨d1, d2⟩, ⟨e1, e2⟩, ⟨f1, f2⟩, ⟨g1, g2⟩⟩ := h
  have n1 : decide (n < 0) = false := decide_eq_false (by omega)
  have n2 : decide (n > 1099511627776) = false := decide_eq_false (by omega)
  have t1 : (x.s == 0) = true := by simp [h4]
  have t2 : (x.v == 0) = true := by simp [h5]
  clear h4 h5
  have hb0 := new_at w (.cells x.cs 23)
  have hb0 := (((up_alloc (w.alloc (.cells x.cs 23)) (.cells #[.int .i64 0, .int .i64 0, .int .i64 0, .int .i64 0, .int .i64 0, .int .i64 0, .int .i64 0] 23)).block _ (lt_of_blk hb0)).trans hb0)
  have hs1 : (w.alloc (.cells x.cs 23)).heap.size = w.heap.size + 1 := by simp
  have hb1 := new_at (w.alloc (.cells x.cs 23)) (.cells #[.int .i64 0, .int .i64 0, .int .i64 0, .int .i64 0, .int .i64 0, .int .i64 0, .int .i64 0] 23)
  rw [hs1] at hb1
  have hu : Up w ((w.alloc (.cells x.cs 23)).alloc (.cells #[.int .i64 0, .int .i64 0, .int .i64 0, .int .i64 0, .int .i64 0, .int .i64 0, .int .i64 0] 23)) := (up_alloc w (.cells x.cs 23)).trans (up_alloc (w.alloc (.cells x.cs 23)) (.cells #[.int .i64 0, .int .i64 0, .int .i64 0, .int .i64 0, .int .i64 0, .int .i64 0, .int .i64 0] 23))
  change ((w.alloc (.cells x.cs 23)).alloc (.cells #[.int .i64 0, .int .i64 0, .int .i64 0, .int .i64 0, .int .i64 0, .int .i64 0, .int .i64 0] 23)).heap[w.heap.size]? = _ at hb0
  have HM0 := Lib.hid hb0
  change ((w.alloc (.cells x.cs 23)).alloc (.cells #[.int .i64 0, .int .i64 0, .int .i64 0, .int .i64 0, .int .i64 0, .int .i64 0, .int .i64 0] 23)).heap[w.heap.size + 1]? = _ at hb1
  have HM1 := Lib.hid hb1
  have HU1 := Lib.hid hu
  clear hu hb0 hb1 hs1
  try clear hb0
  go_enter Try.func10, Try.ntmps10
  go_upto_region 1 with (fail)
  generalize ((w.alloc (.cells x.cs 23)).alloc (.cells #[.int .i64 0, .int .i64 0, .int .i64 0, .int .i64 0, .int .i64 0, .int .i64 0, .int .i64 0] 23)) = w2 at HM0 HM1 HU1 ⊢
  obtain ⟨p, hp⟩ : ∃ p, p = w.heap.size := ⟨_, rfl⟩
  rw [← hp] at HM0 HM1 ⊢
  have HP := Lib.hid hp
  clear hp
  have k0 : w2.cell? ⟨p, 0, none⟩ = some (.int .i64 x.s) := cell_of HM0.out rfl
  have k1 : w2.cell? ⟨p, 1, none⟩ = some (.int .i64 x.v) := cell_of HM0.out rfl
  have k2 : w2.cell? ⟨p, 2, none⟩ = some (.int .i64 x.r) := cell_of HM0.out rfl
  have k3 : w2.cell? ⟨p, 3, none⟩ = some (.int .i64 x.e) := cell_of HM0.out rfl
  have k4 : w2.cell? ⟨p, 4, none⟩ = some (.int .i64 x.c) := cell_of HM0.out rfl
  have k5 : w2.cell? ⟨p, 5, none⟩ = some (.int .i64 x.t) := cell_of HM0.out rfl
  have k6 : w2.cell? ⟨p, 6, none⟩ = some (.int .i64 x.a) := cell_of HM0.out rfl
  go_wp2_with fail
  refine (HS _).mono ?_
  rintro e w3 ⟨rfl, HU3⟩
  have hm3 := (HU3.out.block _ (lt_of_blk HM1.out)).trans HM1.out
  have hm4 := (HU3.out.block _ (lt_of_blk HM0.out)).trans HM0.out
  have HU4 := Lib.hid (HU1.out.trans HU3.out)
  have HM3 := Lib.hid hm3
  have HM4 := Lib.hid hm4
  have f3 : ∀ j, w3.frozen? ⟨p + 1, j, none⟩ = false := fun j => frozen_at hm3
  have q0 : w3.cell? ⟨p + 1, 0, none⟩ = some (.int .i64 0) := cell_of hm3 rfl
  have q1 : w3.cell? ⟨p + 1, 1, none⟩ = some (.int .i64 0) := cell_of hm3 rfl
  have q2 : w3.cell? ⟨p + 1, 2, none⟩ = some (.int .i64 0) := cell_of hm3 rfl
  have q3 : w3.cell? ⟨p + 1, 3, none⟩ = some (.int .i64 0) := cell_of hm3 rfl
  have q4 : w3.cell? ⟨p + 1, 4, none⟩ = some (.int .i64 0) := cell_of hm3 rfl
  have q5 : w3.cell? ⟨p + 1, 5, none⟩ = some (.int .i64 0) := cell_of hm3 rfl
  have q6 : w3.cell? ⟨p + 1, 6, none⟩ = some (.int .i64 0) := cell_of hm3 rfl
  clear k0 k1 k2 k3 k4 k5 k6
  have k0 : w3.cell? ⟨p, 0, none⟩ = some (.int .i64 x.s) := cell_of hm4 rfl
  have k1 : w3.cell? ⟨p, 1, none⟩ = some (.int .i64 x.v) := cell_of hm4 rfl
  have k2 : w3.cell? ⟨p, 2, none⟩ = some (.int .i64 x.r) := cell_of hm4 rfl
  have k3 : w3.cell? ⟨p, 3, none⟩ = some (.int .i64 x.e) := cell_of hm4 rfl
  have k4 : w3.cell? ⟨p, 4, none⟩ = some (.int .i64 x.c) := cell_of hm4 rfl
  have k5 : w3.cell? ⟨p, 5, none⟩ = some (.int .i64 x.t) := cell_of hm4 rfl
  have k6 : w3.cell? ⟨p, 6, none⟩ = some (.int .i64 x.a) := cell_of hm4 rfl
  have f4 : ∀ j, w3.frozen? ⟨p, j, none⟩ = false := fun j => frozen_at hm4
  clear hm3 hm4 HM0 HM1 HS
  go_wp2_with (go_at_call 28; with_reducible refine (clip_any _ _ _ _).mono ?_; rintro e wk ⟨rfl, rfl⟩)
  all_goals
    have HA := ((((Tr.refl HM4.out).set 0 (.int .i64 n)).set 1 (.int .i64 (n / 2))).set 2 (.int .i64 (clp (n + 4 * (n / 2)) 4 64))).set 3 (.int .i64 0)
    have HB := Tr.refl (HA.2.blk HM3.out (by omega))
    have HT := ((((((HB.set 0 (.int .i64 (⟨n, n / 2, clp (n + 4 * (n / 2)) 4 64, 0, x.c, x.t, x.a⟩ : Wy).s)).set 1 (.int .i64 (⟨n, n / 2, clp (n + 4 * (n / 2)) 4 64, 0, x.c, x.t, x.a⟩ : Wy).v)).set 2 (.int .i64 (⟨n, n / 2, clp (n + 4 * (n / 2)) 4 64, 0, x.c, x.t, x.a⟩ : Wy).r)).set 3 (.int .i64 (⟨n, n / 2, clp (n + 4 * (n / 2)) 4 64, 0, x.c, x.t, x.a⟩ : Wy).e)).set 4 (.int .i64 (⟨n, n / 2, clp (n + 4 * (n / 2)) 4 64, 0, x.c, x.t, x.a⟩ : Wy).c)).set 5 (.int .i64 (⟨n, n / 2, clp (n + 4 * (n / 2)) 4 64, 0, x.c, x.t, x.a⟩ : Wy).t)).set 6 (.int .i64 (⟨n, n / 2, clp (n + 4 * (n / 2)) 4 64, 0, x.c, x.t, x.a⟩ : Wy).a)
    have HZ : Up w _ := Below.out HU4.out HA.2 (fun k hk => by rw [hk, HP.out]; omega) HU4.out.size
    exact bodyPost_ret (results_row_tmp (fn := Try.f10) (p := 4) (u := 5) (ty := 23) rfl _ _ (p + 1) 23 (⟨n, n / 2, clp (n + 4 * (n / 2)) 4 64, 0, x.c, x.t, x.a⟩ : Wy).cs (0, 0) _ rfl HT.1 Try.underlying23 rfl rfl) rfl ⟨rfl, Lib.hid (Below.out HZ HT.2 (fun k hk => by rw [hk, HP.out]; omega) HZ.size)⟩
set_option maxRecDepth 100000 in
set_option maxHeartbeats 4000000 in
theorem rmeas_1 (x : Wy) (n : Int) (h : x.Ok) (h2 : 0 ≤ n) (h3 : n ≤ 1099511627776) (h4 : x.s = 0) (h5 : ¬ x.v = 0) (h6 : x.s - n < 0) (w : World) : Calls Try.prog 10 #[.agg x.cs, .int .i64 n] w (WRes (⟨(7 * x.s + n) / 8, (3 * x.v + -(x.s - n)) / 4, clp ((7 * x.s + n) / 8 + 4 * ((3 * x.v + -(x.s - n)) / 4)) 4 64, 0, x.c, x.t, x.a⟩ : Wy) 0 w) := by
  have HS := okc_t x h
  obtain ⟨⟨a1, a2⟩, ⟨b1, b2⟩, ⟨c1, c2⟩, ⟨d1, d2⟩, ⟨e1, e2⟩, ⟨f1, f2⟩, ⟨g1, g2⟩⟩ := h
  have n1 : decide (n < 0) = false := decide_eq_false (by omega)
  have n2 : decide (n > 1099511627776) = false := decide_eq_false (by omega)
  have t1 : (x.s == 0) = true := by simp [h4]
  have t2 : (x.v == 0) = false := by simp [h5]
  clear h4 h5
  have t3 : decide (x.s - n < 0) = true := decide_eq_true h6
  have hb0 := new_at w (.cells x.cs 23)
  have hb0 := (((up_alloc (w.alloc (.cells x.cs 23)) (.cells #[.int .i64 0, .int .i64 0, .int .i64 0, .int .i64 0, .int .i64 0, .int .i64 0, .int .i64 0] 23)).block _ (lt_of_blk hb0)).trans hb0)
  have hs1 : (w.alloc (.cells x.cs 23)).heap.size = w.heap.size + 1 := by simp
  have hb1 := new_at (w.alloc (.cells x.cs 23)) (.cells #[.int .i64 0, .int .i64 0, .int .i64 0, .int .i64 0, .int .i64 0, .int .i64 0, .int .i64 0] 23)
  rw [hs1] at hb1
  have hu : Up w ((w.alloc (.cells x.cs 23)).alloc (.cells #[.int .i64 0, .int .i64 0, .int .i64 0, .int .i64 0, .int .i64 0, .int .i64 0, .int .i64 0] 23)) := (up_alloc w (.cells x.cs 23)).trans (up_alloc (w.alloc (.cells x.cs 23)) (.cells #[.int .i64 0, .int .i64 0, .int .i64 0, .int .i64 0, .int .i64 0, .int .i64 0, .int .i64 0] 23))
  change ((w.alloc (.cells x.cs 23)).alloc (.cells #[.int .i64 0, .int .i64 0, .int .i64 0, .int .i64 0, .int .i64 0, .int .i64 0, .int .i64 0] 23)).heap[w.heap.size]? = _ at hb0
  have HM0 := Lib.hid hb0
  change ((w.alloc (.cells x.cs 23)).alloc (.cells #[.int .i64 0, .int .i64 0, .int .i64 0, .int .i64 0, .int .i64 0, .int .i64 0, .int .i64 0] 23)).heap[w.heap.size + 1]? = _ at hb1
  have HM1 := Lib.hid hb1
  have HU1 := Lib.hid hu
  clear hu hb0 hb1 hs1
  try clear hb0
  go_enter Try.func10, Try.ntmps10
  go_upto_region 1 with (fail)
  generalize ((w.alloc (.cells x.cs 23)).alloc (.cells #[.int .i64 0, .int .i64 0, .int .i64 0, .int .i64 0, .int .i64 0, .int .i64 0, .int .i64 0] 23)) = w2 at HM0 HM1 HU1 ⊢
  obtain ⟨p, hp⟩ : ∃ p, p = w.heap.size := ⟨_, rfl⟩
  rw [← hp] at HM0 HM1 ⊢
  have HP := Lib.hid hp
  clear hp
  have k0 : w2.cell? ⟨p, 0, none⟩ = some (.int .i64 x.s) := cell_of HM0.out rfl
  have k1 : w2.cell? ⟨p, 1, none⟩ = some (.int .i64 x.v) := cell_of HM0.out rfl
  have k2 : w2.cell? ⟨p, 2, none⟩ = some (.int .i64 x.r) := cell_of HM0.out rfl
  have k3 : w2.cell? ⟨p, 3, none⟩ = some (.int .i64 x.e) := cell_of HM0.out rfl
  have k4 : w2.cell? ⟨p, 4, none⟩ = some (.int .i64 x.c) := cell_of HM0.out rfl
  have k5 : w2.cell? ⟨p, 5, none⟩ = some (.int .i64 x.t) := cell_of HM0.out rfl
  have k6 : w2.cell? ⟨p, 6, none⟩ = some (.int .i64 x.a) := cell_of HM0.out rfl
  go_wp2_with fail
  refine (HS _).mono ?_
  rintro e w3 ⟨rfl, HU3⟩
  have hm3 := (HU3.out.block _ (lt_of_blk HM1.out)).trans HM1.out
  have hm4 := (HU3.out.block _ (lt_of_blk HM0.out)).trans HM0.out
  have HU4 := Lib.hid (HU1.out.trans HU3.out)
  have HM3 := Lib.hid hm3
  have HM4 := Lib.hid hm4
  have f3 : ∀ j, w3.frozen? ⟨p + 1, j, none⟩ = false := fun j => frozen_at hm3
  have q0 : w3.cell? ⟨p + 1, 0, none⟩ = some (.int .i64 0) := cell_of hm3 rfl
  have q1 : w3.cell? ⟨p + 1, 1, none⟩ = some (.int .i64 0) := cell_of hm3 rfl
  have q2 : w3.cell? ⟨p + 1, 2, none⟩ = some (.int .i64 0) := cell_of hm3 rfl
  have q3 : w3.cell? ⟨p + 1, 3, none⟩ = some (.int .i64 0) := cell_of hm3 rfl
  have q4 : w3.cell? ⟨p + 1, 4, none⟩ = some (.int .i64 0) := cell_of hm3 rfl
  have q5 : w3.cell? ⟨p + 1, 5, none⟩ = some (.int .i64 0) := cell_of hm3 rfl
  have q6 : w3.cell? ⟨p + 1, 6, none⟩ = some (.int .i64 0) := cell_of hm3 rfl
  clear k0 k1 k2 k3 k4 k5 k6
  have k0 : w3.cell? ⟨p, 0, none⟩ = some (.int .i64 x.s) := cell_of hm4 rfl
  have k1 : w3.cell? ⟨p, 1, none⟩ = some (.int .i64 x.v) := cell_of hm4 rfl
  have k2 : w3.cell? ⟨p, 2, none⟩ = some (.int .i64 x.r) := cell_of hm4 rfl
  have k3 : w3.cell? ⟨p, 3, none⟩ = some (.int .i64 x.e) := cell_of hm4 rfl
  have k4 : w3.cell? ⟨p, 4, none⟩ = some (.int .i64 x.c) := cell_of hm4 rfl
  have k5 : w3.cell? ⟨p, 5, none⟩ = some (.int .i64 x.t) := cell_of hm4 rfl
  have k6 : w3.cell? ⟨p, 6, none⟩ = some (.int .i64 x.a) := cell_of hm4 rfl
  have f4 : ∀ j, w3.frozen? ⟨p, j, none⟩ = false := fun j => frozen_at hm4
  clear hm3 hm4 HM0 HM1 HS
  go_wp2_with (go_at_call 28; with_reducible refine (clip_any _ _ _ _).mono ?_; rintro e wk ⟨rfl, rfl⟩)
  all_goals
    have HA := ((((Tr.refl HM4.out).set 1 (.int .i64 ((3 * x.v + -(x.s - n)) / 4))).set 0 (.int .i64 ((7 * x.s + n) / 8))).set 2 (.int .i64 (clp ((7 * x.s + n) / 8 + 4 * ((3 * x.v + -(x.s - n)) / 4)) 4 64))).set 3 (.int .i64 0)
    have HB := Tr.refl (HA.2.blk HM3.out (by omega))
    have HT := ((((((HB.set 0 (.int .i64 (⟨(7 * x.s + n) / 8, (3 * x.v + -(x.s - n)) / 4, clp ((7 * x.s + n) / 8 + 4 * ((3 * x.v + -(x.s - n)) / 4)) 4 64, 0, x.c, x.t, x.a⟩ : Wy).s)).set 1 (.int .i64 (⟨(7 * x.s + n) / 8, (3 * x.v + -(x.s - n)) / 4, clp ((7 * x.s + n) / 8 + 4 * ((3 * x.v + -(x.s - n)) / 4)) 4 64, 0, x.c, x.t, x.a⟩ : Wy).v)).set 2 (.int .i64 (⟨(7 * x.s + n) / 8, (3 * x.v + -(x.s - n)) / 4, clp ((7 * x.s + n) / 8 + 4 * ((3 * x.v + -(x.s - n)) / 4)) 4 64, 0, x.c, x.t, x.a⟩ : Wy).r)).set 3 (.int .i64 (⟨(7 * x.s + n) / 8, (3 * x.v + -(x.s - n)) / 4, clp ((7 * x.s + n) / 8 + 4 * ((3 * x.v + -(x.s - n)) / 4)) 4 64, 0, x.c, x.t, x.a⟩ : Wy).e)).set 4 (.int .i64 (⟨(7 * x.s + n) / 8, (3 * x.v + -(x.s - n)) / 4, clp ((7 * x.s + n) / 8 + 4 * ((3 * x.v + -(x.s - n)) / 4)) 4 64, 0, x.c, x.t, x.a⟩ : Wy).c)).set 5 (.int .i64 (⟨(7 * x.s + n) / 8, (3 * x.v + -(x.s - n)) / 4, clp ((7 * x.s + n) / 8 + 4 * ((3 * x.v + -(x.s - n)) / 4)) 4 64, 0, x.c, x.t, x.a⟩ : Wy).t)).set 6 (.int .i64 (⟨(7 * x.s + n) / 8, (3 * x.v + -(x.s - n)) / 4, clp ((7 * x.s + n) / 8 + 4 * ((3 * x.v + -(x.s - n)) / 4)) 4 64, 0, x.c, x.t, x.a⟩ : Wy).a)
    have HZ : Up w _ := Below.out HU4.out HA.2 (fun k hk => by rw [hk, HP.out]; omega) HU4.out.size
    exact bodyPost_ret (results_row_tmp (fn := Try.f10) (p := 4) (u := 5) (ty := 23) rfl _ _ (p + 1) 23 (⟨(7 * x.s + n) / 8, (3 * x.v + -(x.s - n)) / 4, clp ((7 * x.s + n) / 8 + 4 * ((3 * x.v + -(x.s - n)) / 4)) 4 64, 0, x.c, x.t, x.a⟩ : Wy).cs (0, 0) _ rfl HT.1 Try.underlying23 rfl rfl) rfl ⟨rfl, Lib.hid (Below.out HZ HT.2 (fun k hk => by rw [hk, HP.out]; omega) HZ.size)⟩
set_option maxRecDepth 100000 in
set_option maxHeartbeats 4000000 in
theorem rmeas_2 (x : Wy) (n : Int) (h : x.Ok) (h2 : 0 ≤ n) (h3 : n ≤ 1099511627776) (h4 : ¬ x.s = 0) (h6 : x.s - n < 0) (w : World) : Calls Try.prog 10 #[.agg x.cs, .int .i64 n] w (WRes (⟨(7 * x.s + n) / 8, (3 * x.v + -(x.s - n)) / 4, clp ((7 * x.s + n) / 8 + 4 * ((3 * x.v + -(x.s - n)) / 4)) 4 64, 0, x.c, x.t, x.a⟩ : Wy) 0 w) := by
  have HS := okc_t x h
  obtain ⟨⟨a1, a2⟩, ⟨b1, b2⟩, ⟨c1, c2⟩, ⟨d1, d2⟩, ⟨e1, e2⟩, ⟨f1, f2⟩, ⟨g1, g2⟩⟩ := h
  have n1 : decide (n < 0) = false := decide_eq_false (by omega)
  have n2 : decide (n > 1099511627776) = false := decide_eq_false (by omega)
  have t1 : (x.s == 0) = false := by simp [h4]
  clear h4
  have t3 : decide (x.s - n < 0) = true := decide_eq_true h6
  have hb0 := new_at w (.cells x.cs 23)
  have hb0 := (((up_alloc (w.alloc (.cells x.cs 23)) (.cells #[.int .i64 0, .int .i64 0, .int .i64 0, .int .i64 0, .int .i64 0, .int .i64 0, .int .i64 0] 23)).block _ (lt_of_blk hb0)).trans hb0)
  have hs1 : (w.alloc (.cells x.cs 23)).heap.size = w.heap.size + 1 := by simp
  have hb1 := new_at (w.alloc (.cells x.cs 23)) (.cells #[.int .i64 0, .int .i64 0, .int .i64 0, .int .i64 0, .int .i64 0, .int .i64 0, .int .i64 0] 23)
  rw [hs1] at hb1
  have hu : Up w ((w.alloc (.cells x.cs 23)).alloc (.cells #[.int .i64 0, .int .i64 0, .int .i64 0, .int .i64 0, .int .i64 0, .int .i64 0, .int .i64 0] 23)) := (up_alloc w (.cells x.cs 23)).trans (up_alloc (w.alloc (.cells x.cs 23)) (.cells #[.int .i64 0, .int .i64 0, .int .i64 0, .int .i64 0, .int .i64 0, .int .i64 0, .int .i64 0] 23))
  change ((w.alloc (.cells x.cs 23)).alloc (.cells #[.int .i64 0, .int .i64 0, .int .i64 0, .int .i64 0, .int .i64 0, .int .i64 0, .int .i64 0] 23)).heap[w.heap.size]? = _ at hb0
  have HM0 := Lib.hid hb0
  change ((w.alloc (.cells x.cs 23)).alloc (.cells #[.int .i64 0, .int .i64 0, .int .i64 0, .int .i64 0, .int .i64 0, .int .i64 0, .int .i64 0] 23)).heap[w.heap.size + 1]? = _ at hb1
  have HM1 := Lib.hid hb1
  have HU1 := Lib.hid hu
  clear hu hb0 hb1 hs1
  try clear hb0
  go_enter Try.func10, Try.ntmps10
  go_upto_region 1 with (fail)
  generalize ((w.alloc (.cells x.cs 23)).alloc (.cells #[.int .i64 0, .int .i64 0, .int .i64 0, .int .i64 0, .int .i64 0, .int .i64 0, .int .i64 0] 23)) = w2 at HM0 HM1 HU1 ⊢
  obtain ⟨p, hp⟩ : ∃ p, p = w.heap.size := ⟨_, rfl⟩
  rw [← hp] at HM0 HM1 ⊢
  have HP := Lib.hid hp
  clear hp
  have k0 : w2.cell? ⟨p, 0, none⟩ = some (.int .i64 x.s) := cell_of HM0.out rfl
  have k1 : w2.cell? ⟨p, 1, none⟩ = some (.int .i64 x.v) := cell_of HM0.out rfl
  have k2 : w2.cell? ⟨p, 2, none⟩ = some (.int .i64 x.r) := cell_of HM0.out rfl
  have k3 : w2.cell? ⟨p, 3, none⟩ = some (.int .i64 x.e) := cell_of HM0.out rfl
  have k4 : w2.cell? ⟨p, 4, none⟩ = some (.int .i64 x.c) := cell_of HM0.out rfl
  have k5 : w2.cell? ⟨p, 5, none⟩ = some (.int .i64 x.t) := cell_of HM0.out rfl
  have k6 : w2.cell? ⟨p, 6, none⟩ = some (.int .i64 x.a) := cell_of HM0.out rfl
  go_wp2_with fail
  refine (HS _).mono ?_
  rintro e w3 ⟨rfl, HU3⟩
  have hm3 := (HU3.out.block _ (lt_of_blk HM1.out)).trans HM1.out
  have hm4 := (HU3.out.block _ (lt_of_blk HM0.out)).trans HM0.out
  have HU4 := Lib.hid (HU1.out.trans HU3.out)
  have HM3 := Lib.hid hm3
  have HM4 := Lib.hid hm4
  have f3 : ∀ j, w3.frozen? ⟨p + 1, j, none⟩ = false := fun j => frozen_at hm3
  have q0 : w3.cell? ⟨p + 1, 0, none⟩ = some (.int .i64 0) := cell_of hm3 rfl
  have q1 : w3.cell? ⟨p + 1, 1, none⟩ = some (.int .i64 0) := cell_of hm3 rfl
  have q2 : w3.cell? ⟨p + 1, 2, none⟩ = some (.int .i64 0) := cell_of hm3 rfl
  have q3 : w3.cell? ⟨p + 1, 3, none⟩ = some (.int .i64 0) := cell_of hm3 rfl
  have q4 : w3.cell? ⟨p + 1, 4, none⟩ = some (.int .i64 0) := cell_of hm3 rfl
  have q5 : w3.cell? ⟨p + 1, 5, none⟩ = some (.int .i64 0) := cell_of hm3 rfl
  have q6 : w3.cell? ⟨p + 1, 6, none⟩ = some (.int .i64 0) := cell_of hm3 rfl
  clear k0 k1 k2 k3 k4 k5 k6
  have k0 : w3.cell? ⟨p, 0, none⟩ = some (.int .i64 x.s) := cell_of hm4 rfl
  have k1 : w3.cell? ⟨p, 1, none⟩ = some (.int .i64 x.v) := cell_of hm4 rfl
  have k2 : w3.cell? ⟨p, 2, none⟩ = some (.int .i64 x.r) := cell_of hm4 rfl
  have k3 : w3.cell? ⟨p, 3, none⟩ = some (.int .i64 x.e) := cell_of hm4 rfl
  have k4 : w3.cell? ⟨p, 4, none⟩ = some (.int .i64 x.c) := cell_of hm4 rfl
  have k5 : w3.cell? ⟨p, 5, none⟩ = some (.int .i64 x.t) := cell_of hm4 rfl
  have k6 : w3.cell? ⟨p, 6, none⟩ = some (.int .i64 x.a) := cell_of hm4 rfl
  have f4 : ∀ j, w3.frozen? ⟨p, j, none⟩ = false := fun j => frozen_at hm4
  clear hm3 hm4 HM0 HM1 HS
  go_wp2_with (go_at_call 28; with_reducible refine (clip_any _ _ _ _).mono ?_; rintro e wk ⟨rfl, rfl⟩)
  all_goals
    have HA := ((((Tr.refl HM4.out).set 1 (.int .i64 ((3 * x.v + -(x.s - n)) / 4))).set 0 (.int .i64 ((7 * x.s + n) / 8))).set 2 (.int .i64 (clp ((7 * x.s + n) / 8 + 4 * ((3 * x.v + -(x.s - n)) / 4)) 4 64))).set 3 (.int .i64 0)
    have HB := Tr.refl (HA.2.blk HM3.out (by omega))
    have HT := ((((((HB.set 0 (.int .i64 (⟨(7 * x.s + n) / 8, (3 * x.v + -(x.s - n)) / 4, clp ((7 * x.s + n) / 8 + 4 * ((3 * x.v + -(x.s - n)) / 4)) 4 64, 0, x.c, x.t, x.a⟩ : Wy).s)).set 1 (.int .i64 (⟨(7 * x.s + n) / 8, (3 * x.v + -(x.s - n)) / 4, clp ((7 * x.s + n) / 8 + 4 * ((3 * x.v + -(x.s - n)) / 4)) 4 64, 0, x.c, x.t, x.a⟩ : Wy).v)).set 2 (.int .i64 (⟨(7 * x.s + n) / 8, (3 * x.v + -(x.s - n)) / 4, clp ((7 * x.s + n) / 8 + 4 * ((3 * x.v + -(x.s - n)) / 4)) 4 64, 0, x.c, x.t, x.a⟩ : Wy).r)).set 3 (.int .i64 (⟨(7 * x.s + n) / 8, (3 * x.v + -(x.s - n)) / 4, clp ((7 * x.s + n) / 8 + 4 * ((3 * x.v + -(x.s - n)) / 4)) 4 64, 0, x.c, x.t, x.a⟩ : Wy).e)).set 4 (.int .i64 (⟨(7 * x.s + n) / 8, (3 * x.v + -(x.s - n)) / 4, clp ((7 * x.s + n) / 8 + 4 * ((3 * x.v + -(x.s - n)) / 4)) 4 64, 0, x.c, x.t, x.a⟩ : Wy).c)).set 5 (.int .i64 (⟨(7 * x.s + n) / 8, (3 * x.v + -(x.s - n)) / 4, clp ((7 * x.s + n) / 8 + 4 * ((3 * x.v + -(x.s - n)) / 4)) 4 64, 0, x.c, x.t, x.a⟩ : Wy).t)).set 6 (.int .i64 (⟨(7 * x.s + n) / 8, (3 * x.v + -(x.s - n)) / 4, clp ((7 * x.s + n) / 8 + 4 * ((3 * x.v + -(x.s - n)) / 4)) 4 64, 0, x.c, x.t, x.a⟩ : Wy).a)
    have HZ : Up w _ := Below.out HU4.out HA.2 (fun k hk => by rw [hk, HP.out]; omega) HU4.out.size
    exact bodyPost_ret (results_row_tmp (fn := Try.f10) (p := 4) (u := 5) (ty := 23) rfl _ _ (p + 1) 23 (⟨(7 * x.s + n) / 8, (3 * x.v + -(x.s - n)) / 4, clp ((7 * x.s + n) / 8 + 4 * ((3 * x.v + -(x.s - n)) / 4)) 4 64, 0, x.c, x.t, x.a⟩ : Wy).cs (0, 0) _ rfl HT.1 Try.underlying23 rfl rfl) rfl ⟨rfl, Lib.hid (Below.out HZ HT.2 (fun k hk => by rw [hk, HP.out]; omega) HZ.size)⟩
set_option maxRecDepth 100000 in
set_option maxHeartbeats 4000000 in
theorem rmeas_3 (x : Wy) (n : Int) (h : x.Ok) (h2 : 0 ≤ n) (h3 : n ≤ 1099511627776) (h4 : x.s = 0) (h5 : ¬ x.v = 0) (h6 : ¬ x.s - n < 0) (w : World) : Calls Try.prog 10 #[.agg x.cs, .int .i64 n] w (WRes (⟨(7 * x.s + n) / 8, (3 * x.v + (x.s - n)) / 4, clp ((7 * x.s + n) / 8 + 4 * ((3 * x.v + (x.s - n)) / 4)) 4 64, 0, x.c, x.t, x.a⟩ : Wy) 0 w) := by
  have HS := okc_t x h
  obtain ⟨⟨a1, a2⟩, ⟨b1, b2⟩, ⟨c1, c2⟩, ⟨d1, d2⟩, ⟨e1, e2⟩, ⟨f1, f2⟩, ⟨g1, g2⟩⟩ := h
  have n1 : decide (n < 0) = false := decide_eq_false (by omega)
  have n2 : decide (n > 1099511627776) = false := decide_eq_false (by omega)
  have t1 : (x.s == 0) = true := by simp [h4]
  have t2 : (x.v == 0) = false := by simp [h5]
  clear h4 h5
  have t3 : decide (x.s - n < 0) = false := decide_eq_false h6
  have hb0 := new_at w (.cells x.cs 23)
  have hb0 := (((up_alloc (w.alloc (.cells x.cs 23)) (.cells #[.int .i64 0, .int .i64 0, .int .i64 0, .int .i64 0, .int .i64 0, .int .i64 0, .int .i64 0] 23)).block _ (lt_of_blk hb0)).trans hb0)
  have hs1 : (w.alloc (.cells x.cs 23)).heap.size = w.heap.size + 1 := by simp
  have hb1 := new_at (w.alloc (.cells x.cs 23)) (.cells #[.int .i64 0, .int .i64 0, .int .i64 0, .int .i64 0, .int .i64 0, .int .i64 0, .int .i64 0] 23)
  rw [hs1] at hb1
  have hu : Up w ((w.alloc (.cells x.cs 23)).alloc (.cells #[.int .i64 0, .int .i64 0, .int .i64 0, .int .i64 0, .int .i64 0, .int .i64 0, .int .i64 0] 23)) := (up_alloc w (.cells x.cs 23)).trans (up_alloc (w.alloc (.cells x.cs 23)) (.cells #[.int .i64 0, .int .i64 0, .int .i64 0, .int .i64 0, .int .i64 0, .int .i64 0, .int .i64 0] 23))
  change ((w.alloc (.cells x.cs 23)).alloc (.cells #[.int .i64 0, .int .i64 0, .int .i64 0, .int .i64 0, .int .i64 0, .int .i64 0, .int .i64 0] 23)).heap[w.heap.size]? = _ at hb0
  have HM0 := Lib.hid hb0
  change ((w.alloc (.cells x.cs 23)).alloc (.cells #[.int .i64 0, .int .i64 0, .int .i64 0, .int .i64 0, .int .i64 0, .int .i64 0, .int .i64 0] 23)).heap[w.heap.size + 1]? = _ at hb1
  have HM1 := Lib.hid hb1
  have HU1 := Lib.hid hu
  clear hu hb0 hb1 hs1
  try clear hb0
  go_enter Try.func10, Try.ntmps10
  go_upto_region 1 with (fail)
  generalize ((w.alloc (.cells x.cs 23)).alloc (.cells #[.int .i64 0, .int .i64 0, .int .i64 0, .int .i64 0, .int .i64 0, .int .i64 0, .int .i64 0] 23)) = w2 at HM0 HM1 HU1 ⊢
  obtain ⟨p, hp⟩ : ∃ p, p = w.heap.size := ⟨_, rfl⟩
  rw [← hp] at HM0 HM1 ⊢
  have HP := Lib.hid hp
  clear hp
  have k0 : w2.cell? ⟨p, 0, none⟩ = some (.int .i64 x.s) := cell_of HM0.out rfl
  have k1 : w2.cell? ⟨p, 1, none⟩ = some (.int .i64 x.v) := cell_of HM0.out rfl
  have k2 : w2.cell? ⟨p, 2, none⟩ = some (.int .i64 x.r) := cell_of HM0.out rfl
  have k3 : w2.cell? ⟨p, 3, none⟩ = some (.int .i64 x.e) := cell_of HM0.out rfl
  have k4 : w2.cell? ⟨p, 4, none⟩ = some (.int .i64 x.c) := cell_of HM0.out rfl
  have k5 : w2.cell? ⟨p, 5, none⟩ = some (.int .i64 x.t) := cell_of HM0.out rfl
  have k6 : w2.cell? ⟨p, 6, none⟩ = some (.int .i64 x.a) := cell_of HM0.out rfl
  go_wp2_with fail
  refine (HS _).mono ?_
  rintro e w3 ⟨rfl, HU3⟩
  have hm3 := (HU3.out.block _ (lt_of_blk HM1.out)).trans HM1.out
  have hm4 := (HU3.out.block _ (lt_of_blk HM0.out)).trans HM0.out
  have HU4 := Lib.hid (HU1.out.trans HU3.out)
  have HM3 := Lib.hid hm3
  have HM4 := Lib.hid hm4
  have f3 : ∀ j, w3.frozen? ⟨p + 1, j, none⟩ = false := fun j => frozen_at hm3
  have q0 : w3.cell? ⟨p + 1, 0, none⟩ = some (.int .i64 0) := cell_of hm3 rfl
  have q1 : w3.cell? ⟨p + 1, 1, none⟩ = some (.int .i64 0) := cell_of hm3 rfl
  have q2 : w3.cell? ⟨p + 1, 2, none⟩ = some (.int .i64 0) := cell_of hm3 rfl
  have q3 : w3.cell? ⟨p + 1, 3, none⟩ = some (.int .i64 0) := cell_of hm3 rfl
  have q4 : w3.cell? ⟨p + 1, 4, none⟩ = some (.int .i64 0) := cell_of hm3 rfl
  have q5 : w3.cell? ⟨p + 1, 5, none⟩ = some (.int .i64 0) := cell_of hm3 rfl
  have q6 : w3.cell? ⟨p + 1, 6, none⟩ = some (.int .i64 0) := cell_of hm3 rfl
  clear k0 k1 k2 k3 k4 k5 k6
  have k0 : w3.cell? ⟨p, 0, none⟩ = some (.int .i64 x.s) := cell_of hm4 rfl
  have k1 : w3.cell? ⟨p, 1, none⟩ = some (.int .i64 x.v) := cell_of hm4 rfl
  have k2 : w3.cell? ⟨p, 2, none⟩ = some (.int .i64 x.r) := cell_of hm4 rfl
  have k3 : w3.cell? ⟨p, 3, none⟩ = some (.int .i64 x.e) := cell_of hm4 rfl
  have k4 : w3.cell? ⟨p, 4, none⟩ = some (.int .i64 x.c) := cell_of hm4 rfl
  have k5 : w3.cell? ⟨p, 5, none⟩ = some (.int .i64 x.t) := cell_of hm4 rfl
  have k6 : w3.cell? ⟨p, 6, none⟩ = some (.int .i64 x.a) := cell_of hm4 rfl
  have f4 : ∀ j, w3.frozen? ⟨p, j, none⟩ = false := fun j => frozen_at hm4
  clear hm3 hm4 HM0 HM1 HS
  go_wp2_with (go_at_call 28; with_reducible refine (clip_any _ _ _ _).mono ?_; rintro e wk ⟨rfl, rfl⟩)
  all_goals
    have HA := ((((Tr.refl HM4.out).set 1 (.int .i64 ((3 * x.v + (x.s - n)) / 4))).set 0 (.int .i64 ((7 * x.s + n) / 8))).set 2 (.int .i64 (clp ((7 * x.s + n) / 8 + 4 * ((3 * x.v + (x.s - n)) / 4)) 4 64))).set 3 (.int .i64 0)
    have HB := Tr.refl (HA.2.blk HM3.out (by omega))
    have HT := ((((((HB.set 0 (.int .i64 (⟨(7 * x.s + n) / 8, (3 * x.v + (x.s - n)) / 4, clp ((7 * x.s + n) / 8 + 4 * ((3 * x.v + (x.s - n)) / 4)) 4 64, 0, x.c, x.t, x.a⟩ : Wy).s)).set 1 (.int .i64 (⟨(7 * x.s + n) / 8, (3 * x.v + (x.s - n)) / 4, clp ((7 * x.s + n) / 8 + 4 * ((3 * x.v + (x.s - n)) / 4)) 4 64, 0, x.c, x.t, x.a⟩ : Wy).v)).set 2 (.int .i64 (⟨(7 * x.s + n) / 8, (3 * x.v + (x.s - n)) / 4, clp ((7 * x.s + n) / 8 + 4 * ((3 * x.v + (x.s - n)) / 4)) 4 64, 0, x.c, x.t, x.a⟩ : Wy).r)).set 3 (.int .i64 (⟨(7 * x.s + n) / 8, (3 * x.v + (x.s - n)) / 4, clp ((7 * x.s + n) / 8 + 4 * ((3 * x.v + (x.s - n)) / 4)) 4 64, 0, x.c, x.t, x.a⟩ : Wy).e)).set 4 (.int .i64 (⟨(7 * x.s + n) / 8, (3 * x.v + (x.s - n)) / 4, clp ((7 * x.s + n) / 8 + 4 * ((3 * x.v + (x.s - n)) / 4)) 4 64, 0, x.c, x.t, x.a⟩ : Wy).c)).set 5 (.int .i64 (⟨(7 * x.s + n) / 8, (3 * x.v + (x.s - n)) / 4, clp ((7 * x.s + n) / 8 + 4 * ((3 * x.v + (x.s - n)) / 4)) 4 64, 0, x.c, x.t, x.a⟩ : Wy).t)).set 6 (.int .i64 (⟨(7 * x.s + n) / 8, (3 * x.v + (x.s - n)) / 4, clp ((7 * x.s + n) / 8 + 4 * ((3 * x.v + (x.s - n)) / 4)) 4 64, 0, x.c, x.t, x.a⟩ : Wy).a)
    have HZ : Up w _ := Below.out HU4.out HA.2 (fun k hk => by rw [hk, HP.out]; omega) HU4.out.size
    exact bodyPost_ret (results_row_tmp (fn := Try.f10) (p := 4) (u := 5) (ty := 23) rfl _ _ (p + 1) 23 (⟨(7 * x.s + n) / 8, (3 * x.v + (x.s - n)) / 4, clp ((7 * x.s + n) / 8 + 4 * ((3 * x.v + (x.s - n)) / 4)) 4 64, 0, x.c, x.t, x.a⟩ : Wy).cs (0, 0) _ rfl HT.1 Try.underlying23 rfl rfl) rfl ⟨rfl, Lib.hid (Below.out HZ HT.2 (fun k hk => by rw [hk, HP.out]; omega) HZ.size)⟩
set_option maxRecDepth 100000 in
set_option maxHeartbeats 4000000 in
theorem rmeas_4 (x : Wy) (n : Int) (h : x.Ok) (h2 : 0 ≤ n) (h3 : n ≤ 1099511627776) (h4 : ¬ x.s = 0) (h6 : ¬ x.s - n < 0) (w : World) : Calls Try.prog 10 #[.agg x.cs, .int .i64 n] w (WRes (⟨(7 * x.s + n) / 8, (3 * x.v + (x.s - n)) / 4, clp ((7 * x.s + n) / 8 + 4 * ((3 * x.v + (x.s - n)) / 4)) 4 64, 0, x.c, x.t, x.a⟩ : Wy) 0 w) := by
  have HS := okc_t x h
  obtain ⟨⟨a1, a2⟩, ⟨b1, b2⟩, ⟨c1, c2⟩, ⟨d1, d2⟩, ⟨e1, e2⟩, ⟨f1, f2⟩, ⟨g1, g2⟩⟩ := h
  have n1 : decide (n < 0) = false := decide_eq_false (by omega)
  have n2 : decide (n > 1099511627776) = false := decide_eq_false (by omega)
  have t1 : (x.s == 0) = false := by simp [h4]
  clear h4
  have t3 : decide (x.s - n < 0) = false := decide_eq_false h6
  have hb0 := new_at w (.cells x.cs 23)
  have hb0 := (((up_alloc (w.alloc (.cells x.cs 23)) (.cells #[.int .i64 0, .int .i64 0, .int .i64 0, .int .i64 0, .int .i64 0, .int .i64 0, .int .i64 0] 23)).block _ (lt_of_blk hb0)).trans hb0)
  have hs1 : (w.alloc (.cells x.cs 23)).heap.size = w.heap.size + 1 := by simp
  have hb1 := new_at (w.alloc (.cells x.cs 23)) (.cells #[.int .i64 0, .int .i64 0, .int .i64 0, .int .i64 0, .int .i64 0, .int .i64 0, .int .i64 0] 23)
  rw [hs1] at hb1
  have hu : Up w ((w.alloc (.cells x.cs 23)).alloc (.cells #[.int .i64 0, .int .i64 0, .int .i64 0, .int .i64 0, .int .i64 0, .int .i64 0, .int .i64 0] 23)) := (up_alloc w (.cells x.cs 23)).trans (up_alloc (w.alloc (.cells x.cs 23)) (.cells #[.int .i64 0, .int .i64 0, .int .i64 0, .int .i64 0, .int .i64 0, .int .i64 0, .int .i64 0] 23))
  change ((w.alloc (.cells x.cs 23)).alloc (.cells #[.int .i64 0, .int .i64 0, .int .i64 0, .int .i64 0, .int .i64 0, .int .i64 0, .int .i64 0] 23)).heap[w.heap.size]? = _ at hb0
  have HM0 := Lib.hid hb0
  change ((w.alloc (.cells x.cs 23)).alloc (.cells #[.int .i64 0, .int .i64 0, .int .i64 0, .int .i64 0, .int .i64 0, .int .i64 0, .int .i64 0] 23)).heap[w.heap.size + 1]? = _ at hb1
  have HM1 := Lib.hid hb1
  have HU1 := Lib.hid hu
  clear hu hb0 hb1 hs1
  try clear hb0
  go_enter Try.func10, Try.ntmps10
  go_upto_region 1 with (fail)
  generalize ((w.alloc (.cells x.cs 23)).alloc (.cells #[.int .i64 0, .int .i64 0, .int .i64 0, .int .i64 0, .int .i64 0, .int .i64 0, .int .i64 0] 23)) = w2 at HM0 HM1 HU1 ⊢
  obtain ⟨p, hp⟩ : ∃ p, p = w.heap.size := ⟨_, rfl⟩
  rw [← hp] at HM0 HM1 ⊢
  have HP := Lib.hid hp
  clear hp
  have k0 : w2.cell? ⟨p, 0, none⟩ = some (.int .i64 x.s) := cell_of HM0.out rfl
  have k1 : w2.cell? ⟨p, 1, none⟩ = some (.int .i64 x.v) := cell_of HM0.out rfl
  have k2 : w2.cell? ⟨p, 2, none⟩ = some (.int .i64 x.r) := cell_of HM0.out rfl
  have k3 : w2.cell? ⟨p, 3, none⟩ = some (.int .i64 x.e) := cell_of HM0.out rfl
  have k4 : w2.cell? ⟨p, 4, none⟩ = some (.int .i64 x.c) := cell_of HM0.out rfl
  have k5 : w2.cell? ⟨p, 5, none⟩ = some (.int .i64 x.t) := cell_of HM0.out rfl
  have k6 : w2.cell? ⟨p, 6, none⟩ = some (.int .i64 x.a) := cell_of HM0.out rfl
  go_wp2_with fail
  refine (HS _).mono ?_
  rintro e w3 ⟨rfl, HU3⟩
  have hm3 := (HU3.out.block _ (lt_of_blk HM1.out)).trans HM1.out
  have hm4 := (HU3.out.block _ (lt_of_blk HM0.out)).trans HM0.out
  have HU4 := Lib.hid (HU1.out.trans HU3.out)
  have HM3 := Lib.hid hm3
  have HM4 := Lib.hid hm4
  have f3 : ∀ j, w3.frozen? ⟨p + 1, j, none⟩ = false := fun j => frozen_at hm3
  have q0 : w3.cell? ⟨p + 1, 0, none⟩ = some (.int .i64 0) := cell_of hm3 rfl
  have q1 : w3.cell? ⟨p + 1, 1, none⟩ = some (.int .i64 0) := cell_of hm3 rfl
  have q2 : w3.cell? ⟨p + 1, 2, none⟩ = some (.int .i64 0) := cell_of hm3 rfl
  have q3 : w3.cell? ⟨p + 1, 3, none⟩ = some (.int .i64 0) := cell_of hm3 rfl
  have q4 : w3.cell? ⟨p + 1, 4, none⟩ = some (.int .i64 0) := cell_of hm3 rfl
  have q5 : w3.cell? ⟨p + 1, 5, none⟩ = some (.int .i64 0) := cell_of hm3 rfl
  have q6 : w3.cell? ⟨p + 1, 6, none⟩ = some (.int .i64 0) := cell_of hm3 rfl
  clear k0 k1 k2 k3 k4 k5 k6
  have k0 : w3.cell? ⟨p, 0, none⟩ = some (.int .i64 x.s) := cell_of hm4 rfl
  have k1 : w3.cell? ⟨p, 1, none⟩ = some (.int .i64 x.v) := cell_of hm4 rfl
  have k2 : w3.cell? ⟨p, 2, none⟩ = some (.int .i64 x.r) := cell_of hm4 rfl
  have k3 : w3.cell? ⟨p, 3, none⟩ = some (.int .i64 x.e) := cell_of hm4 rfl
  have k4 : w3.cell? ⟨p, 4, none⟩ = some (.int .i64 x.c) := cell_of hm4 rfl
  have k5 : w3.cell? ⟨p, 5, none⟩ = some (.int .i64 x.t) := cell_of hm4 rfl
  have k6 : w3.cell? ⟨p, 6, none⟩ = some (.int .i64 x.a) := cell_of hm4 rfl
  have f4 : ∀ j, w3.frozen? ⟨p, j, none⟩ = false := fun j => frozen_at hm4
  clear hm3 hm4 HM0 HM1 HS
  go_wp2_with (go_at_call 28; with_reducible refine (clip_any _ _ _ _).mono ?_; rintro e wk ⟨rfl, rfl⟩)
  all_goals
    have HA := ((((Tr.refl HM4.out).set 1 (.int .i64 ((3 * x.v + (x.s - n)) / 4))).set 0 (.int .i64 ((7 * x.s + n) / 8))).set 2 (.int .i64 (clp ((7 * x.s + n) / 8 + 4 * ((3 * x.v + (x.s - n)) / 4)) 4 64))).set 3 (.int .i64 0)
    have HB := Tr.refl (HA.2.blk HM3.out (by omega))
    have HT := ((((((HB.set 0 (.int .i64 (⟨(7 * x.s + n) / 8, (3 * x.v + (x.s - n)) / 4, clp ((7 * x.s + n) / 8 + 4 * ((3 * x.v + (x.s - n)) / 4)) 4 64, 0, x.c, x.t, x.a⟩ : Wy).s)).set 1 (.int .i64 (⟨(7 * x.s + n) / 8, (3 * x.v + (x.s - n)) / 4, clp ((7 * x.s + n) / 8 + 4 * ((3 * x.v + (x.s - n)) / 4)) 4 64, 0, x.c, x.t, x.a⟩ : Wy).v)).set 2 (.int .i64 (⟨(7 * x.s + n) / 8, (3 * x.v + (x.s - n)) / 4, clp ((7 * x.s + n) / 8 + 4 * ((3 * x.v + (x.s - n)) / 4)) 4 64, 0, x.c, x.t, x.a⟩ : Wy).r)).set 3 (.int .i64 (⟨(7 * x.s + n) / 8, (3 * x.v + (x.s - n)) / 4, clp ((7 * x.s + n) / 8 + 4 * ((3 * x.v + (x.s - n)) / 4)) 4 64, 0, x.c, x.t, x.a⟩ : Wy).e)).set 4 (.int .i64 (⟨(7 * x.s + n) / 8, (3 * x.v + (x.s - n)) / 4, clp ((7 * x.s + n) / 8 + 4 * ((3 * x.v + (x.s - n)) / 4)) 4 64, 0, x.c, x.t, x.a⟩ : Wy).c)).set 5 (.int .i64 (⟨(7 * x.s + n) / 8, (3 * x.v + (x.s - n)) / 4, clp ((7 * x.s + n) / 8 + 4 * ((3 * x.v + (x.s - n)) / 4)) 4 64, 0, x.c, x.t, x.a⟩ : Wy).t)).set 6 (.int .i64 (⟨(7 * x.s + n) / 8, (3 * x.v + (x.s - n)) / 4, clp ((7 * x.s + n) / 8 + 4 * ((3 * x.v + (x.s - n)) / 4)) 4 64, 0, x.c, x.t, x.a⟩ : Wy).a)
    have HZ : Up w _ := Below.out HU4.out HA.2 (fun k hk => by rw [hk, HP.out]; omega) HU4.out.size
    exact bodyPost_ret (results_row_tmp (fn := Try.f10) (p := 4) (u := 5) (ty := 23) rfl _ _ (p + 1) 23 (⟨(7 * x.s + n) / 8, (3 * x.v + (x.s - n)) / 4, clp ((7 * x.s + n) / 8 + 4 * ((3 * x.v + (x.s - n)) / 4)) 4 64, 0, x.c, x.t, x.a⟩ : Wy).cs (0, 0) _ rfl HT.1 Try.underlying23 rfl rfl) rfl ⟨rfl, Lib.hid (Below.out HZ HT.2 (fun k hk => by rw [hk, HP.out]; omega) HZ.size)⟩
theorem rmeas_any (x : Wy) (n : Int) (w : World) : Calls Try.prog 10 #[.agg x.cs, .int .i64 n] w (WR (measOf x n) w) := by
  unfold measOf
  by_cases h : x.Ok
  · rw [if_pos h]
    by_cases h2 : 0 ≤ n ∧ n ≤ 1099511627776
    · rw [if_pos h2]
      obtain ⟨h2, h3⟩ := h2
      by_cases h4 : x.s = 0 ∧ x.v = 0
      · have e : (⟨n, n / 2, clp (n + 4 * (n / 2)) 4 64, 0, x.c, x.t, x.a⟩ : Wy) = measW x n := by
          rw [measW, if_pos h4]
          refine wy_ext rfl rfl ?_ rfl rfl rfl rfl
          dsimp only; unfold clp; omega
        have := rmeas_0 x n h h2 h3 h4.1 h4.2 w
        rw [e] at this
        exact this
      · have e : ∀ d : Int, d = dst x.s n → (⟨(7 * x.s + n) / 8, (3 * x.v + d) / 4, clp ((7 * x.s + n) / 8 + 4 * ((3 * x.v + d) / 4)) 4 64, 0, x.c, x.t, x.a⟩ : Wy) = measW x n := by
          rintro d rfl
          rw [measW, if_neg h4]
          refine wy_ext rfl rfl ?_ rfl rfl rfl rfl
          dsimp only; unfold clp; omega
        by_cases h6 : x.s - n < 0
        · have e1 := e (-(x.s - n)) (by unfold dst; omega)
          by_cases h5 : x.s = 0
          · have := rmeas_1 x n h h2 h3 h5 (fun h => h4 ⟨h5, h⟩) h6 w
            rw [e1] at this
            exact this
          · have := rmeas_2 x n h h2 h3 h5 h6 w
            rw [e1] at this
            exact this
        · have e1 := e (x.s - n) (by unfold dst; omega)
          by_cases h5 : x.s = 0
          · have := rmeas_3 x n h h2 h3 h5 (fun h => h4 ⟨h5, h⟩) h6 w
            rw [e1] at this
            exact this
          · have := rmeas_4 x n h h2 h3 h5 h6 w
            rw [e1] at this
            exact this
    · rw [if_neg h2]
      by_cases h3 : n < 0
      · exact rmeas_l x n h h3 w
      · exact rmeas_h x n h (by omega) w
  · rw [if_neg h]
    exact rmeas_f x n h w
end Go.Proofs.Ytahpejcejbgcpaa
