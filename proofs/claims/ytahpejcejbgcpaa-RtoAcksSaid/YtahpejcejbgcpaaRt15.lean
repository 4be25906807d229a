import Derived.Test.YtahpejcejbgcpaaRt13
namespace Go.Proofs.Ytahpejcejbgcpaa
open Go Go.RowKit
set_option linter.unusedVariables false
set_option linter.unusedSimpArgs false
set_option maxRecDepth 100000 in
set_option maxHeartbeats 4000000 in
theorem rack_f (x : Wy) (n : Int) (full : Bool) (h : ¬ x.Ok) (w : World) : Calls Try.prog 19 #[.agg x.cs, .int .i64 n, .bool full] w (WRes W0 2 w) := by
  have HS := okc_f x h
  clear h
  have hb0 := new_at w (.cells x.cs 23)
  have hb0 := (((up_alloc (w.alloc (.cells x.cs 23)) (.cells #[.int .i64 0, .int .i64 0, .int .i64 0, .int .i64 0, .int .i64 0, .int .i64 0, .int .i64 0] 23)).block _ (lt_of_blk hb0)).trans hb0)
  have hs1 : (w.alloc (.cells x.cs 23)).heap.size = w.heap.size + 1 := by simp
  have hb1 := new_at (w.alloc (.cells x.cs 23)) (.cells #[.int .i64 0, .int .i64 0, .int .i64 0, .int .i64 0, .int .i64 0, .int .i64 0, .int .i64 0] 23)
  rw [hs1] at hb1
  have hu : Up w ((w.alloc (.cells x.cs 23)).alloc (.cells #[.int .i64 0, .int .i64 0, .int .i64 0, .int .i64 0, .int .i64 0, .int .i64 0, .int .i64 0] 23)) := (up_alloc w (.cells x.cs 23)).trans (up_alloc (w.alloc (.cells x.cs 23)) (.cells #[.int .i64 0, .int .i64 0, .int .i64 0, .int .i64 0, .int .i64 0, .int .i64 0, .int .i64 0] 23))
  change ((w.alloc (.cells x.cs 23)).alloc (.cells #[.int .i64 0, .int .i64 0, .int .i64 0, .int .i64 0, .int .i64 0, .int .i64 0, .int .i64 0] 23)).heap[w.heap.size]? = _ at hb0
  have HM0 := Lib.hid hb0
  change ((w.alloc (.cells x.cs 23)).alloc (.cells #[.int .i64 0, .int .i64 0, .int .i64 0, .int .i64 0, .int .i64 0, .int .i64 0, .int .i64 0] 23)).heap[w.heap.size + 1]? = _ at hb1
  have HM1 := Lib.hid hb1
  have HU1 := Lib.hid hu
  clear hu hb0 hb1 hs1
  try clear hb0
  go_enter Try.func19, Try.ntmps19
  go_upto_region 1 with (fail)
  generalize ((w.alloc (.cells x.cs 23)).alloc (.cells #[.int .i64 0, .int .i64 0, .int .i64 0, .int .i64 0, .int .i64 0, .int .i64 0, .int .i64 0] 23)) = w2 at HM0 HM1 HU1 ⊢
  obtain ⟨p, hp⟩ : ∃ p, p = w.heap.size := ⟨_, rfl⟩
  rw [← hp] at HM0 HM1 ⊢
  have HP := Lib.hid hp
  clear hp
  have k0 : w2.cell? ⟨p, 0, none⟩ = some (.int .i64 x.s) := cell_of HM0.out rfl
  have k1 : w2.cell? ⟨p, 1, none⟩ = some (.int .i64 x.v) := cell_of HM0.out rfl
  have k2 : w2.cell? ⟨p, 2, none⟩ = some (.int .i64 x.r) := cell_of HM0.out rfl
  have k3 : w2.cell? ⟨p, 3, none⟩ = some (.int .i64 x.e) := cell_of HM0.out rfl
  have k4 : w2.cell? ⟨p, 4, none⟩ = some (.int .i64 x.c) := cell_of HM0.out rfl
  have k5 : w2.cell? ⟨p, 5, none⟩ = some (.int .i64 x.t) := cell_of HM0.out rfl
  have k6 : w2.cell? ⟨p, 6, none⟩ = some (.int .i64 x.a) := cell_of HM0.out rfl
  go_wp2_with fail
  refine (HS _).mono ?_
  rintro e w3 ⟨rfl, HU3⟩
  have hm3 := (HU3.out.block _ (lt_of_blk HM1.out)).trans HM1.out
  have HU4 := Lib.hid (HU1.out.trans HU3.out)
  have HM3 := Lib.hid hm3
  have f3 : ∀ j, w3.frozen? ⟨p + 1, j, none⟩ = false := fun j => frozen_at hm3
  have q0 : w3.cell? ⟨p + 1, 0, none⟩ = some (.int .i64 0) := cell_of hm3 rfl
  have q1 : w3.cell? ⟨p + 1, 1, none⟩ = some (.int .i64 0) := cell_of hm3 rfl
  have q2 : w3.cell? ⟨p + 1, 2, none⟩ = some (.int .i64 0) := cell_of hm3 rfl
  have q3 : w3.cell? ⟨p + 1, 3, none⟩ = some (.int .i64 0) := cell_of hm3 rfl
  have q4 : w3.cell? ⟨p + 1, 4, none⟩ = some (.int .i64 0) := cell_of hm3 rfl
  have q5 : w3.cell? ⟨p + 1, 5, none⟩ = some (.int .i64 0) := cell_of hm3 rfl
  have q6 : w3.cell? ⟨p + 1, 6, none⟩ = some (.int .i64 0) := cell_of hm3 rfl
  clear k0 k1 k2 k3 k4 k5 k6
  clear hm3
  go_wp2_with fail
  have HT := ((((((((Tr.refl HM3.out).set 0 (.int .i64 W0.s)).set 1 (.int .i64 W0.v)).set 2 (.int .i64 W0.r)).set 3 (.int .i64 W0.e)).set 4 (.int .i64 W0.c)).set 5 (.int .i64 W0.t)).set 6 (.int .i64 W0.a))
  refine bodyPost_ret (results_row_tmp (fn := Try.f19) (p := 6) (u := 7) (ty := 23) rfl _ _ (p + 1) 23 W0.cs (0, 0) _ rfl HT.1 Try.underlying23 rfl rfl) rfl ⟨rfl, Lib.hid (Below.out HU4.out HT.2 (fun k hk => by rw [hk, HP.out]; omega) (HU4.out).size)⟩
set_option maxRecDepth 100000 in
set_option maxHeartbeats 4000000 in
theorem rack_l (x : Wy) (n : Int) (full : Bool) (h : x.Ok) (h2 : n < 0) (w : World) : Calls Try.prog 19 #[.agg x.cs, .int .i64 n, .bool full] w (WRes W0 1 w) := by
  have HS := okc_t x h
  clear h
  have n1 : decide (n < 0) = true := decide_eq_true h2
  clear h2
  have hb0 := new_at w (.cells x.cs 23)
  have hb0 := (((up_alloc (w.alloc (.cells x.cs 23)) (.cells #[.int .i64 0, .int .i64 0, .int .i64 0, .int .i64 0, .int .i64 0, .int .i64 0, .int .i64 0] 23)).block _ (lt_of_blk hb0)).trans hb0)
  have hs1 : (w.alloc (.cells x.cs 23)).heap.size = w.heap.size + 1 := by simp
  have hb1 := new_at (w.alloc (.cells x.cs 23)) (.cells #[.int .i64 0, .int .i64 0, .int .i64 0, .int .i64 0, .int .i64 0, .int .i64 0, .int .i64 0] 23)
  rw [hs1] at hb1
  have hu : Up w ((w.alloc (.cells x.cs 23)).alloc (.cells #[.int .i64 0, .int .i64 0, .int .i64 0, .int .i64 0, .int .i64 0, .int .i64 0, .int .i64 0] 23)) := (up_alloc w (.cells x.cs 23)).trans (up_alloc (w.alloc (.cells x.cs 23)) (.cells #[.int .i64 0, .int .i64 0, .int .i64 0, .int .i64 0, .int .i64 0, .int .i64 0, .int .i64 0] 23))
  change ((w.alloc (.cells x.cs 23)).alloc (.cells #[.int .i64 0, .int .i64 0, .int .i64 0, .int .i64 0, .int .i64 0, .int .i64 0, .int .i64 0] 23)).heap[w.heap.size]? = _ at hb0
  have HM0 := Lib.hid hb0
  change ((w.alloc (.cells x.cs 23)).alloc (.cells #[.int .i64 0, .int .i64 0, .int .i64 0, .int .i64 0, .int .i64 0, .int .i64 0, .int .i64 0] 23)).heap[w.heap.size + 1]? = _ at hb1
  have HM1 := Lib.hid hb1
  have HU1 := Lib.hid hu
  clear hu hb0 hb1 hs1
  try clear hb0
  go_enter Try.func19, Try.ntmps19
  go_upto_region 1 with (fail)
  generalize ((w.alloc (.cells x.cs 23)).alloc (.cells #[.int .i64 0, .int .i64 0, .int .i64 0, .int .i64 0, .int .i64 0, .int .i64 0, .int .i64 0] 23)) = w2 at HM0 HM1 HU1 ⊢
  obtain ⟨p, hp⟩ : ∃ p, p = w.heap.size := ⟨_, rfl⟩
  rw [← hp] at HM0 HM1 ⊢
  have HP := Lib.hid hp
  clear hp
  have k0 : w2.cell? ⟨p, 0, none⟩ = some (.int .i64 x.s) := cell_of HM0.out rfl
  have k1 : w2.cell? ⟨p, 1, none⟩ = some (.int .i64 x.v) := cell_of HM0.out rfl
  have k2 : w2.cell? ⟨p, 2, none⟩ = some (.int .i64 x.r) := cell_of HM0.out rfl
  have k3 : w2.cell? ⟨p, 3, none⟩ = some (.int .i64 x.e) := cell_of HM0.out rfl
  have k4 : w2.cell? ⟨p, 4, none⟩ = some (.int .i64 x.c) := cell_of HM0.out rfl
  have k5 : w2.cell? ⟨p, 5, none⟩ = some (.int .i64 x.t) := cell_of HM0.out rfl
  have k6 : w2.cell? ⟨p, 6, none⟩ = some (.int .i64 x.a) := cell_of HM0.out rfl
  go_wp2_with fail
  refine (HS _).mono ?_
  rintro e w3 ⟨rfl, HU3⟩
  have hm3 := (HU3.out.block _ (lt_of_blk HM1.out)).trans HM1.out
  have HU4 := Lib.hid (HU1.out.trans HU3.out)
  have HM3 := Lib.hid hm3
  have f3 : ∀ j, w3.frozen? ⟨p + 1, j, none⟩ = false := fun j => frozen_at hm3
  have q0 : w3.cell? ⟨p + 1, 0, none⟩ = some (.int .i64 0) := cell_of hm3 rfl
  have q1 : w3.cell? ⟨p + 1, 1, none⟩ = some (.int .i64 0) := cell_of hm3 rfl
  have q2 : w3.cell? ⟨p + 1, 2, none⟩ = some (.int .i64 0) := cell_of hm3 rfl
  have q3 : w3.cell? ⟨p + 1, 3, none⟩ = some (.int .i64 0) := cell_of hm3 rfl
  have q4 : w3.cell? ⟨p + 1, 4, none⟩ = some (.int .i64 0) := cell_of hm3 rfl
  have q5 : w3.cell? ⟨p + 1, 5, none⟩ = some (.int .i64 0) := cell_of hm3 rfl
  have q6 : w3.cell? ⟨p + 1, 6, none⟩ = some (.int .i64 0) := cell_of hm3 rfl
  clear k0 k1 k2 k3 k4 k5 k6
  clear hm3
  go_wp2_with fail
  have HT := ((((((((Tr.refl HM3.out).set 0 (.int .i64 W0.s)).set 1 (.int .i64 W0.v)).set 2 (.int .i64 W0.r)).set 3 (.int .i64 W0.e)).set 4 (.int .i64 W0.c)).set 5 (.int .i64 W0.t)).set 6 (.int .i64 W0.a))
  refine bodyPost_ret (results_row_tmp (fn := Try.f19) (p := 6) (u := 7) (ty := 23) rfl _ _ (p + 1) 23 W0.cs (0, 0) _ rfl HT.1 Try.underlying23 rfl rfl) rfl ⟨rfl, Lib.hid (Below.out HU4.out HT.2 (fun k hk => by rw [hk, HP.out]; omega) (HU4.out).size)⟩
set_option maxRecDepth 100000 in
set_option maxHeartbeats 4000000 in
theorem rack_h (x : Wy) (n : Int) (full : Bool) (h : x.Ok) (h2 : 65536 < n) (w : World) : Calls Try.prog 19 #[.agg x.cs, .int .i64 n, .bool full] w (WRes W0 1 w) := by
  have HS := okc_t x h
  clear h
  have n1 : decide (n < 0) = false := decide_eq_false (by omega)
  have n2 : decide (n > 65536) = true := decide_eq_true h2
  clear h2
  have hb0 := new_at w (.cells x.cs 23)
  have hb0 := (((up_alloc (w.alloc (.cells x.cs 23)) (.cells #[.int .i64 0, .int .i64 0, .int .i64 0, .int .i64 0, .int .i64 0, .int .i64 0, .int .i64 0] 23)).block _ (lt_of_blk hb0)).trans hb0)
  have hs1 : (w.alloc (.cells x.cs 23)).heap.size = w.heap.size + 1 := by simp
  have hb1 := new_at (w.alloc (.cells x.cs 23)) (.cells #[.int .i64 0, .int .i64 0, .int .i64 0, .int .i64 0, .int .i64 0, .int .i64 0, .int .i64 0] 23)
  rw [hs1] at hb1
  have hu : Up w ((w.alloc (.cells x.cs 23)).alloc (.cells #[.int .i64 0, .int .i64 0, .int .i64 0, .int .i64 0, .int .i64 0, .int .i64 0, .int .i64 0] 23)) := (up_alloc w (.cells x.cs 23)).trans (up_alloc (w.alloc (.cells x.cs 23)) (.cells #[.int .i64 0, .int .i64 0, .int .i64 0, .int .i64 0, .int .i64 0, .int .i64 0, .int .i64 0] 23))
  change ((w.alloc (.cells x.cs 23)).alloc (.cells #[.int .i64 0, .int .i64 0, .int .i64 0, .int .i64 0, .int .i64 0, .int .i64 0, .int .i64 0] 23)).heap[w.heap.size]? = _ at hb0
  have HM0 := Lib.hid hb0
  change ((w.alloc (.cells x.cs 23)).alloc (.cells #[.int .i64 0, .int .i64 0, .int .i64 0, .int .i64 0, .int .i64 0, .int .i64 0, .int .i64 0] 23)).heap[w.heap.size + 1]? = _ at hb1
  have HM1 := Lib.hid hb1
  have HU1 := Lib.hid hu
  clear hu hb0 hb1 hs1
  try clear hb0
  go_enter Try.func19, Try.ntmps19
  go_upto_region 1 with (fail)
  generalize ((w.alloc (.cells x.cs 23)).alloc (.cells #[.int .i64 0, .int .i64 0, .int .i64 0, .int .i64 0, .int .i64 0, .int .i64 0, .int .i64 0] 23)) = w2 at HM0 HM1 HU1 ⊢
  obtain ⟨p, hp⟩ : ∃ p, p = w.heap.size := ⟨_, rfl⟩
  rw [← hp] at HM0 HM1 ⊢
  have HP := Lib.hid hp
  clear hp
  have k0 : w2.cell? ⟨p, 0, none⟩ = some (.int .i64 x.s) := cell_of HM0.out rfl
  have k1 : w2.cell? ⟨p, 1, none⟩ = some (.int .i64 x.v) := cell_of HM0.out rfl
  have k2 : w2.cell? ⟨p, 2, none⟩ = some (.int .i64 x.r) := cell_of HM0.out rfl
  have k3 : w2.cell? ⟨p, 3, none⟩ = some (.int .i64 x.e) := cell_of HM0.out rfl
  have k4 : w2.cell? ⟨p, 4, none⟩ = some (.int .i64 x.c) := cell_of HM0.out rfl
  have k5 : w2.cell? ⟨p, 5, none⟩ = some (.int .i64 x.t) := cell_of HM0.out rfl
  have k6 : w2.cell? ⟨p, 6, none⟩ = some (.int .i64 x.a) := cell_of HM0.out rfl
  go_wp2_with fail
  refine (HS _).mono ?_
  rintro e w3 ⟨rfl, HU3⟩
  have hm3 := (HU3.out.block _ (lt_of_blk HM1.out)).trans HM1.out
  have HU4 := Lib.hid (HU1.out.trans HU3.out)
  have HM3 := Lib.hid hm3
  have f3 : ∀ j, w3.frozen? ⟨p + 1, j, none⟩ = false := fun j => frozen_at hm3
  have q0 : w3.cell? ⟨p + 1, 0, none⟩ = some (.int .i64 0) := cell_of hm3 rfl
  have q1 : w3.cell? ⟨p + 1, 1, none⟩ = some (.int .i64 0) := cell_of hm3 rfl
  have q2 : w3.cell? ⟨p + 1, 2, none⟩ = some (.int .i64 0) := cell_of hm3 rfl
  have q3 : w3.cell? ⟨p + 1, 3, none⟩ = some (.int .i64 0) := cell_of hm3 rfl
  have q4 : w3.cell? ⟨p + 1, 4, none⟩ = some (.int .i64 0) := cell_of hm3 rfl
  have q5 : w3.cell? ⟨p + 1, 5, none⟩ = some (.int .i64 0) := cell_of hm3 rfl
  have q6 : w3.cell? ⟨p + 1, 6, none⟩ = some (.int .i64 0) := cell_of hm3 rfl
  clear k0 k1 k2 k3 k4 k5 k6
  clear hm3
  go_wp2_with fail
  have HT := ((((((((Tr.refl HM3.out).set 0 (.int .i64 W0.s)).set 1 (.int .i64 W0.v)).set 2 (.int .i64 W0.r)).set 3 (.int .i64 W0.e)).set 4 (.int .i64 W0.c)).set 5 (.int .i64 W0.t)).set 6 (.int .i64 W0.a))
  refine bodyPost_ret (results_row_tmp (fn := Try.f19) (p := 6) (u := 7) (ty := 23) rfl _ _ (p + 1) 23 W0.cs (0, 0) _ rfl HT.1 Try.underlying23 rfl rfl) rfl ⟨rfl, Lib.hid (Below.out HU4.out HT.2 (fun k hk => by rw [hk, HP.out]; omega) (HU4.out).size)⟩
set_option maxRecDepth 100000 in
set_option maxHeartbeats 4000000 in
theorem rack_0 (x : Wy) (n : Int) (full : Bool) (h : x.Ok) (h2 : 0 ≤ n) (h3 : n ≤ 65536) (h4 : n = 0) (w : World) : Calls Try.prog 19 #[.agg x.cs, .int .i64 n, .bool full] w (WRes (⟨x.s, x.v, x.r, x.e, x.c, x.t, x.a⟩ : Wy) 0 w) := by
  have HS := okc_t x h
  obtain ⟨⟨a1, a2⟩, ⟨b1, b2⟩, ⟨c1, c2⟩, ⟨d1, d2⟩, ⟨e1, e2⟩, ⟨f1, f2⟩, ⟨g1, g2⟩⟩ := h
  have n1 : decide (n < 0) = false := decide_eq_false (by omega)
  have n2 : decide (n > 65536) = false := decide_eq_false (by omega)
  have t1 : (n == 0) = true := by simp [h4]
  clear h4
  have hb0 := new_at w (.cells x.cs 23)
  have hb0 := (((up_alloc (w.alloc (.cells x.cs 23)) (.cells #[.int .i64 0, .int .i64 0, .int .i64 0, .int .i64 0, .int .i64 0, .int .i64 0, .int .i64 0] 23)).block _ (lt_of_blk hb0)).trans hb0)
  have hs1 : (w.alloc (.cells x.cs 23)).heap.size = w.heap.size + 1 := by simp
  have hb1 := new_at (w.alloc (.cells x.cs 23)) (.cells #[.int .i64 0, .int .i64 0, .int .i64 0, .int .i64 0, .int .i64 0, .int .i64 0, .int .i64 0] 23)
  rw [hs1] at hb1
  have hu : Up w ((w.alloc (.cells x.cs 23)).alloc (.cells #[.int .i64 0, .int .i64 0, .int .i64 0, .int .i64 0, .int .i64 0, .int .i64 0, .int .i64 0] 23)) := (up_alloc w (.cells x.cs 23)).trans (up_alloc (w.alloc (.cells x.cs 23)) (.cells #[.int .i64 0, .int .i64 0, .int .i64 0, .int .i64 0, .int .i64 0, .int .i64 0, .int .i64 0] 23))
  change ((w.alloc (.cells x.cs 23)).alloc (.cells #[.int .i64 0, .int .i64 0, .int .i64 0, .int .i64 0, .int .i64 0, .int .i64 0, .int .i64 0] 23)).heap[w.heap.size]? = _ at hb0
  have HM0 := Lib.hid hb0
  change ((w.alloc (.cells x.cs 23)).alloc (.cells #[.int .i64 0, .int .i64 0, .int .i64 0, .int .i64 0, .int .i64 0, .int .i64 0, .int .i64 0] 23)).heap[w.heap.size + 1]? = _ at hb1
  have HM1 := Lib.hid hb1
  have HU1 := Lib.hid hu
  clear hu hb0 hb1 hs1
  try clear hb0
  go_enter Try.func19, Try.ntmps19
  go_upto_region 1 with (fail)
  generalize ((w.alloc (.cells x.cs 23)).alloc (.cells #[.int .i64 0, .int .i64 0, .int .i64 0, .int .i64 0, .int .i64 0, .int .i64 0, .int .i64 0] 23)) = w2 at HM0 HM1 HU1 ⊢
  obtain ⟨p, hp⟩ : ∃ p, p = w.heap.size := ⟨_, rfl⟩
  rw [← hp] at HM0 HM1 ⊢
  have HP := Lib.hid hp
  clear hp
  have k0 : w2.cell? ⟨p, 0, none⟩ = some (.int .i64 x.s) := cell_of HM0.out rfl
  have k1 : w2.cell? ⟨p, 1, none⟩ = some (.int .i64 x.v) := cell_of HM0.out rfl
  have k2 : w2.cell? ⟨p, 2, none⟩ = some (.int .i64 x.r) := cell_of HM0.out rfl
  have k3 : w2.cell? ⟨p, 3, none⟩ = some (.int .i64 x.e) := cell_of HM0.out rfl
  have k4 : w2.cell? ⟨p, 4, none⟩ = some (.int .i64 x.c) := cell_of HM0.out rfl
  have k5 : w2.cell? ⟨p, 5, none⟩ = some (.int .i64 x.t) := cell_of HM0.out rfl
  have k6 : w2.cell? ⟨p, 6, none⟩ = some (.int .i64 x.a) := cell_of HM0.out rfl
  go_wp2_with fail
  refine (HS _).mono ?_
  rintro e w3 ⟨rfl, HU3⟩
  have hm3 := (HU3.out.block _ (lt_of_blk HM1.out)).trans HM1.out
  have hm4 := (HU3.out.block _ (lt_of_blk HM0.out)).trans HM0.out
  have HU4 := Lib.hid (HU1.out.trans HU3.out)
  have HM3 := Lib.hid hm3
  have HM4 := Lib.hid hm4
  have f3 : ∀ j, w3.frozen? ⟨p + 1, j, none⟩ = false := fun j => frozen_at hm3
  have q0 : w3.cell? ⟨p + 1, 0, none⟩ = some (.int .i64 0) := cell_of hm3 rfl
  have q1 : w3.cell? ⟨p + 1, 1, none⟩ = some (.int .i64 0) := cell_of hm3 rfl
  have q2 : w3.cell? ⟨p + 1, 2, none⟩ = some (.int .i64 0) := cell_of hm3 rfl
  have q3 : w3.cell? ⟨p + 1, 3, none⟩ = some (.int .i64 0) := cell_of hm3 rfl
  have q4 : w3.cell? ⟨p + 1, 4, none⟩ = some (.int .i64 0) := cell_of hm3 rfl
  have q5 : w3.cell? ⟨p + 1, 5, none⟩ = some (.int .i64 0) := cell_of hm3 rfl
  have q6 : w3.cell? ⟨p + 1, 6, none⟩ = some (.int .i64 0) := cell_of hm3 rfl
  clear k0 k1 k2 k3 k4 k5 k6
  have k0 : w3.cell? ⟨p, 0, none⟩ = some (.int .i64 x.s) := cell_of hm4 rfl
  have k1 : w3.cell? ⟨p, 1, none⟩ = some (.int .i64 x.v) := cell_of hm4 rfl
  have k2 : w3.cell? ⟨p, 2, none⟩ = some (.int .i64 x.r) := cell_of hm4 rfl
  have k3 : w3.cell? ⟨p, 3, none⟩ = some (.int .i64 x.e) := cell_of hm4 rfl
  have k4 : w3.cell? ⟨p, 4, none⟩ = some (.int .i64 x.c) := cell_of hm4 rfl
  have k5 : w3.cell? ⟨p, 5, none⟩ = some (.int .i64 x.t) := cell_of hm4 rfl
  have k6 : w3.cell? ⟨p, 6, none⟩ = some (.int .i64 x.a) := cell_of hm4 rfl
  have f4 : ∀ j, w3.frozen? ⟨p, j, none⟩ = false := fun j => frozen_at hm4
  clear hm3 hm4 HM0 HM1 HS
  go_wp2_with (go_at_call 28; with_reducible refine (clip_any _ _ _ _).mono ?_; rintro e wk ⟨rfl, rfl⟩)
  all_goals
    have HA := (Tr.refl HM4.out)
    have HB := Tr.refl (HA.2.blk HM3.out (by omega))
    have HT := ((((((HB.set 0 (.int .i64 (⟨x.s, x.v, x.r, x.e, x.c, x.t, x.a⟩ : Wy).s)).set 1 (.int .i64 (⟨x.s, x.v, x.r, x.e, x.c, x.t, x.a⟩ : Wy).v)).set 2 (.int .i64 (⟨x.s, x.v, x.r, x.e, x.c, x.t, x.a⟩ : Wy).r)).set 3 (.int .i64 (⟨x.s, x.v, x.r, x.e, x.c, x.t, x.a⟩ : Wy).e)).set 4 (.int .i64 (⟨x.s, x.v, x.r, x.e, x.c, x.t, x.a⟩ : Wy).c)).set 5 (.int .i64 (⟨x.s, x.v, x.r, x.e, x.c, x.t, x.a⟩ : Wy).t)).set 6 (.int .i64 (⟨x.s, x.v, x.r, x.e, x.c, x.t, x.a⟩ : Wy).a)
    have HZ : Up w _ := Below.out HU4.out HA.2 (fun k hk => by rw [hk, HP.out]; omega) HU4.out.size
    exact bodyPost_ret (results_row_tmp (fn := Try.f19) (p := 6) (u := 7) (ty := 23) rfl _ _ (p + 1) 23 (⟨x.s, x.v, x.r, x.e, x.c, x.t, x.a⟩ : Wy).cs (0, 0) _ rfl HT.1 Try.underlying23 rfl rfl) rfl ⟨rfl, Lib.hid (Below.out HZ HT.2 (fun k hk => by rw [hk, HP.out]; omega) HZ.size)⟩
set_option maxRecDepth 100000 in
set_option maxHeartbeats 4000000 in
theorem rack_1 (x : Wy) (n : Int) (h : x.Ok) (h2 : 0 ≤ n) (h3 : n ≤ 65536) (h4 : ¬ n = 0) (w : World) : Calls Try.prog 19 #[.agg x.cs, .int .i64 n, .bool false] w (WRes (⟨x.s, x.v, x.r, x.e, x.c, x.t, x.a⟩ : Wy) 0 w) := by
  have HS := okc_t x h
  obtain ⟨⟨a1, a2⟩, ⟨b1, b2⟩, ⟨c1, c2⟩, ⟨d1, d2⟩, ⟨e1, e2⟩, ⟨f1, f2⟩, ⟨g1, g2⟩⟩ := h
  have n1 : decide (n < 0) = false := decide_eq_false (by omega)
  have n2 : decide (n > 65536) = false := decide_eq_false (by omega)
  have t1 : (n == 0) = false := by simp [h4]
  clear h4
  have hb0 := new_at w (.cells x.cs 23)
  have hb0 := (((up_alloc (w.alloc (.cells x.cs 23)) (.cells #[.int .i64 0, .int .i64 0, .int .i64 0, .int .i64 0, .int .i64 0, .int .i64 0, .int .i64 0] 23)).block _ (lt_of_blk hb0)).trans hb0)
  have hs1 : (w.alloc (.cells x.cs 23)).heap.size = w.heap.size + 1 := by simp
  have hb1 := new_at (w.alloc (.cells x.cs 23)) (.cells #[.int .i64 0, .int .i64 0, .int .i64 0, .int .i64 0, .int .i64 0, .int .i64 0, .int .i64 0] 23)
  rw [hs1] at hb1
  have hu : Up w ((w.alloc (.cells x.cs 23)).alloc (.cells #[.int .i64 0, .int .i64 0, .int .i64 0, .int .i64 0, .int .i64 0, .int .i64 0, .int .i64 0] 23)) := (up_alloc w (.cells x.cs 23)).trans (up_alloc (w.alloc (.cells x.cs 23)) (.cells #[.int .i64 0, .int .i64 0, .int .i64 0, .int .i64 0, .int .i64 0, .int .i64 0, .int .i64 0] 23))
  change ((w.alloc (.cells x.cs 23)).alloc (.cells #[.int .i64 0, .int .i64 0, .int .i64 0, .int .i64 0, .int .i64 0, .int .i64 0, .int .i64 0] 23)).heap[w.heap.size]? = _ at hb0
  have HM0 := Lib.hid hb0
  change ((w.alloc (.cells x.cs 23)).alloc (.cells #[.int .i64 0, .int .i64 0, .int .i64 0, .int .i64 0, .int .i64 0, .int .i64 0, .int .i64 0] 23)).heap[w.heap.size + 1]? = _ at hb1
  have HM1 := Lib.hid hb1
  have HU1 := Lib.hid hu
  clear hu hb0 hb1 hs1
  try clear hb0
  go_enter Try.func19, Try.ntmps19
  go_upto_region 1 with (fail)
  generalize ((w.alloc (.cells x.cs 23)).alloc (.cells #[.int .i64 0, .int .i64 0, .int .i64 0, .int .i64 0, .int .i64 0, .int .i64 0, .int .i64 0] 23)) = w2 at HM0 HM1 HU1 ⊢
  obtain ⟨p, hp⟩ : ∃ p, p = w.heap.size := ⟨_, rfl⟩
  rw [← hp] at HM0 HM1 ⊢
  have HP := Lib.hid hp
  clear hp
  have k0 : w2.cell? ⟨p, 0, none⟩ = some (.int .i64 x.s) := cell_of HM0.out rfl
  have k1 : w2.cell? ⟨p, 1, none⟩ = some (.int .i64 x.v) := cell_of HM0.out rfl
  have k2 : w2.cell? ⟨p, 2, none⟩ = some (.int .i64 x.r) := cell_of HM0.out rfl
  have k3 : w2.cell? ⟨p, 3, none⟩ = some (.int .i64 x.e) := cell_of HM0.out rfl
  have k4 : w2.cell? ⟨p, 4, none⟩ = some (.int .i64 x.c) := cell_of HM0.out rfl
  have k5 : w2.cell? ⟨p, 5, none⟩ = some (.int .i64 x.t) := cell_of HM0.out rfl
  have k6 : w2.cell? ⟨p, 6, none⟩ = some (.int .i64 x.a) := cell_of HM0.out rfl
  go_wp2_with fail
  refine (HS _).mono ?_
  rintro e w3 ⟨rfl, HU3⟩
  have hm3 := (HU3.out.block _ (lt_of_blk HM1.out)).trans HM1.out
  have hm4 := (HU3.out.block _ (lt_of_blk HM0.out)).trans HM0.out
  have HU4 := Lib.hid (HU1.out.trans HU3.out)
  have HM3 := Lib.hid hm3
  have HM4 := Lib.hid hm4
  have f3 : ∀ j, w3.frozen? ⟨p + 1, j, none⟩ = false := fun j => frozen_at hm3
  have q0 : w3.cell? ⟨p + 1, 0, none⟩ = some (.int .i64 0) := cell_of hm3 rfl
  have q1 : w3.cell? ⟨p + 1, 1, none⟩ = some (.int .i64 0) := cell_of hm3 rfl
  have q2 : w3.cell? ⟨p + 1, 2, none⟩ = some (.int .i64 0) := cell_of hm3 rfl
  have q3 : w3.cell? ⟨p + 1, 3, none⟩ = some (.int .i64 0) := cell_of hm3 rfl
  have q4 : w3.cell? ⟨p + 1, 4, none⟩ = some (.int .i64 0) := cell_of hm3 rfl
  have q5 : w3.cell? ⟨p + 1, 5, none⟩ = some (.int .i64 0) := cell_of hm3 rfl
  have q6 : w3.cell? ⟨p + 1, 6, none⟩ = some (.int .i64 0) := cell_of hm3 rfl
  clear k0 k1 k2 k3 k4 k5 k6
  have k0 : w3.cell? ⟨p, 0, none⟩ = some (.int .i64 x.s) := cell_of hm4 rfl
  have k1 : w3.cell? ⟨p, 1, none⟩ = some (.int .i64 x.v) := cell_of hm4 rfl
  have k2 : w3.cell? ⟨p, 2, none⟩ = some (.int .i64 x.r) := cell_of hm4 rfl
  have k3 : w3.cell? ⟨p, 3, none⟩ = some (.int .i64 x.e) := cell_of hm4 rfl
  have k4 : w3.cell? ⟨p, 4, none⟩ = some (.int .i64 x.c) := cell_of hm4 rfl
  have k5 : w3.cell? ⟨p, 5, none⟩ = some (.int .i64 x.t) := cell_of hm4 rfl
  have k6 : w3.cell? ⟨p, 6, none⟩ = some (.int .i64 x.a) := cell_of hm4 rfl
  have f4 : ∀ j, w3.frozen? ⟨p, j, none⟩ = false := fun j => frozen_at hm4
  clear hm3 hm4 HM0 HM1 HS
  go_wp2_with (go_at_call 28; with_reducible refine (clip_any _ _ _ _).mono ?_; rintro e wk ⟨rfl, rfl⟩)
  all_goals
    have HA := (Tr.refl HM4.out)
    have HB := Tr.refl (HA.2.blk HM3.out (by omega))
    have HT := ((((((HB.set 0 (.int .i64 (⟨x.s, x.v, x.r, x.e, x.c, x.t, x.a⟩ : Wy).s)).set 1 (.int .i64 (⟨x.s, x.v, x.r, x.e, x.c, x.t, x.a⟩ : Wy).v)).set 2 (.int .i64 (⟨x.s, x.v, x.r, x.e, x.c, x.t, x.a⟩ : Wy).r)).set 3 (.int .i64 (⟨x.s, x.v, x.r, x.e, x.c, x.t, x.a⟩ : Wy).e)).set 4 (.int .i64 (⟨x.s, x.v, x.r, x.e, x.c, x.t, x.a⟩ : Wy).c)).set 5 (.int .i64 (⟨x.s, x.v, x.r, x.e, x.c, x.t, x.a⟩ : Wy).t)).set 6 (.int .i64 (⟨x.s, x.v, x.r, x.e, x.c, x.t, x.a⟩ : Wy).a)
    have HZ : Up w _ := Below.out HU4.out HA.2 (fun k hk => by rw [hk, HP.out]; omega) HU4.out.size
    exact bodyPost_ret (results_row_tmp (fn := Try.f19) (p := 6) (u := 7) (ty := 23) rfl _ _ (p + 1) 23 (⟨x.s, x.v, x.r, x.e, x.c, x.t, x.a⟩ : Wy).cs (0, 0) _ rfl HT.1 Try.underlying23 rfl rfl) rfl ⟨rfl, Lib.hid (Below.out HZ HT.2 (fun k hk => by rw [hk, HP.out]; omega) HZ.size)⟩
set_option maxRecDepth 100000 in
set_option maxHeartbeats 4000000 in
theorem rack_2 (x : Wy) (n q : Int) (hq : q = clp n 0 512) (h : x.Ok) (h2 : 0 ≤ n) (h3 : n ≤ 65536) (h4 : 0 < n) (h5 : x.c ≤ x.t) (w : World) : Calls Try.prog 19 #[.agg x.cs, .int .i64 n, .bool true] w (WRes (⟨x.s, x.v, x.r, x.e, clp (x.c + q) 0 65536, x.t, x.a⟩ : Wy) 0 w) := by
  have HS := okc_t x h
  obtain ⟨⟨a1, a2⟩, ⟨b1, b2⟩, ⟨c1, c2⟩, ⟨d1, d2⟩, ⟨e1, e2⟩, ⟨f1, f2⟩, ⟨g1, g2⟩⟩ := h
  have n1 : decide (n < 0) = false := decide_eq_false (by omega)
  have n2 : decide (n > 65536) = false := decide_eq_false (by omega)
  have t1 : (n == 0) = false := by simp; omega
  have t2 : decide (x.c ≤ x.t) = true := decide_eq_true h5
  have hq2 : 0 ≤ q ∧ q ≤ 512 := by rw [hq]; unfold clp; omega
  obtain ⟨q1, q2⟩ := hq2
  have HQC : ∀ wx, Calls Try.prog 28 #[.int .i64 n, .int .i64 0, .int .i64 512] wx fun e w' => e = .returned (.int .i64 q) ∧ w' = wx := fun wx => by rw [hq]; exact clip_any _ _ _ _
  clear hq
  have hb0 := new_at w (.cells x.cs 23)
  have hb0 := (((up_alloc (w.alloc (.cells x.cs 23)) (.cells #[.int .i64 0, .int .i64 0, .int .i64 0, .int .i64 0, .int .i64 0, .int .i64 0, .int .i64 0] 23)).block _ (lt_of_blk hb0)).trans hb0)
  have hs1 : (w.alloc (.cells x.cs 23)).heap.size = w.heap.size + 1 := by simp
  have hb1 := new_at (w.alloc (.cells x.cs 23)) (.cells #[.int .i64 0, .int .i64 0, .int .i64 0, .int .i64 0, .int .i64 0, .int .i64 0, .int .i64 0] 23)
  rw [hs1] at hb1
  have hu : Up w ((w.alloc (.cells x.cs 23)).alloc (.cells #[.int .i64 0, .int .i64 0, .int .i64 0, .int .i64 0, .int .i64 0, .int .i64 0, .int .i64 0] 23)) := (up_alloc w (.cells x.cs 23)).trans (up_alloc (w.alloc (.cells x.cs 23)) (.cells #[.int .i64 0, .int .i64 0, .int .i64 0, .int .i64 0, .int .i64 0, .int .i64 0, .int .i64 0] 23))
  change ((w.alloc (.cells x.cs 23)).alloc (.cells #[.int .i64 0, .int .i64 0, .int .i64 0, .int .i64 0, .int .i64 0, .int .i64 0, .int .i64 0] 23)).heap[w.heap.size]? = _ at hb0
  have HM0 := Lib.hid hb0
  change ((w.alloc (.cells x.cs 23)).alloc (.cells #[.int .i64 0, .int .i64 0, .int .i64 0, .int .i64 0, .int .i64 0, .int .i64 0, .int .i64 0] 23)).heap[w.heap.size + 1]? = _ at hb1
  have HM1 := Lib.hid hb1
  have HU1 := Lib.hid hu
  clear hu hb0 hb1 hs1
  try clear hb0
  go_enter Try.func19, Try.ntmps19
  go_upto_region 1 with (fail)
  generalize ((w.alloc (.cells x.cs 23)).alloc (.cells #[.int .i64 0, .int .i64 0, .int .i64 0, .int .i64 0, .int .i64 0, .int .i64 0, .int .i64 0] 23)) = w2 at HM0 HM1 HU1 ⊢
  obtain ⟨p, hp⟩ : ∃ p, p = w.heap.size := ⟨_, rfl⟩
  rw [← hp] at HM0 HM1 ⊢
  have HP := Lib.hid hp
  clear hp
  have k0 : w2.cell? ⟨p, 0, none⟩ = some (.int .i64 x.s) := cell_of HM0.out rfl
  have k1 : w2.cell? ⟨p, 1, none⟩ = some (.int .i64 x.v) := cell_of HM0.out rfl
  have k2 : w2.cell? ⟨p, 2, none⟩ = some (.int .i64 x.r) := cell_of HM0.out rfl
  have k3 : w2.cell? ⟨p, 3, none⟩ = some (.int .i64 x.e) := cell_of HM0.out rfl
  have k4 : w2.cell? ⟨p, 4, none⟩ = some (.int .i64 x.c) := cell_of HM0.out rfl
  have k5 : w2.cell? ⟨p, 5, none⟩ = some (.int .i64 x.t) := cell_of HM0.out rfl
  have k6 : w2.cell? ⟨p, 6, none⟩ = some (.int .i64 x.a) := cell_of HM0.out rfl
  go_wp2_with fail
  refine (HS _).mono ?_
  rintro e w3 ⟨rfl, HU3⟩
  have hm3 := (HU3.out.block _ (lt_of_blk HM1.out)).trans HM1.out
  have hm4 := (HU3.out.block _ (lt_of_blk HM0.out)).trans HM0.out
  have HU4 := Lib.hid (HU1.out.trans HU3.out)
  have HM3 := Lib.hid hm3
  have HM4 := Lib.hid hm4
  have f3 : ∀ j, w3.frozen? ⟨p + 1, j, none⟩ = false := fun j => frozen_at hm3
  have q0 : w3.cell? ⟨p + 1, 0, none⟩ = some (.int .i64 0) := cell_of hm3 rfl
  have q1 : w3.cell? ⟨p + 1, 1, none⟩ = some (.int .i64 0) := cell_of hm3 rfl
  have q2 : w3.cell? ⟨p + 1, 2, none⟩ = some (.int .i64 0) := cell_of hm3 rfl
  have q3 : w3.cell? ⟨p + 1, 3, none⟩ = some (.int .i64 0) := cell_of hm3 rfl
  have q4 : w3.cell? ⟨p + 1, 4, none⟩ = some (.int .i64 0) := cell_of hm3 rfl
  have q5 : w3.cell? ⟨p + 1, 5, none⟩ = some (.int .i64 0) := cell_of hm3 rfl
  have q6 : w3.cell? ⟨p + 1, 6, none⟩ = some (.int .i64 0) := cell_of hm3 rfl
  clear k0 k1 k2 k3 k4 k5 k6
  have k0 : w3.cell? ⟨p, 0, none⟩ = some (.int .i64 x.s) := cell_of hm4 rfl
  have k1 : w3.cell? ⟨p, 1, none⟩ = some (.int .i64 x.v) := cell_of hm4 rfl
  have k2 : w3.cell? ⟨p, 2, none⟩ = some (.int .i64 x.r) := cell_of hm4 rfl
  have k3 : w3.cell? ⟨p, 3, none⟩ = some (.int .i64 x.e) := cell_of hm4 rfl
  have k4 : w3.cell? ⟨p, 4, none⟩ = some (.int .i64 x.c) := cell_of hm4 rfl
  have k5 : w3.cell? ⟨p, 5, none⟩ = some (.int .i64 x.t) := cell_of hm4 rfl
  have k6 : w3.cell? ⟨p, 6, none⟩ = some (.int .i64 x.a) := cell_of hm4 rfl
  have f4 : ∀ j, w3.frozen? ⟨p, j, none⟩ = false := fun j => frozen_at hm4
  clear hm3 hm4 HM0 HM1 HS
  go_upto_region 8 with (fail)
  go_still_tail 6, (by kernel_rfl)
  still_call (HQC _)
  repeat still_step
  refine wpStill_nil ?_
  change wpList _ _ _ _ _ (w3.drew)
  go_upto_region 14 with (go_at_call 28; first | (with_reducible refine (HQC _).mono ?_; rintro e wk ⟨rfl, rfl⟩) | (with_reducible refine (clip_any _ _ _ _).mono ?_; rintro e wk ⟨rfl, rfl⟩))
  have HA : Hid (Tr p (⟨x.s, x.v, x.r, x.e, clp (x.c + q) 0 65536, x.t, x.a⟩ : Wy).cs w3 (((w3.setCell ⟨p, 4, none⟩ (.int .i64 (x.c + q))).setCell ⟨p, 4, none⟩ (.int .i64 (clp (x.c + q) 0 65536))).drew)) := Lib.hid ((((Tr.refl HM4.out).set 4 (.int .i64 (x.c + q))).set 4 (.int .i64 (clp (x.c + q) 0 65536))).drew)
  have HB := Lib.hid (HA.out.2.blk HM3.out (by omega))
  clear f4 f3 k0 k1 k2 k3 k4 k5 k6 q0 q1 q2 q3 q4 q5 q6 HM3 HM4
  generalize (((w3.setCell ⟨p, 4, none⟩ (.int .i64 (x.c + q))).setCell ⟨p, 4, none⟩ (.int .i64 (clp (x.c + q) 0 65536))).drew) = wz at HA HB ⊢
  have hz4 := HA.out.1
  have hz3 := HB.out
  have k0 : wz.cell? ⟨p, 0, none⟩ = some (.int .i64 (⟨x.s, x.v, x.r, x.e, clp (x.c + q) 0 65536, x.t, x.a⟩ : Wy).s) := cell_of hz4 rfl
  have k1 : wz.cell? ⟨p, 1, none⟩ = some (.int .i64 (⟨x.s, x.v, x.r, x.e, clp (x.c + q) 0 65536, x.t, x.a⟩ : Wy).v) := cell_of hz4 rfl
  have k2 : wz.cell? ⟨p, 2, none⟩ = some (.int .i64 (⟨x.s, x.v, x.r, x.e, clp (x.c + q) 0 65536, x.t, x.a⟩ : Wy).r) := cell_of hz4 rfl
  have k3 : wz.cell? ⟨p, 3, none⟩ = some (.int .i64 (⟨x.s, x.v, x.r, x.e, clp (x.c + q) 0 65536, x.t, x.a⟩ : Wy).e) := cell_of hz4 rfl
  have k4 : wz.cell? ⟨p, 4, none⟩ = some (.int .i64 (⟨x.s, x.v, x.r, x.e, clp (x.c + q) 0 65536, x.t, x.a⟩ : Wy).c) := cell_of hz4 rfl
  have k5 : wz.cell? ⟨p, 5, none⟩ = some (.int .i64 (⟨x.s, x.v, x.r, x.e, clp (x.c + q) 0 65536, x.t, x.a⟩ : Wy).t) := cell_of hz4 rfl
  have k6 : wz.cell? ⟨p, 6, none⟩ = some (.int .i64 (⟨x.s, x.v, x.r, x.e, clp (x.c + q) 0 65536, x.t, x.a⟩ : Wy).a) := cell_of hz4 rfl
  have f3 : ∀ j, wz.frozen? ⟨p + 1, j, none⟩ = false := fun j => frozen_at hz3
  have q0 : wz.cell? ⟨p + 1, 0, none⟩ = some (.int .i64 0) := cell_of hz3 rfl
  have q1 : wz.cell? ⟨p + 1, 1, none⟩ = some (.int .i64 0) := cell_of hz3 rfl
  have q2 : wz.cell? ⟨p + 1, 2, none⟩ = some (.int .i64 0) := cell_of hz3 rfl
  have q3 : wz.cell? ⟨p + 1, 3, none⟩ = some (.int .i64 0) := cell_of hz3 rfl
  have q4 : wz.cell? ⟨p + 1, 4, none⟩ = some (.int .i64 0) := cell_of hz3 rfl
  have q5 : wz.cell? ⟨p + 1, 5, none⟩ = some (.int .i64 0) := cell_of hz3 rfl
  have q6 : wz.cell? ⟨p + 1, 6, none⟩ = some (.int .i64 0) := cell_of hz3 rfl
  clear hz3 hz4
  dsimp only at k0 k1 k2 k3 k4 k5 k6
  go_wp2_with fail
  have HT := (((((((Tr.refl HB.out).set 0 (.int .i64 (⟨x.s, x.v, x.r, x.e, clp (x.c + q) 0 65536, x.t, x.a⟩ : Wy).s)).set 1 (.int .i64 (⟨x.s, x.v, x.r, x.e, clp (x.c + q) 0 65536, x.t, x.a⟩ : Wy).v)).set 2 (.int .i64 (⟨x.s, x.v, x.r, x.e, clp (x.c + q) 0 65536, x.t, x.a⟩ : Wy).r)).set 3 (.int .i64 (⟨x.s, x.v, x.r, x.e, clp (x.c + q) 0 65536, x.t, x.a⟩ : Wy).e)).set 4 (.int .i64 (⟨x.s, x.v, x.r, x.e, clp (x.c + q) 0 65536, x.t, x.a⟩ : Wy).c)).set 5 (.int .i64 (⟨x.s, x.v, x.r, x.e, clp (x.c + q) 0 65536, x.t, x.a⟩ : Wy).t)).set 6 (.int .i64 (⟨x.s, x.v, x.r, x.e, clp (x.c + q) 0 65536, x.t, x.a⟩ : Wy).a)
  have HZ : Up w wz := Below.out HU4.out HA.out.2 (fun k hk => by rw [hk, HP.out]; omega) HU4.out.size
  exact bodyPost_ret (results_row_tmp (fn := Try.f19) (p := 6) (u := 7) (ty := 23) rfl _ _ (p + 1) 23 (⟨x.s, x.v, x.r, x.e, clp (x.c + q) 0 65536, x.t, x.a⟩ : Wy).cs (0, 0) _ rfl HT.1 Try.underlying23 rfl rfl) rfl ⟨rfl, Lib.hid (Below.out HZ HT.2 (fun k hk => by rw [hk, HP.out]; omega) HZ.size)⟩
set_option maxRecDepth 100000 in
set_option maxHeartbeats 4000000 in
theorem rack_3 (x : Wy) (n q : Int) (hq : q = clp (x.a + n) 0 65536) (h : x.Ok) (h2 : 0 ≤ n) (h3 : n ≤ 65536) (h4 : 0 < n) (h5 : ¬ x.c ≤ x.t) (h6 : x.c ≤ q) (w : World) : Calls Try.prog 19 #[.agg x.cs, .int .i64 n, .bool true] w (WRes (⟨x.s, x.v, x.r, x.e, clp (x.c + 512) 0 65536, x.t, 0⟩ : Wy) 0 w) := by
  have HS := okc_t x h
  obtain ⟨⟨a1, a2⟩, ⟨b1, b2⟩, ⟨c1, c2⟩, ⟨d1, d2⟩, ⟨e1, e2⟩, ⟨f1, f2⟩, ⟨g1, g2⟩⟩ := h
  have n1 : decide (n < 0) = false := decide_eq_false (by omega)
  have n2 : decide (n > 65536) = false := decide_eq_false (by omega)
  have t1 : (n == 0) = false := by simp; omega
  have t2 : decide (x.c ≤ x.t) = false := decide_eq_false h5
  have t3 : decide (q ≥ x.c) = true := decide_eq_true h6
  clear h6
  have HQC : ∀ wx, Calls Try.prog 28 #[.int .i64 (x.a + n), .int .i64 0, .int .i64 65536] wx fun e w' => e = .returned (.int .i64 q) ∧ w' = wx := fun wx => by rw [hq]; exact clip_any _ _ _ _
  clear hq
  have hb0 := new_at w (.cells x.cs 23)
  have hb0 := (((up_alloc (w.alloc (.cells x.cs 23)) (.cells #[.int .i64 0, .int .i64 0, .int .i64 0, .int .i64 0, .int .i64 0, .int .i64 0, .int .i64 0] 23)).block _ (lt_of_blk hb0)).trans hb0)
  have hs1 : (w.alloc (.cells x.cs 23)).heap.size = w.heap.size + 1 := by simp
  have hb1 := new_at (w.alloc (.cells x.cs 23)) (.cells #[.int .i64 0, .int .i64 0, .int .i64 0, .int .i64 0, .int .i64 0, .int .i64 0, .int .i64 0] 23)
  rw [hs1] at hb1
  have hu : Up w ((w.alloc (.cells x.cs 23)).alloc (.cells #[.int .i64 0, .int .i64 0, .int .i64 0, .int .i64 0, .int .i64 0, .int .i64 0, .int .i64 0] 23)) := (up_alloc w (.cells x.cs 23)).trans (up_alloc (w.alloc (.cells x.cs 23)) (.cells #[.int .i64 0, .int .i64 0, .int .i64 0, .int .i64 0, .int .i64 0, .int .i64 0, .int .i64 0] 23))
  change ((w.alloc (.cells x.cs 23)).alloc (.cells #[.int .i64 0, .int .i64 0, .int .i64 0, .int .i64 0, .int .i64 0, .int .i64 0, .int .i64 0] 23)).heap[w.heap.size]? = _ at hb0
  have HM0 := Lib.hid hb0
  change ((w.alloc (.cells x.cs 23)).alloc (.cells #[.int .i64 0, .int .i64 0, .int .i64 0, .int .i64 0, .int .i64 0, .int .i64 0, .int .i64 0] 23)).heap[w.heap.size + 1]? = _ at hb1
  have HM1 := Lib.hid hb1
  have HU1 := Lib.hid hu
  clear hu hb0 hb1 hs1
  try clear hb0
  go_enter Try.func19, Try.ntmps19
  go_upto_region 1 with (fail)
  generalize ((w.alloc (.cells x.cs 23)).alloc (.cells #[.int .i64 0, .int .i64 0, .int .i64 0, .int .i64 0, .int .i64 0, .int .i64 0, .int .i64 0] 23)) = w2 at HM0 HM1 HU1 ⊢
  obtain ⟨p, hp⟩ : ∃ p, p = w.heap.size := ⟨_, rfl⟩
  rw [← hp] at HM0 HM1 ⊢
  have HP := Lib.hid hp
  clear hp
  have k0 : w2.cell? ⟨p, 0, none⟩ = some (.int .i64 x.s) := cell_of HM0.out rfl
  have k1 : w2.cell? ⟨p, 1, none⟩ = some (.int .i64 x.v) := cell_of HM0.out rfl
  have k2 : w2.cell? ⟨p, 2, none⟩ = some (.int .i64 x.r) := cell_of HM0.out rfl
  have k3 : w2.cell? ⟨p, 3, none⟩ = some (.int .i64 x.e) := cell_of HM0.out rfl
  have k4 : w2.cell? ⟨p, 4, none⟩ = some (.int .i64 x.c) := cell_of HM0.out rfl
  have k5 : w2.cell? ⟨p, 5, none⟩ = some (.int .i64 x.t) := cell_of HM0.out rfl
  have k6 : w2.cell? ⟨p, 6, none⟩ = some (.int .i64 x.a) := cell_of HM0.out rfl
  go_wp2_with fail
  refine (HS _).mono ?_
  rintro e w3 ⟨rfl, HU3⟩
  have hm3 := (HU3.out.block _ (lt_of_blk HM1.out)).trans HM1.out
  have hm4 := (HU3.out.block _ (lt_of_blk HM0.out)).trans HM0.out
  have HU4 := Lib.hid (HU1.out.trans HU3.out)
  have HM3 := Lib.hid hm3
  have HM4 := Lib.hid hm4
  have f3 : ∀ j, w3.frozen? ⟨p + 1, j, none⟩ = false := fun j => frozen_at hm3
  have q0 : w3.cell? ⟨p + 1, 0, none⟩ = some (.int .i64 0) := cell_of hm3 rfl
  have q1 : w3.cell? ⟨p + 1, 1, none⟩ = some (.int .i64 0) := cell_of hm3 rfl
  have q2 : w3.cell? ⟨p + 1, 2, none⟩ = some (.int .i64 0) := cell_of hm3 rfl
  have q3 : w3.cell? ⟨p + 1, 3, none⟩ = some (.int .i64 0) := cell_of hm3 rfl
  have q4 : w3.cell? ⟨p + 1, 4, none⟩ = some (.int .i64 0) := cell_of hm3 rfl
  have q5 : w3.cell? ⟨p + 1, 5, none⟩ = some (.int .i64 0) := cell_of hm3 rfl
  have q6 : w3.cell? ⟨p + 1, 6, none⟩ = some (.int .i64 0) := cell_of hm3 rfl
  clear k0 k1 k2 k3 k4 k5 k6
  have k0 : w3.cell? ⟨p, 0, none⟩ = some (.int .i64 x.s) := cell_of hm4 rfl
  have k1 : w3.cell? ⟨p, 1, none⟩ = some (.int .i64 x.v) := cell_of hm4 rfl
  have k2 : w3.cell? ⟨p, 2, none⟩ = some (.int .i64 x.r) := cell_of hm4 rfl
  have k3 : w3.cell? ⟨p, 3, none⟩ = some (.int .i64 x.e) := cell_of hm4 rfl
  have k4 : w3.cell? ⟨p, 4, none⟩ = some (.int .i64 x.c) := cell_of hm4 rfl
  have k5 : w3.cell? ⟨p, 5, none⟩ = some (.int .i64 x.t) := cell_of hm4 rfl
  have k6 : w3.cell? ⟨p, 6, none⟩ = some (.int .i64 x.a) := cell_of hm4 rfl
  have f4 : ∀ j, w3.frozen? ⟨p, j, none⟩ = false := fun j => frozen_at hm4
  clear hm3 hm4 HM0 HM1 HS
  go_upto_region 14 with (go_at_call 28; first | (with_reducible refine (HQC _).mono ?_; rintro e wk ⟨rfl, rfl⟩) | (with_reducible refine (clip_any _ _ _ _).mono ?_; rintro e wk ⟨rfl, rfl⟩))
  have HA : Hid (Tr p (⟨x.s, x.v, x.r, x.e, clp (x.c + 512) 0 65536, x.t, 0⟩ : Wy).cs wk ((((wk.setCell ⟨p, 6, none⟩ (.int .i64 (q))).setCell ⟨p, 6, none⟩ (.int .i64 (0))).setCell ⟨p, 4, none⟩ (.int .i64 (x.c + 512))).setCell ⟨p, 4, none⟩ (.int .i64 (clp (x.c + 512) 0 65536)))) := Lib.hid (((((Tr.refl HM4.out).set 6 (.int .i64 (q))).set 6 (.int .i64 (0))).set 4 (.int .i64 (x.c + 512))).set 4 (.int .i64 (clp (x.c + 512) 0 65536)))
  have HB := Lib.hid (HA.out.2.blk HM3.out (by omega))
  clear f4 f3 k0 k1 k2 k3 k4 k5 k6 q0 q1 q2 q3 q4 q5 q6 HM3 HM4
  generalize ((((wk.setCell ⟨p, 6, none⟩ (.int .i64 (q))).setCell ⟨p, 6, none⟩ (.int .i64 (0))).setCell ⟨p, 4, none⟩ (.int .i64 (x.c + 512))).setCell ⟨p, 4, none⟩ (.int .i64 (clp (x.c + 512) 0 65536))) = wz at HA HB ⊢
  have hz4 := HA.out.1
  have hz3 := HB.out
  have k0 : wz.cell? ⟨p, 0, none⟩ = some (.int .i64 (⟨x.s, x.v, x.r, x.e, clp (x.c + 512) 0 65536, x.t, 0⟩ : Wy).s) := cell_of hz4 rfl
  have k1 : wz.cell? ⟨p, 1, none⟩ = some (.int .i64 (⟨x.s, x.v, x.r, x.e, clp (x.c + 512) 0 65536, x.t, 0⟩ : Wy).v) := cell_of hz4 rfl
  have k2 : wz.cell? ⟨p, 2, none⟩ = some (.int .i64 (⟨x.s, x.v, x.r, x.e, clp (x.c + 512) 0 65536, x.t, 0⟩ : Wy).r) := cell_of hz4 rfl
  have k3 : wz.cell? ⟨p, 3, none⟩ = some (.int .i64 (⟨x.s, x.v, x.r, x.e, clp (x.c + 512) 0 65536, x.t, 0⟩ : Wy).e) := cell_of hz4 rfl
  have k4 : wz.cell? ⟨p, 4, none⟩ = some (.int .i64 (⟨x.s, x.v, x.r, x.e, clp (x.c + 512) 0 65536, x.t, 0⟩ : Wy).c) := cell_of hz4 rfl
  have k5 : wz.cell? ⟨p, 5, none⟩ = some (.int .i64 (⟨x.s, x.v, x.r, x.e, clp (x.c + 512) 0 65536, x.t, 0⟩ : Wy).t) := cell_of hz4 rfl
  have k6 : wz.cell? ⟨p, 6, none⟩ = some (.int .i64 (⟨x.s, x.v, x.r, x.e, clp (x.c + 512) 0 65536, x.t, 0⟩ : Wy).a) := cell_of hz4 rfl
  have f3 : ∀ j, wz.frozen? ⟨p + 1, j, none⟩ = false := fun j => frozen_at hz3
  have q0 : wz.cell? ⟨p + 1, 0, none⟩ = some (.int .i64 0) := cell_of hz3 rfl
  have q1 : wz.cell? ⟨p + 1, 1, none⟩ = some (.int .i64 0) := cell_of hz3 rfl
  have q2 : wz.cell? ⟨p + 1, 2, none⟩ = some (.int .i64 0) := cell_of hz3 rfl
  have q3 : wz.cell? ⟨p + 1, 3, none⟩ = some (.int .i64 0) := cell_of hz3 rfl
  have q4 : wz.cell? ⟨p + 1, 4, none⟩ = some (.int .i64 0) := cell_of hz3 rfl
  have q5 : wz.cell? ⟨p + 1, 5, none⟩ = some (.int .i64 0) := cell_of hz3 rfl
  have q6 : wz.cell? ⟨p + 1, 6, none⟩ = some (.int .i64 0) := cell_of hz3 rfl
  clear hz3 hz4
  dsimp only at k0 k1 k2 k3 k4 k5 k6
  go_wp2_with fail
  have HT := (((((((Tr.refl HB.out).set 0 (.int .i64 (⟨x.s, x.v, x.r, x.e, clp (x.c + 512) 0 65536, x.t, 0⟩ : Wy).s)).set 1 (.int .i64 (⟨x.s, x.v, x.r, x.e, clp (x.c + 512) 0 65536, x.t, 0⟩ : Wy).v)).set 2 (.int .i64 (⟨x.s, x.v, x.r, x.e, clp (x.c + 512) 0 65536, x.t, 0⟩ : Wy).r)).set 3 (.int .i64 (⟨x.s, x.v, x.r, x.e, clp (x.c + 512) 0 65536, x.t, 0⟩ : Wy).e)).set 4 (.int .i64 (⟨x.s, x.v, x.r, x.e, clp (x.c + 512) 0 65536, x.t, 0⟩ : Wy).c)).set 5 (.int .i64 (⟨x.s, x.v, x.r, x.e, clp (x.c + 512) 0 65536, x.t, 0⟩ : Wy).t)).set 6 (.int .i64 (⟨x.s, x.v, x.r, x.e, clp (x.c + 512) 0 65536, x.t, 0⟩ : Wy).a)
  have HZ : Up w wz := Below.out HU4.out HA.out.2 (fun k hk => by rw [hk, HP.out]; omega) HU4.out.size
  exact bodyPost_ret (results_row_tmp (fn := Try.f19) (p := 6) (u := 7) (ty := 23) rfl _ _ (p + 1) 23 (⟨x.s, x.v, x.r, x.e, clp (x.c + 512) 0 65536, x.t, 0⟩ : Wy).cs (0, 0) _ rfl HT.1 Try.underlying23 rfl rfl) rfl ⟨rfl, Lib.hid (Below.out HZ HT.2 (fun k hk => by rw [hk, HP.out]; omega) HZ.size)⟩
set_option maxRecDepth 100000 in
set_option maxHeartbeats 4000000 in
theorem rack_4 (x : Wy) (n q : Int) (hq : q = clp (x.a + n) 0 65536) (h : x.Ok) (h2 : 0 ≤ n) (h3 : n ≤ 65536) (h4 : 0 < n) (h5 : ¬ x.c ≤ x.t) (h6 : ¬ x.c ≤ q) (w : World) : Calls Try.prog 19 #[.agg x.cs, .int .i64 n, .bool true] w (WRes (⟨x.s, x.v, x.r, x.e, clp x.c 0 65536, x.t, q⟩ : Wy) 0 w) := by
  have HS := okc_t x h
  obtain ⟨⟨a1, a2⟩, ⟨b1, b2⟩, ⟨c1, c2⟩, ⟨d1, d2⟩, ⟨e1, e2⟩, ⟨f1, f2⟩, ⟨g1, g2⟩⟩ := h
  have n1 : decide (n < 0) = false := decide_eq_false (by omega)
  have n2 : decide (n > 65536) = false := decide_eq_false (by omega)
  have t1 : (n == 0) = false := by simp; omega
  have t2 : decide (x.c ≤ x.t) = false := decide_eq_false h5
  have t3 : decide (q ≥ x.c) = false := decide_eq_false h6
  clear h6
  have HQC : ∀ wx, Calls Try.prog 28 #[.int .i64 (x.a + n), .int .i64 0, .int .i64 65536] wx fun e w' => e = .returned (.int .i64 q) ∧ w' = wx := fun wx => by rw [hq]; exact clip_any _ _ _ _
  clear hq
  have hb0 := new_at w (.cells x.cs 23)
  have hb0 := (((up_alloc (w.alloc (.cells x.cs 23)) (.cells #[.int .i64 0, .int .i64 0, .int .i64 0, .int .i64 0, .int .i64 0, .int .i64 0, .int .i64 0] 23)).block _ (lt_of_blk hb0)).trans hb0)
  have hs1 : (w.alloc (.cells x.cs 23)).heap.size = w.heap.size + 1 := by simp
  have hb1 := new_at (w.alloc (.cells x.cs 23)) (.cells #[.int .i64 0, .int .i64 0, .int .i64 0, .int .i64 0, .int .i64 0, .int .i64 0, .int .i64 0] 23)
  rw [hs1] at hb1
  have hu : Up w ((w.alloc (.cells x.cs 23)).alloc (.cells #[.int .i64 0, .int .i64 0, .int .i64 0, .int .i64 0, .int .i64 0, .int .i64 0, .int .i64 0] 23)) := (up_alloc w (.cells x.cs 23)).trans (up_alloc (w.alloc (.cells x.cs 23)) (.cells #[.int .i64 0, .int .i64 0, .int .i64 0, .int .i64 0, .int .i64 0, .int .i64 0, .int .i64 0] 23))
  change ((w.alloc (.cells x.cs 23)).alloc (.cells #[.int .i64 0, .int .i64 0, .int .i64 0, .int .i64 0, .int .i64 0, .int .i64 0, .int .i64 0] 23)).heap[w.heap.size]? = _ at hb0
  have HM0 := Lib.hid hb0
  change ((w.alloc (.cells x.cs 23)).alloc (.cells #[.int .i64 0, .int .i64 0, .int .i64 0, .int .i64 0, .int .i64 0, .int .i64 0, .int .i64 0] 23)).heap[w.heap.size + 1]? = _ at hb1
  have HM1 := Lib.hid hb1
  have HU1 := Lib.hid hu
  clear hu hb0 hb1 hs1
  try clear hb0
  go_enter Try.func19, Try.ntmps19
  go_upto_region 1 with (fail)
  generalize ((w.alloc (.cells x.cs 23)).alloc (.cells #[.int .i64 0, .int .i64 0, .int .i64 0, .int .i64 0, .int .i64 0, .int .i64 0, .int .i64 0] 23)) = w2 at HM0 HM1 HU1 ⊢
  obtain ⟨p, hp⟩ : ∃ p, p = w.heap.size := ⟨_, rfl⟩
  rw [← hp] at HM0 HM1 ⊢
  have HP := Lib.hid hp
  clear hp
  have k0 : w2.cell? ⟨p, 0, none⟩ = some (.int .i64 x.s) := cell_of HM0.out rfl
  have k1 : w2.cell? ⟨p, 1, none⟩ = some (.int .i64 x.v) := cell_of HM0.out rfl
  have k2 : w2.cell? ⟨p, 2, none⟩ = some (.int .i64 x.r) := cell_of HM0.out rfl
  have k3 : w2.cell? ⟨p, 3, none⟩ = some (.int .i64 x.e) := cell_of HM0.out rfl
  have k4 : w2.cell? ⟨p, 4, none⟩ = some (.int .i64 x.c) := cell_of HM0.out rfl
  have k5 : w2.cell? ⟨p, 5, none⟩ = some (.int .i64 x.t) := cell_of HM0.out rfl
  have k6 : w2.cell? ⟨p, 6, none⟩ = some (.int .i64 x.a) := cell_of HM0.out rfl
  go_wp2_with fail
  refine (HS _).mono ?_
  rintro e w3 ⟨rfl, HU3⟩
  have hm3 := (HU3.out.block _ (lt_of_blk HM1.out)).trans HM1.out
  have hm4 := (HU3.out.block _ (lt_of_blk HM0.out)).trans HM0.out
  have HU4 := Lib.hid (HU1.out.trans HU3.out)
  have HM3 := Lib.hid hm3
  have HM4 := Lib.hid hm4
  have f3 : ∀ j, w3.frozen? ⟨p + 1, j, none⟩ = false := fun j => frozen_at hm3
  have q0 : w3.cell? ⟨p + 1, 0, none⟩ = some (.int .i64 0) := cell_of hm3 rfl
  have q1 : w3.cell? ⟨p + 1, 1, none⟩ = some (.int .i64 0) := cell_of hm3 rfl
  have q2 : w3.cell? ⟨p + 1, 2, none⟩ = some (.int .i64 0) := cell_of hm3 rfl
  have q3 : w3.cell? ⟨p + 1, 3, none⟩ = some (.int .i64 0) := cell_of hm3 rfl
  have q4 : w3.cell? ⟨p + 1, 4, none⟩ = some (.int .i64 0) := cell_of hm3 rfl
  have q5 : w3.cell? ⟨p + 1, 5, none⟩ = some (.int .i64 0) := cell_of hm3 rfl
  have q6 : w3.cell? ⟨p + 1, 6, none⟩ = some (.int .i64 0) := cell_of hm3 rfl
  clear k0 k1 k2 k3 k4 k5 k6
  have k0 : w3.cell? ⟨p, 0, none⟩ = some (.int .i64 x.s) := cell_of hm4 rfl
  have k1 : w3.cell? ⟨p, 1, none⟩ = some (.int .i64 x.v) := cell_of hm4 rfl
  have k2 : w3.cell? ⟨p, 2, none⟩ = some (.int .i64 x.r) := cell_of hm4 rfl
  have k3 : w3.cell? ⟨p, 3, none⟩ = some (.int .i64 x.e) := cell_of hm4 rfl
  have k4 : w3.cell? ⟨p, 4, none⟩ = some (.int .i64 x.c) := cell_of hm4 rfl
  have k5 : w3.cell? ⟨p, 5, none⟩ = some (.int .i64 x.t) := cell_of hm4 rfl
  have k6 : w3.cell? ⟨p, 6, none⟩ = some (.int .i64 x.a) := cell_of hm4 rfl
  have f4 : ∀ j, w3.frozen? ⟨p, j, none⟩ = false := fun j => frozen_at hm4
  clear hm3 hm4 HM0 HM1 HS
  go_upto_region 14 with (go_at_call 28; first | (with_reducible refine (HQC _).mono ?_; rintro e wk ⟨rfl, rfl⟩) | (with_reducible refine (clip_any _ _ _ _).mono ?_; rintro e wk ⟨rfl, rfl⟩))
  have HA : Hid (Tr p (⟨x.s, x.v, x.r, x.e, clp x.c 0 65536, x.t, q⟩ : Wy).cs wk ((wk.setCell ⟨p, 6, none⟩ (.int .i64 (q))).setCell ⟨p, 4, none⟩ (.int .i64 (clp x.c 0 65536)))) := Lib.hid (((Tr.refl HM4.out).set 6 (.int .i64 (q))).set 4 (.int .i64 (clp x.c 0 65536)))
  have HB := Lib.hid (HA.out.2.blk HM3.out (by omega))
  clear f4 f3 k0 k1 k2 k3 k4 k5 k6 q0 q1 q2 q3 q4 q5 q6 HM3 HM4
  generalize ((wk.setCell ⟨p, 6, none⟩ (.int .i64 (q))).setCell ⟨p, 4, none⟩ (.int .i64 (clp x.c 0 65536))) = wz at HA HB ⊢
  have hz4 := HA.out.1
  have hz3 := HB.out
  have k0 : wz.cell? ⟨p, 0, none⟩ = some (.int .i64 (⟨x.s, x.v, x.r, x.e, clp x.c 0 65536, x.t, q⟩ : Wy).s) := cell_of hz4 rfl
  have k1 : wz.cell? ⟨p, 1, none⟩ = some (.int .i64 (⟨x.s, x.v, x.r, x.e, clp x.c 0 65536, x.t, q⟩ : Wy).v) := cell_of hz4 rfl
  have k2 : wz.cell? ⟨p, 2, none⟩ = some (.int .i64 (⟨x.s, x.v, x.r, x.e, clp x.c 0 65536, x.t, q⟩ : Wy).r) := cell_of hz4 rfl
  have k3 : wz.cell? ⟨p, 3, none⟩ = some (.int .i64 (⟨x.s, x.v, x.r, x.e, clp x.c 0 65536, x.t, q⟩ : Wy).e) := cell_of hz4 rfl
  have k4 : wz.cell? ⟨p, 4, none⟩ = some (.int .i64 (⟨x.s, x.v, x.r, x.e, clp x.c 0 65536, x.t, q⟩ : Wy).c) := cell_of hz4 rfl
  have k5 : wz.cell? ⟨p, 5, none⟩ = some (.int .i64 (⟨x.s, x.v, x.r, x.e, clp x.c 0 65536, x.t, q⟩ : Wy).t) := cell_of hz4 rfl
  have k6 : wz.cell? ⟨p, 6, none⟩ = some (.int .i64 (⟨x.s, x.v, x.r, x.e, clp x.c 0 65536, x.t, q⟩ : Wy).a) := cell_of hz4 rfl
  have f3 : ∀ j, wz.frozen? ⟨p + 1, j, none⟩ = false := fun j => frozen_at hz3
  have q0 : wz.cell? ⟨p + 1, 0, none⟩ = some (.int .i64 0) := cell_of hz3 rfl
  have q1 : wz.cell? ⟨p + 1, 1, none⟩ = some (.int .i64 0) := cell_of hz3 rfl
  have q2 : wz.cell? ⟨p + 1, 2, none⟩ = some (.int .i64 0) := cell_of hz3 rfl
  have q3 : wz.cell? ⟨p + 1, 3, none⟩ = some (.int .i64 0) := cell_of hz3 rfl
  have q4 : wz.cell? ⟨p + 1, 4, none⟩ = some (.int .i64 0) := cell_of hz3 rfl
  have q5 : wz.cell? ⟨p + 1, 5, none⟩ = some (.int .i64 0) := cell_of hz3 rfl
  have q6 : wz.cell? ⟨p + 1, 6, none⟩ = some (.int .i64 0) := cell_of hz3 rfl
  clear hz3 hz4
  dsimp only at k0 k1 k2 k3 k4 k5 k6
  go_wp2_with fail
  have HT := (((((((Tr.refl HB.out).set 0 (.int .i64 (⟨x.s, x.v, x.r, x.e, clp x.c 0 65536, x.t, q⟩ : Wy).s)).set 1 (.int .i64 (⟨x.s, x.v, x.r, x.e, clp x.c 0 65536, x.t, q⟩ : Wy).v)).set 2 (.int .i64 (⟨x.s, x.v, x.r, x.e, clp x.c 0 65536, x.t, q⟩ : Wy).r)).set 3 (.int .i64 (⟨x.s, x.v, x.r, x.e, clp x.c 0 65536, x.t, q⟩ : Wy).e)).set 4 (.int .i64 (⟨x.s, x.v, x.r, x.e, clp x.c 0 65536, x.t, q⟩ : Wy).c)).set 5 (.int .i64 (⟨x.s, x.v, x.r, x.e, clp x.c 0 65536, x.t, q⟩ : Wy).t)).set 6 (.int .i64 (⟨x.s, x.v, x.r, x.e, clp x.c 0 65536, x.t, q⟩ : Wy).a)
  have HZ : Up w wz := Below.out HU4.out HA.out.2 (fun k hk => by rw [hk, HP.out]; omega) HU4.out.size
  exact bodyPost_ret (results_row_tmp (fn := Try.f19) (p := 6) (u := 7) (ty := 23) rfl _ _ (p + 1) 23 (⟨x.s, x.v, x.r, x.e, clp x.c 0 65536, x.t, q⟩ : Wy).cs (0, 0) _ rfl HT.1 Try.underlying23 rfl rfl) rfl ⟨rfl, Lib.hid (Below.out HZ HT.2 (fun k hk => by rw [hk, HP.out]; omega) HZ.size)⟩
theorem rack_any (x : Wy) (n : Int) (full : Bool) (w : World) : Calls Try.prog 19 #[.agg x.cs, .int .i64 n, .bool full] w (WR (ackOf x n full) w) := by
  unfold ackOf
  by_cases h : x.Ok
  · rw [if_pos h]
    have hx := h
    obtain ⟨⟨a1, a2⟩, ⟨b1, b2⟩, ⟨c1, c2⟩, ⟨d1, d2⟩, ⟨e1, e2⟩, ⟨f1, f2⟩, ⟨g1, g2⟩⟩ := hx
    by_cases h2 : 0 ≤ n ∧ n ≤ 65536
    · rw [if_pos h2]
      obtain ⟨h2, h3⟩ := h2
      by_cases h4 : n = 0
      · have e : ackW x n full = x := by unfold ackW; rw [if_neg (by intro h; omega)]
        rw [e]
        exact rack_0 x n full h h2 h3 h4 w
      · cases full with
        | false =>
          have e : ackW x n false = x := by unfold ackW; simp
          rw [e]
          exact rack_1 x n h h2 h3 h4 w
        | true =>
          have e : ackW x n true = growW x n := by unfold ackW; rw [if_pos ⟨rfl, by omega⟩]
          rw [e]
          by_cases h5 : x.c ≤ x.t
          · have e2 : (⟨x.s, x.v, x.r, x.e, clp (x.c + clp n 0 512) 0 65536, x.t, x.a⟩ : Wy) = growW x n := by
              rw [growW, if_pos h5]
              refine wy_ext rfl rfl rfl rfl ?_ rfl rfl
              dsimp only; unfold clp; omega
            have := rack_2 x n _ rfl h h2 h3 (by omega) h5 w
            rw [e2] at this
            exact this
          · by_cases h6 : x.c ≤ clp (x.a + n) 0 65536
            · have e2 : (⟨x.s, x.v, x.r, x.e, clp (x.c + 512) 0 65536, x.t, 0⟩ : Wy) = growW x n := by
                rw [growW, if_neg h5, if_pos (by revert h6; unfold clp; omega)]
                refine wy_ext rfl rfl rfl rfl ?_ rfl rfl
                dsimp only; unfold clp; omega
              have := rack_3 x n _ rfl h h2 h3 (by omega) h5 h6 w
              rw [e2] at this
              exact this
            · have e2 : (⟨x.s, x.v, x.r, x.e, clp x.c 0 65536, x.t, clp (x.a + n) 0 65536⟩ : Wy) = growW x n := by
                rw [growW, if_neg h5, if_neg (by revert h6; unfold clp; omega)]
                refine wy_ext rfl rfl rfl rfl ?_ rfl ?_ <;> (dsimp only; unfold clp; omega)
              have := rack_4 x n _ rfl h h2 h3 (by omega) h5 h6 w
              rw [e2] at this
              exact this
    · rw [if_neg h2]
      by_cases h3 : n < 0
      · exact rack_l x n full h h3 w
      · exact rack_h x n full h (by omega) w
  · rw [if_neg h]
    exact rack_f x n full h w
end Go.Proofs.Ytahpejcejbgcpaa
