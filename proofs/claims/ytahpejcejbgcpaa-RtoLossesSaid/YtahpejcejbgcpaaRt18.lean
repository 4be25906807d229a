import Derived.Test.YtahpejcejbgcpaaRt17
namespace Go.Proofs.Ytahpejcejbgcpaa
open Go Go.RowKit
set_option linter.unusedVariables false
set_option linter.unusedSimpArgs false
set_option maxRecDepth 100000 in
set_option maxHeartbeats 4000000 in
theorem law_losses (x : Wy) (w : World) : Calls Try.prog 4 #[.agg x.cs] w (RetB true w) := by
  obtain ⟨r, hr⟩ : ∃ r, r = lateOf x := ⟨_, rfl⟩
  obtain ⟨q, hq⟩ : ∃ q, q = fastOf x := ⟨_, rfl⟩
  have H1 : ∀ wx, Calls Try.prog 14 #[.agg x.cs] wx (WRes r.1 r.2 wx) := fun wx => by rw [hr]; exact late_any x wx
  have H2 : ∀ wx, Calls Try.prog 15 #[.agg x.cs] wx (WRes r.1 r.2 wx) := fun wx => by rw [hr]; exact rlate_any x wx
  have H3 : ∀ wx, Calls Try.prog 16 #[.agg x.cs] wx (WRes q.1 q.2 wx) := fun wx => by rw [hq]; exact fast_any x wx
  have H4 : ∀ wx, Calls Try.prog 17 #[.agg x.cs] wx (WRes q.1 q.2 wx) := fun wx => by rw [hq]; exact rfast_any x wx
  clear hr hq
  obtain ⟨r1, r2⟩ := r
  obtain ⟨q1, q2⟩ := q
  dsimp only at H1 H2 H3 H4
  have hb0 := new_at w (.cells x.cs 23)
  have hu : Up w (w.alloc (.cells x.cs 23)) := up_alloc w (.cells x.cs 23)
  change (w.alloc (.cells x.cs 23)).heap[w.heap.size]? = _ at hb0
  have HM0 := Lib.hid hb0
  have HU1 := Lib.hid hu
  clear hu hb0
  go_enter Try.func4, Try.ntmps4
  go_upto_region 1 with (fail)
  generalize (w.alloc (.cells x.cs 23)) = v0 at HM0 HU1 ⊢
  obtain ⟨p, hp⟩ : ∃ p, p = w.heap.size := ⟨_, rfl⟩
  rw [← hp] at HM0 ⊢
  have HP := Lib.hid hp
  clear hp
  have HV0 := HU1
  have HB_p := HM0
  clear HU1 HM0
  have k0 : v0.cell? ⟨p, 0, none⟩ = some (.int .i64 x.s) := cell_of HB_p.out rfl
  have k1 : v0.cell? ⟨p, 1, none⟩ = some (.int .i64 x.v) := cell_of HB_p.out rfl
  have k2 : v0.cell? ⟨p, 2, none⟩ = some (.int .i64 x.r) := cell_of HB_p.out rfl
  have k3 : v0.cell? ⟨p, 3, none⟩ = some (.int .i64 x.e) := cell_of HB_p.out rfl
  have k4 : v0.cell? ⟨p, 4, none⟩ = some (.int .i64 x.c) := cell_of HB_p.out rfl
  have k5 : v0.cell? ⟨p, 5, none⟩ = some (.int .i64 x.t) := cell_of HB_p.out rfl
  have k6 : v0.cell? ⟨p, 6, none⟩ = some (.int .i64 x.a) := cell_of HB_p.out rfl
  go_wp2_with fail
  refine (H1 _).mono ?_
  rintro e u1 ⟨rfl, HU1⟩
  go_upto_region 2 with (fail)
  have hn1 := new_at u1 (.cells r1.cs 23)
  have HW1 := Lib.hid (HV0.out.trans (HU1.out.trans (up_alloc u1 (.cells r1.cs 23))))
  have HV1 := HW1
  have hB_p := ((HU1.out.trans (up_alloc u1 (.cells r1.cs 23))).block _ (lt_of_blk HB_p.out)).trans HB_p.out
  have HB_p := Lib.hid hB_p
  clear hB_p
  have HB_g1 := Lib.hid hn1
  clear hn1
  change Hid ((u1.alloc (.cells #[.int .i64 r1.s, .int .i64 r1.v, .int .i64 r1.r, .int .i64 r1.e, .int .i64 r1.c, .int .i64 r1.t, .int .i64 r1.a] 23)).heap[u1.heap.size]? = _) at HB_g1
  change Hid (Up w (u1.alloc (.cells #[.int .i64 r1.s, .int .i64 r1.v, .int .i64 r1.r, .int .i64 r1.e, .int .i64 r1.c, .int .i64 r1.t, .int .i64 r1.a] 23))) at HV1
  change Hid ((u1.alloc (.cells #[.int .i64 r1.s, .int .i64 r1.v, .int .i64 r1.r, .int .i64 r1.e, .int .i64 r1.c, .int .i64 r1.t, .int .i64 r1.a] 23)).heap[p]? = _) at HB_p
  clear HW1 HU1 k0 k1 k2 k3 k4 k5 k6
  generalize u1.alloc (.cells #[.int .i64 r1.s, .int .i64 r1.v, .int .i64 r1.r, .int .i64 r1.e, .int .i64 r1.c, .int .i64 r1.t, .int .i64 r1.a] 23) = v1 at HV1 HB_g1 HB_p ⊢
  generalize u1.heap.size = g1 at HB_g1 ⊢
  have k0 : v1.cell? ⟨p, 0, none⟩ = some (.int .i64 x.s) := cell_of HB_p.out rfl
  have k1 : v1.cell? ⟨p, 1, none⟩ = some (.int .i64 x.v) := cell_of HB_p.out rfl
  have k2 : v1.cell? ⟨p, 2, none⟩ = some (.int .i64 x.r) := cell_of HB_p.out rfl
  have k3 : v1.cell? ⟨p, 3, none⟩ = some (.int .i64 x.e) := cell_of HB_p.out rfl
  have k4 : v1.cell? ⟨p, 4, none⟩ = some (.int .i64 x.c) := cell_of HB_p.out rfl
  have k5 : v1.cell? ⟨p, 5, none⟩ = some (.int .i64 x.t) := cell_of HB_p.out rfl
  have k6 : v1.cell? ⟨p, 6, none⟩ = some (.int .i64 x.a) := cell_of HB_p.out rfl
  go_wp2_with fail
  refine (H2 _).mono ?_
  rintro e u2 ⟨rfl, HU2⟩
  go_upto_region 3 with (fail)
  have hn2 := new_at u2 (.cells r1.cs 23)
  have HW2 := Lib.hid (HV1.out.trans (HU2.out.trans (up_alloc u2 (.cells r1.cs 23))))
  have HV2 := HW2
  have hB_p := ((HU2.out.trans (up_alloc u2 (.cells r1.cs 23))).block _ (lt_of_blk HB_p.out)).trans HB_p.out
  have HB_p := Lib.hid hB_p
  clear hB_p
  have hB_g1 := ((HU2.out.trans (up_alloc u2 (.cells r1.cs 23))).block _ (lt_of_blk HB_g1.out)).trans HB_g1.out
  have HB_g1 := Lib.hid hB_g1
  clear hB_g1
  have HB_g2 := Lib.hid hn2
  clear hn2
  change Hid ((u2.alloc (.cells #[.int .i64 r1.s, .int .i64 r1.v, .int .i64 r1.r, .int .i64 r1.e, .int .i64 r1.c, .int .i64 r1.t, .int .i64 r1.a] 23)).heap[u2.heap.size]? = _) at HB_g2
  change Hid (Up w (u2.alloc (.cells #[.int .i64 r1.s, .int .i64 r1.v, .int .i64 r1.r, .int .i64 r1.e, .int .i64 r1.c, .int .i64 r1.t, .int .i64 r1.a] 23))) at HV2
  change Hid ((u2.alloc (.cells #[.int .i64 r1.s, .int .i64 r1.v, .int .i64 r1.r, .int .i64 r1.e, .int .i64 r1.c, .int .i64 r1.t, .int .i64 r1.a] 23)).heap[p]? = _) at HB_p
  change Hid ((u2.alloc (.cells #[.int .i64 r1.s, .int .i64 r1.v, .int .i64 r1.r, .int .i64 r1.e, .int .i64 r1.c, .int .i64 r1.t, .int .i64 r1.a] 23)).heap[g1]? = _) at HB_g1
  clear HW2 HU2 k0 k1 k2 k3 k4 k5 k6
  generalize u2.alloc (.cells #[.int .i64 r1.s, .int .i64 r1.v, .int .i64 r1.r, .int .i64 r1.e, .int .i64 r1.c, .int .i64 r1.t, .int .i64 r1.a] 23) = v2 at HV2 HB_g2 HB_p HB_g1 ⊢
  generalize u2.heap.size = g2 at HB_g2 ⊢
  have k0 : v2.cell? ⟨p, 0, none⟩ = some (.int .i64 x.s) := cell_of HB_p.out rfl
  have k1 : v2.cell? ⟨p, 1, none⟩ = some (.int .i64 x.v) := cell_of HB_p.out rfl
  have k2 : v2.cell? ⟨p, 2, none⟩ = some (.int .i64 x.r) := cell_of HB_p.out rfl
  have k3 : v2.cell? ⟨p, 3, none⟩ = some (.int .i64 x.e) := cell_of HB_p.out rfl
  have k4 : v2.cell? ⟨p, 4, none⟩ = some (.int .i64 x.c) := cell_of HB_p.out rfl
  have k5 : v2.cell? ⟨p, 5, none⟩ = some (.int .i64 x.t) := cell_of HB_p.out rfl
  have k6 : v2.cell? ⟨p, 6, none⟩ = some (.int .i64 x.a) := cell_of HB_p.out rfl
  go_wp2_with fail
  refine (H3 _).mono ?_
  rintro e u3 ⟨rfl, HU3⟩
  go_upto_region 4 with (fail)
  have hn3 := new_at u3 (.cells q1.cs 23)
  have HW3 := Lib.hid (HV2.out.trans (HU3.out.trans (up_alloc u3 (.cells q1.cs 23))))
  have HV3 := HW3
  have hB_p := ((HU3.out.trans (up_alloc u3 (.cells q1.cs 23))).block _ (lt_of_blk HB_p.out)).trans HB_p.out
  have HB_p := Lib.hid hB_p
  clear hB_p
  have hB_g1 := ((HU3.out.trans (up_alloc u3 (.cells q1.cs 23))).block _ (lt_of_blk HB_g1.out)).trans HB_g1.out
  have HB_g1 := Lib.hid hB_g1
  clear hB_g1
  have hB_g2 := ((HU3.out.trans (up_alloc u3 (.cells q1.cs 23))).block _ (lt_of_blk HB_g2.out)).trans HB_g2.out
  have HB_g2 := Lib.hid hB_g2
  clear hB_g2
  have HB_g3 := Lib.hid hn3
  clear hn3
  change Hid ((u3.alloc (.cells #[.int .i64 q1.s, .int .i64 q1.v, .int .i64 q1.r, .int .i64 q1.e, .int .i64 q1.c, .int .i64 q1.t, .int .i64 q1.a] 23)).heap[u3.heap.size]? = _) at HB_g3
  change Hid (Up w (u3.alloc (.cells #[.int .i64 q1.s, .int .i64 q1.v, .int .i64 q1.r, .int .i64 q1.e, .int .i64 q1.c, .int .i64 q1.t, .int .i64 q1.a] 23))) at HV3
  change Hid ((u3.alloc (.cells #[.int .i64 q1.s, .int .i64 q1.v, .int .i64 q1.r, .int .i64 q1.e, .int .i64 q1.c, .int .i64 q1.t, .int .i64 q1.a] 23)).heap[p]? = _) at HB_p
  change Hid ((u3.alloc (.cells #[.int .i64 q1.s, .int .i64 q1.v, .int .i64 q1.r, .int .i64 q1.e, .int .i64 q1.c, .int .i64 q1.t, .int .i64 q1.a] 23)).heap[g1]? = _) at HB_g1
  change Hid ((u3.alloc (.cells #[.int .i64 q1.s, .int .i64 q1.v, .int .i64 q1.r, .int .i64 q1.e, .int .i64 q1.c, .int .i64 q1.t, .int .i64 q1.a] 23)).heap[g2]? = _) at HB_g2
  clear HW3 HU3 k0 k1 k2 k3 k4 k5 k6
  generalize u3.alloc (.cells #[.int .i64 q1.s, .int .i64 q1.v, .int .i64 q1.r, .int .i64 q1.e, .int .i64 q1.c, .int .i64 q1.t, .int .i64 q1.a] 23) = v3 at HV3 HB_g3 HB_p HB_g1 HB_g2 ⊢
  generalize u3.heap.size = g3 at HB_g3 ⊢
  have k0 : v3.cell? ⟨p, 0, none⟩ = some (.int .i64 x.s) := cell_of HB_p.out rfl
  have k1 : v3.cell? ⟨p, 1, none⟩ = some (.int .i64 x.v) := cell_of HB_p.out rfl
  have k2 : v3.cell? ⟨p, 2, none⟩ = some (.int .i64 x.r) := cell_of HB_p.out rfl
  have k3 : v3.cell? ⟨p, 3, none⟩ = some (.int .i64 x.e) := cell_of HB_p.out rfl
  have k4 : v3.cell? ⟨p, 4, none⟩ = some (.int .i64 x.c) := cell_of HB_p.out rfl
  have k5 : v3.cell? ⟨p, 5, none⟩ = some (.int .i64 x.t) := cell_of HB_p.out rfl
  have k6 : v3.cell? ⟨p, 6, none⟩ = some (.int .i64 x.a) := cell_of HB_p.out rfl
  go_wp2_with fail
  refine (H4 _).mono ?_
  rintro e u4 ⟨rfl, HU4⟩
  go_upto_region 5 with (fail)
  have hn4 := new_at u4 (.cells q1.cs 23)
  have HW4 := Lib.hid (HV3.out.trans (HU4.out.trans (up_alloc u4 (.cells q1.cs 23))))
  have HV4 := HW4
  have hB_p := ((HU4.out.trans (up_alloc u4 (.cells q1.cs 23))).block _ (lt_of_blk HB_p.out)).trans HB_p.out
  have HB_p := Lib.hid hB_p
  clear hB_p
  have hB_g1 := ((HU4.out.trans (up_alloc u4 (.cells q1.cs 23))).block _ (lt_of_blk HB_g1.out)).trans HB_g1.out
  have HB_g1 := Lib.hid hB_g1
  clear hB_g1
  have hB_g2 := ((HU4.out.trans (up_alloc u4 (.cells q1.cs 23))).block _ (lt_of_blk HB_g2.out)).trans HB_g2.out
  have HB_g2 := Lib.hid hB_g2
  clear hB_g2
  have hB_g3 := ((HU4.out.trans (up_alloc u4 (.cells q1.cs 23))).block _ (lt_of_blk HB_g3.out)).trans HB_g3.out
  have HB_g3 := Lib.hid hB_g3
  clear hB_g3
  have HB_g4 := Lib.hid hn4
  clear hn4
  change Hid ((u4.alloc (.cells #[.int .i64 q1.s, .int .i64 q1.v, .int .i64 q1.r, .int .i64 q1.e, .int .i64 q1.c, .int .i64 q1.t, .int .i64 q1.a] 23)).heap[u4.heap.size]? = _) at HB_g4
  change Hid (Up w (u4.alloc (.cells #[.int .i64 q1.s, .int .i64 q1.v, .int .i64 q1.r, .int .i64 q1.e, .int .i64 q1.c, .int .i64 q1.t, .int .i64 q1.a] 23))) at HV4
  change Hid ((u4.alloc (.cells #[.int .i64 q1.s, .int .i64 q1.v, .int .i64 q1.r, .int .i64 q1.e, .int .i64 q1.c, .int .i64 q1.t, .int .i64 q1.a] 23)).heap[p]? = _) at HB_p
  change Hid ((u4.alloc (.cells #[.int .i64 q1.s, .int .i64 q1.v, .int .i64 q1.r, .int .i64 q1.e, .int .i64 q1.c, .int .i64 q1.t, .int .i64 q1.a] 23)).heap[g1]? = _) at HB_g1
  change Hid ((u4.alloc (.cells #[.int .i64 q1.s, .int .i64 q1.v, .int .i64 q1.r, .int .i64 q1.e, .int .i64 q1.c, .int .i64 q1.t, .int .i64 q1.a] 23)).heap[g2]? = _) at HB_g2
  change Hid ((u4.alloc (.cells #[.int .i64 q1.s, .int .i64 q1.v, .int .i64 q1.r, .int .i64 q1.e, .int .i64 q1.c, .int .i64 q1.t, .int .i64 q1.a] 23)).heap[g3]? = _) at HB_g3
  clear HW4 HU4 k0 k1 k2 k3 k4 k5 k6
  generalize u4.alloc (.cells #[.int .i64 q1.s, .int .i64 q1.v, .int .i64 q1.r, .int .i64 q1.e, .int .i64 q1.c, .int .i64 q1.t, .int .i64 q1.a] 23) = v4 at HV4 HB_g4 HB_p HB_g1 HB_g2 HB_g3 ⊢
  generalize u4.heap.size = g4 at HB_g4 ⊢
  go_wp2_with fail
  refine (answers_ok _).mono ?_
  rintro e u5 ⟨rfl, HU5⟩
  have HV5 := Lib.hid (HV4.out.trans HU5.out)
  have h_g1 := (HU5.out.block _ (lt_of_blk HB_g1.out)).trans HB_g1.out
  have g1_0 : u5.cell? ⟨g1, 0, none⟩ = some (.int .i64 r1.s) := cell_of h_g1 rfl
  have g1_1 : u5.cell? ⟨g1, 1, none⟩ = some (.int .i64 r1.v) := cell_of h_g1 rfl
  have g1_2 : u5.cell? ⟨g1, 2, none⟩ = some (.int .i64 r1.r) := cell_of h_g1 rfl
  have g1_3 : u5.cell? ⟨g1, 3, none⟩ = some (.int .i64 r1.e) := cell_of h_g1 rfl
  have g1_4 : u5.cell? ⟨g1, 4, none⟩ = some (.int .i64 r1.c) := cell_of h_g1 rfl
  have g1_5 : u5.cell? ⟨g1, 5, none⟩ = some (.int .i64 r1.t) := cell_of h_g1 rfl
  have g1_6 : u5.cell? ⟨g1, 6, none⟩ = some (.int .i64 r1.a) := cell_of h_g1 rfl
  clear h_g1
  have h_g2 := (HU5.out.block _ (lt_of_blk HB_g2.out)).trans HB_g2.out
  have g2_0 : u5.cell? ⟨g2, 0, none⟩ = some (.int .i64 r1.s) := cell_of h_g2 rfl
  have g2_1 : u5.cell? ⟨g2, 1, none⟩ = some (.int .i64 r1.v) := cell_of h_g2 rfl
  have g2_2 : u5.cell? ⟨g2, 2, none⟩ = some (.int .i64 r1.r) := cell_of h_g2 rfl
  have g2_3 : u5.cell? ⟨g2, 3, none⟩ = some (.int .i64 r1.e) := cell_of h_g2 rfl
  have g2_4 : u5.cell? ⟨g2, 4, none⟩ = some (.int .i64 r1.c) := cell_of h_g2 rfl
  have g2_5 : u5.cell? ⟨g2, 5, none⟩ = some (.int .i64 r1.t) := cell_of h_g2 rfl
  have g2_6 : u5.cell? ⟨g2, 6, none⟩ = some (.int .i64 r1.a) := cell_of h_g2 rfl
  clear h_g2
  have h_g3 := (HU5.out.block _ (lt_of_blk HB_g3.out)).trans HB_g3.out
  have g3_0 : u5.cell? ⟨g3, 0, none⟩ = some (.int .i64 q1.s) := cell_of h_g3 rfl
  have g3_1 : u5.cell? ⟨g3, 1, none⟩ = some (.int .i64 q1.v) := cell_of h_g3 rfl
  have g3_2 : u5.cell? ⟨g3, 2, none⟩ = some (.int .i64 q1.r) := cell_of h_g3 rfl
  have g3_3 : u5.cell? ⟨g3, 3, none⟩ = some (.int .i64 q1.e) := cell_of h_g3 rfl
  have g3_4 : u5.cell? ⟨g3, 4, none⟩ = some (.int .i64 q1.c) := cell_of h_g3 rfl
  have g3_5 : u5.cell? ⟨g3, 5, none⟩ = some (.int .i64 q1.t) := cell_of h_g3 rfl
  have g3_6 : u5.cell? ⟨g3, 6, none⟩ = some (.int .i64 q1.a) := cell_of h_g3 rfl
  clear h_g3
  have h_g4 := (HU5.out.block _ (lt_of_blk HB_g4.out)).trans HB_g4.out
  have g4_0 : u5.cell? ⟨g4, 0, none⟩ = some (.int .i64 q1.s) := cell_of h_g4 rfl
  have g4_1 : u5.cell? ⟨g4, 1, none⟩ = some (.int .i64 q1.v) := cell_of h_g4 rfl
  have g4_2 : u5.cell? ⟨g4, 2, none⟩ = some (.int .i64 q1.r) := cell_of h_g4 rfl
  have g4_3 : u5.cell? ⟨g4, 3, none⟩ = some (.int .i64 q1.e) := cell_of h_g4 rfl
  have g4_4 : u5.cell? ⟨g4, 4, none⟩ = some (.int .i64 q1.c) := cell_of h_g4 rfl
  have g4_5 : u5.cell? ⟨g4, 5, none⟩ = some (.int .i64 q1.t) := cell_of h_g4 rfl
  have g4_6 : u5.cell? ⟨g4, 6, none⟩ = some (.int .i64 q1.a) := cell_of h_g4 rfl
  clear h_g4
  go_wp2_with fail
  go_ret
  exact ⟨rfl, HV5⟩
end Go.Proofs.Ytahpejcejbgcpaa
