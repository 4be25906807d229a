import Derived.Test.YtahpejcejbgcpaaRt20
namespace Go.Proofs.Ytahpejcejbgcpaa
open Go Go.RowKit
set_option linter.unusedVariables false
set_option linter.unusedSimpArgs false
/-- A step. -/
abbrev stp (kd n : Int) (full : Bool) : Array Value := #[.int .i64 kd, .int .i64 n, .bool full]
/-- A sound way is answered. -/
def WS (w : World) (e : Ending) (w' : World) : Prop := ∃ y : Wy, e = .returned (.agg y.cs) ∧ Hid y.Ok ∧ Hid (Up w w')
set_option maxRecDepth 100000 in
set_option maxHeartbeats 4000000 in
theorem walk_0 (x : Wy) (kd n : Int) (full : Bool) (hk : ¬ (1 ≤ kd ∧ kd ≤ 4)) (w : World) : Calls Try.prog 23 #[.agg x.cs, .agg (stp kd n full)] w (WV x w) := by
  have t1 : (kd == 1) = false := by simp only [beq_eq_false_iff_ne, ne_eq]; omega
  have t2 : (kd == 2) = false := by simp only [beq_eq_false_iff_ne, ne_eq]; omega
  have t3 : (kd == 3) = false := by simp only [beq_eq_false_iff_ne, ne_eq]; omega
  have t4 : (kd == 4) = false := by simp only [beq_eq_false_iff_ne, ne_eq]; omega
  clear hk
  have hb0 := new_at w (.cells x.cs 23)
  have hb0 := (((up_alloc (w.alloc (.cells x.cs 23)) (.cells #[.int .i64 kd, .int .i64 n, .bool full] 38)).block _ (lt_of_blk hb0)).trans hb0)
  have hb0 := (((up_alloc ((w.alloc (.cells x.cs 23)).alloc (.cells #[.int .i64 kd, .int .i64 n, .bool full] 38)) (.cells #[.int .i64 0, .int .i64 0, .int .i64 0, .int .i64 0, .int .i64 0, .int .i64 0, .int .i64 0] 23)).block _ (lt_of_blk hb0)).trans hb0)
  have hs1 : (w.alloc (.cells x.cs 23)).heap.size = w.heap.size + 1 := by simp
  have hb1 := new_at (w.alloc (.cells x.cs 23)) (.cells #[.int .i64 kd, .int .i64 n, .bool full] 38)
  rw [hs1] at hb1
  have hb1 := (((up_alloc ((w.alloc (.cells x.cs 23)).alloc (.cells #[.int .i64 kd, .int .i64 n, .bool full] 38)) (.cells #[.int .i64 0, .int .i64 0, .int .i64 0, .int .i64 0, .int .i64 0, .int .i64 0, .int .i64 0] 23)).block _ (lt_of_blk hb1)).trans hb1)
  have hs2 : ((w.alloc (.cells x.cs 23)).alloc (.cells #[.int .i64 kd, .int .i64 n, .bool full] 38)).heap.size = w.heap.size + 1 + 1 := by simp
  have hb2 := new_at ((w.alloc (.cells x.cs 23)).alloc (.cells #[.int .i64 kd, .int .i64 n, .bool full] 38)) (.cells #[.int .i64 0, .int .i64 0, .int .i64 0, .int .i64 0, .int .i64 0, .int .i64 0, .int .i64 0] 23)
  rw [hs2] at hb2
  have hu : Up w (((w.alloc (.cells x.cs 23)).alloc (.cells #[.int .i64 kd, .int .i64 n, .bool full] 38)).alloc (.cells #[.int .i64 0, .int .i64 0, .int .i64 0, .int .i64 0, .int .i64 0, .int .i64 0, .int .i64 0] 23)) := ((up_alloc w (.cells x.cs 23)).trans (up_alloc (w.alloc (.cells x.cs 23)) (.cells #[.int .i64 kd, .int .i64 n, .bool full] 38))).trans (up_alloc ((w.alloc (.cells x.cs 23)).alloc (.cells #[.int .i64 kd, .int .i64 n, .bool full] 38)) (.cells #[.int .i64 0, .int .i64 0, .int .i64 0, .int .i64 0, .int .i64 0, .int .i64 0, .int .i64 0] 23))
  change (((w.alloc (.cells x.cs 23)).alloc (.cells #[.int .i64 kd, .int .i64 n, .bool full] 38)).alloc (.cells #[.int .i64 0, .int .i64 0, .int .i64 0, .int .i64 0, .int .i64 0, .int .i64 0, .int .i64 0] 23)).heap[w.heap.size]? = _ at hb0
  have HM0 := Lib.hid hb0
  change (((w.alloc (.cells x.cs 23)).alloc (.cells #[.int .i64 kd, .int .i64 n, .bool full] 38)).alloc (.cells #[.int .i64 0, .int .i64 0, .int .i64 0, .int .i64 0, .int .i64 0, .int .i64 0, .int .i64 0] 23)).heap[w.heap.size + 1]? = _ at hb1
  have HM1 := Lib.hid hb1
  change (((w.alloc (.cells x.cs 23)).alloc (.cells #[.int .i64 kd, .int .i64 n, .bool full] 38)).alloc (.cells #[.int .i64 0, .int .i64 0, .int .i64 0, .int .i64 0, .int .i64 0, .int .i64 0, .int .i64 0] 23)).heap[w.heap.size + 1 + 1]? = _ at hb2
  have HM2 := Lib.hid hb2
  have HU1 := Lib.hid hu
  clear hu hb0 hb1 hb2 hs1 hs2
  try clear hb0
  go_enter Try.func23, Try.ntmps23
  go_upto_region 1 with (fail)
  generalize (((w.alloc (.cells x.cs 23)).alloc (.cells #[.int .i64 kd, .int .i64 n, .bool full] 38)).alloc (.cells #[.int .i64 0, .int .i64 0, .int .i64 0, .int .i64 0, .int .i64 0, .int .i64 0, .int .i64 0] 23)) = v0 at HM0 HM1 HM2 HU1 ⊢
  obtain ⟨p, hp⟩ : ∃ p, p = w.heap.size := ⟨_, rfl⟩
  rw [← hp] at HM0 HM1 HM2 ⊢
  have HP := Lib.hid hp
  clear hp
  have k0 : v0.cell? ⟨p, 0, none⟩ = some (.int .i64 x.s) := cell_of HM0.out rfl
  have k1 : v0.cell? ⟨p, 1, none⟩ = some (.int .i64 x.v) := cell_of HM0.out rfl
  have k2 : v0.cell? ⟨p, 2, none⟩ = some (.int .i64 x.r) := cell_of HM0.out rfl
  have k3 : v0.cell? ⟨p, 3, none⟩ = some (.int .i64 x.e) := cell_of HM0.out rfl
  have k4 : v0.cell? ⟨p, 4, none⟩ = some (.int .i64 x.c) := cell_of HM0.out rfl
  have k5 : v0.cell? ⟨p, 5, none⟩ = some (.int .i64 x.t) := cell_of HM0.out rfl
  have k6 : v0.cell? ⟨p, 6, none⟩ = some (.int .i64 x.a) := cell_of HM0.out rfl
  go_upto_region 2 with (fail)
  have hn := new_at v0 (.cells x.cs 23)
  have hu := up_alloc v0 (.cells x.cs 23)
  have HG := Lib.hid hn
  have HA := Lib.hid ((hu.block _ (lt_of_blk HM0.out)).trans HM0.out)
  have HS := Lib.hid ((hu.block _ (lt_of_blk HM1.out)).trans HM1.out)
  have HZ := Lib.hid ((hu.block _ (lt_of_blk HM2.out)).trans HM2.out)
  have HV := Lib.hid (HU1.out.trans hu)
  have hlt : p + 1 + 1 < v0.heap.size := lt_of_blk HM2.out
  clear hn hu k0 k1 k2 k3 k4 k5 k6 HM0 HM1 HM2 HU1
  change Hid ((v0.alloc (.cells #[.int .i64 x.s, .int .i64 x.v, .int .i64 x.r, .int .i64 x.e, .int .i64 x.c, .int .i64 x.t, .int .i64 x.a] 23)).heap[v0.heap.size]? = _) at HG
  change Hid ((v0.alloc (.cells #[.int .i64 x.s, .int .i64 x.v, .int .i64 x.r, .int .i64 x.e, .int .i64 x.c, .int .i64 x.t, .int .i64 x.a] 23)).heap[p]? = _) at HA
  change Hid ((v0.alloc (.cells #[.int .i64 x.s, .int .i64 x.v, .int .i64 x.r, .int .i64 x.e, .int .i64 x.c, .int .i64 x.t, .int .i64 x.a] 23)).heap[p + 1]? = _) at HS
  change Hid ((v0.alloc (.cells #[.int .i64 x.s, .int .i64 x.v, .int .i64 x.r, .int .i64 x.e, .int .i64 x.c, .int .i64 x.t, .int .i64 x.a] 23)).heap[p + 1 + 1]? = _) at HZ
  change Hid (Up w (v0.alloc (.cells #[.int .i64 x.s, .int .i64 x.v, .int .i64 x.r, .int .i64 x.e, .int .i64 x.c, .int .i64 x.t, .int .i64 x.a] 23))) at HV
  generalize v0.alloc (.cells #[.int .i64 x.s, .int .i64 x.v, .int .i64 x.r, .int .i64 x.e, .int .i64 x.c, .int .i64 x.t, .int .i64 x.a] 23) = v1 at HG HA HS HZ HV ⊢
  generalize v0.heap.size = g at HG hlt ⊢
  have k0 : v1.cell? ⟨p, 0, none⟩ = some (.int .i64 x.s) := cell_of HA.out rfl
  have k1 : v1.cell? ⟨p, 1, none⟩ = some (.int .i64 x.v) := cell_of HA.out rfl
  have k2 : v1.cell? ⟨p, 2, none⟩ = some (.int .i64 x.r) := cell_of HA.out rfl
  have k3 : v1.cell? ⟨p, 3, none⟩ = some (.int .i64 x.e) := cell_of HA.out rfl
  have k4 : v1.cell? ⟨p, 4, none⟩ = some (.int .i64 x.c) := cell_of HA.out rfl
  have k5 : v1.cell? ⟨p, 5, none⟩ = some (.int .i64 x.t) := cell_of HA.out rfl
  have k6 : v1.cell? ⟨p, 6, none⟩ = some (.int .i64 x.a) := cell_of HA.out rfl
  have s0 : v1.cell? ⟨p + 1, 0, none⟩ = some (.int .i64 kd) := cell_of HS.out rfl
  have s1 : v1.cell? ⟨p + 1, 1, none⟩ = some (.int .i64 n) := cell_of HS.out rfl
  have s2 : v1.cell? ⟨p + 1, 2, none⟩ = some (.bool full) := cell_of HS.out rfl
  have hz := HZ.out
  have hg := HG.out
  have f3 : ∀ j, v1.frozen? ⟨p + 1 + 1, j, none⟩ = false := fun j => frozen_at hz
  have q0 : v1.cell? ⟨p + 1 + 1, 0, none⟩ = some (.int .i64 0) := cell_of hz rfl
  have q1 : v1.cell? ⟨p + 1 + 1, 1, none⟩ = some (.int .i64 0) := cell_of hz rfl
  have q2 : v1.cell? ⟨p + 1 + 1, 2, none⟩ = some (.int .i64 0) := cell_of hz rfl
  have q3 : v1.cell? ⟨p + 1 + 1, 3, none⟩ = some (.int .i64 0) := cell_of hz rfl
  have q4 : v1.cell? ⟨p + 1 + 1, 4, none⟩ = some (.int .i64 0) := cell_of hz rfl
  have q5 : v1.cell? ⟨p + 1 + 1, 5, none⟩ = some (.int .i64 0) := cell_of hz rfl
  have q6 : v1.cell? ⟨p + 1 + 1, 6, none⟩ = some (.int .i64 0) := cell_of hz rfl
  have g0 : v1.cell? ⟨g, 0, none⟩ = some (.int .i64 x.s) := cell_of hg rfl
  have g1 : v1.cell? ⟨g, 1, none⟩ = some (.int .i64 x.v) := cell_of hg rfl
  have g2 : v1.cell? ⟨g, 2, none⟩ = some (.int .i64 x.r) := cell_of hg rfl
  have g3 : v1.cell? ⟨g, 3, none⟩ = some (.int .i64 x.e) := cell_of hg rfl
  have g4 : v1.cell? ⟨g, 4, none⟩ = some (.int .i64 x.c) := cell_of hg rfl
  have g5 : v1.cell? ⟨g, 5, none⟩ = some (.int .i64 x.t) := cell_of hg rfl
  have g6 : v1.cell? ⟨g, 6, none⟩ = some (.int .i64 x.a) := cell_of hg rfl
  clear hz hg
  go_wp2_with fail
  have HT2 := (((((((Tr.refl HZ.out).set 0 (.int .i64 x.s)).set 1 (.int .i64 x.v)).set 2 (.int .i64 x.r)).set 3 (.int .i64 x.e)).set 4 (.int .i64 x.c)).set 5 (.int .i64 x.t)).set 6 (.int .i64 x.a)
  exact bodyPost_ret (results_cell_row (fn := Try.f23) (p := 4) (ty := 23) rfl _ _ (p + 1 + 1) 23 x.cs (0, 0) _ rfl HT2.1 Try.underlying23 rfl rfl) rfl ⟨rfl, Lib.hid (Below.out HV.out HT2.2 (fun k hk => by rw [hk, HP.out]; omega) HV.out.size)⟩
set_option maxRecDepth 100000 in
set_option maxHeartbeats 4000000 in
theorem walk_1t (x : Wy) (kd n : Int) (full : Bool) (hk : kd = 1) (r1 : Wy) (r2 : Int) (hr : (r2 != 0) = true) (H : ∀ wx, Calls Try.prog 9 #[.agg x.cs, .int .i64 n] wx (WRes r1 r2 wx)) (w : World) : Calls Try.prog 23 #[.agg x.cs, .agg (stp kd n full)] w (WV x w) := by
  have t1 : (kd == 1) = true := by simp only [beq_iff_eq, ne_eq]; omega
  clear hk
  have hb0 := new_at w (.cells x.cs 23)
  have hb0 := (((up_alloc (w.alloc (.cells x.cs 23)) (.cells #[.int .i64 kd, .int .i64 n, .bool full] 38)).block _ (lt_of_blk hb0)).trans hb0)
  have hb0 := (((up_alloc ((w.alloc (.cells x.cs 23)).alloc (.cells #[.int .i64 kd, .int .i64 n, .bool full] 38)) (.cells #[.int .i64 0, .int .i64 0, .int .i64 0, .int .i64 0, .int .i64 0, .int .i64 0, .int .i64 0] 23)).block _ (lt_of_blk hb0)).trans hb0)
  have hs1 : (w.alloc (.cells x.cs 23)).heap.size = w.heap.size + 1 := by simp
  have hb1 := new_at (w.alloc (.cells x.cs 23)) (.cells #[.int .i64 kd, .int .i64 n, .bool full] 38)
  rw [hs1] at hb1
  have hb1 := (((up_alloc ((w.alloc (.cells x.cs 23)).alloc (.cells #[.int .i64 kd, .int .i64 n, .bool full] 38)) (.cells #[.int .i64 0, .int .i64 0, .int .i64 0, .int .i64 0, .int .i64 0, .int .i64 0, .int .i64 0] 23)).block _ (lt_of_blk hb1)).trans hb1)
  have hs2 : ((w.alloc (.cells x.cs 23)).alloc (.cells #[.int .i64 kd, .int .i64 n, .bool full] 38)).heap.size = w.heap.size + 1 + 1 := by simp
  have hb2 := new_at ((w.alloc (.cells x.cs 23)).alloc (.cells #[.int .i64 kd, .int .i64 n, .bool full] 38)) (.cells #[.int .i64 0, .int .i64 0, .int .i64 0, .int .i64 0, .int .i64 0, .int .i64 0, .int .i64 0] 23)
  rw [hs2] at hb2
  have hu : Up w (((w.alloc (.cells x.cs 23)).alloc (.cells #[.int .i64 kd, .int .i64 n, .bool full] 38)).alloc (.cells #[.int .i64 0, .int .i64 0, .int .i64 0, .int .i64 0, .int .i64 0, .int .i64 0, .int .i64 0] 23)) := ((up_alloc w (.cells x.cs 23)).trans (up_alloc (w.alloc (.cells x.cs 23)) (.cells #[.int .i64 kd, .int .i64 n, .bool full] 38))).trans (up_alloc ((w.alloc (.cells x.cs 23)).alloc (.cells #[.int .i64 kd, .int .i64 n, .bool full] 38)) (.cells #[.int .i64 0, .int .i64 0, .int .i64 0, .int .i64 0, .int .i64 0, .int .i64 0, .int .i64 0] 23))
  change (((w.alloc (.cells x.cs 23)).alloc (.cells #[.int .i64 kd, .int .i64 n, .bool full] 38)).alloc (.cells #[.int .i64 0, .int .i64 0, .int .i64 0, .int .i64 0, .int .i64 0, .int .i64 0, .int .i64 0] 23)).heap[w.heap.size]? = _ at hb0
  have HM0 := Lib.hid hb0
  change (((w.alloc (.cells x.cs 23)).alloc (.cells #[.int .i64 kd, .int .i64 n, .bool full] 38)).alloc (.cells #[.int .i64 0, .int .i64 0, .int .i64 0, .int .i64 0, .int .i64 0, .int .i64 0, .int .i64 0] 23)).heap[w.heap.size + 1]? = _ at hb1
  have HM1 := Lib.hid hb1
  change (((w.alloc (.cells x.cs 23)).alloc (.cells #[.int .i64 kd, .int .i64 n, .bool full] 38)).alloc (.cells #[.int .i64 0, .int .i64 0, .int .i64 0, .int .i64 0, .int .i64 0, .int .i64 0, .int .i64 0] 23)).heap[w.heap.size + 1 + 1]? = _ at hb2
  have HM2 := Lib.hid hb2
  have HU1 := Lib.hid hu
  clear hu hb0 hb1 hb2 hs1 hs2
  try clear hb0
  go_enter Try.func23, Try.ntmps23
  go_upto_region 1 with (fail)
  generalize (((w.alloc (.cells x.cs 23)).alloc (.cells #[.int .i64 kd, .int .i64 n, .bool full] 38)).alloc (.cells #[.int .i64 0, .int .i64 0, .int .i64 0, .int .i64 0, .int .i64 0, .int .i64 0, .int .i64 0] 23)) = v0 at HM0 HM1 HM2 HU1 ⊢
  obtain ⟨p, hp⟩ : ∃ p, p = w.heap.size := ⟨_, rfl⟩
  rw [← hp] at HM0 HM1 HM2 ⊢
  have HP := Lib.hid hp
  clear hp
  have k0 : v0.cell? ⟨p, 0, none⟩ = some (.int .i64 x.s) := cell_of HM0.out rfl
  have k1 : v0.cell? ⟨p, 1, none⟩ = some (.int .i64 x.v) := cell_of HM0.out rfl
  have k2 : v0.cell? ⟨p, 2, none⟩ = some (.int .i64 x.r) := cell_of HM0.out rfl
  have k3 : v0.cell? ⟨p, 3, none⟩ = some (.int .i64 x.e) := cell_of HM0.out rfl
  have k4 : v0.cell? ⟨p, 4, none⟩ = some (.int .i64 x.c) := cell_of HM0.out rfl
  have k5 : v0.cell? ⟨p, 5, none⟩ = some (.int .i64 x.t) := cell_of HM0.out rfl
  have k6 : v0.cell? ⟨p, 6, none⟩ = some (.int .i64 x.a) := cell_of HM0.out rfl
  go_upto_region 2 with (fail)
  have hn := new_at v0 (.cells x.cs 23)
  have hu := up_alloc v0 (.cells x.cs 23)
  have HG := Lib.hid hn
  have HA := Lib.hid ((hu.block _ (lt_of_blk HM0.out)).trans HM0.out)
  have HS := Lib.hid ((hu.block _ (lt_of_blk HM1.out)).trans HM1.out)
  have HZ := Lib.hid ((hu.block _ (lt_of_blk HM2.out)).trans HM2.out)
  have HV := Lib.hid (HU1.out.trans hu)
  have hlt : p + 1 + 1 < v0.heap.size := lt_of_blk HM2.out
  clear hn hu k0 k1 k2 k3 k4 k5 k6 HM0 HM1 HM2 HU1
  change Hid ((v0.alloc (.cells #[.int .i64 x.s, .int .i64 x.v, .int .i64 x.r, .int .i64 x.e, .int .i64 x.c, .int .i64 x.t, .int .i64 x.a] 23)).heap[v0.heap.size]? = _) at HG
  change Hid ((v0.alloc (.cells #[.int .i64 x.s, .int .i64 x.v, .int .i64 x.r, .int .i64 x.e, .int .i64 x.c, .int .i64 x.t, .int .i64 x.a] 23)).heap[p]? = _) at HA
  change Hid ((v0.alloc (.cells #[.int .i64 x.s, .int .i64 x.v, .int .i64 x.r, .int .i64 x.e, .int .i64 x.c, .int .i64 x.t, .int .i64 x.a] 23)).heap[p + 1]? = _) at HS
  change Hid ((v0.alloc (.cells #[.int .i64 x.s, .int .i64 x.v, .int .i64 x.r, .int .i64 x.e, .int .i64 x.c, .int .i64 x.t, .int .i64 x.a] 23)).heap[p + 1 + 1]? = _) at HZ
  change Hid (Up w (v0.alloc (.cells #[.int .i64 x.s, .int .i64 x.v, .int .i64 x.r, .int .i64 x.e, .int .i64 x.c, .int .i64 x.t, .int .i64 x.a] 23))) at HV
  generalize v0.alloc (.cells #[.int .i64 x.s, .int .i64 x.v, .int .i64 x.r, .int .i64 x.e, .int .i64 x.c, .int .i64 x.t, .int .i64 x.a] 23) = v1 at HG HA HS HZ HV ⊢
  generalize v0.heap.size = g at HG hlt ⊢
  have k0 : v1.cell? ⟨p, 0, none⟩ = some (.int .i64 x.s) := cell_of HA.out rfl
  have k1 : v1.cell? ⟨p, 1, none⟩ = some (.int .i64 x.v) := cell_of HA.out rfl
  have k2 : v1.cell? ⟨p, 2, none⟩ = some (.int .i64 x.r) := cell_of HA.out rfl
  have k3 : v1.cell? ⟨p, 3, none⟩ = some (.int .i64 x.e) := cell_of HA.out rfl
  have k4 : v1.cell? ⟨p, 4, none⟩ = some (.int .i64 x.c) := cell_of HA.out rfl
  have k5 : v1.cell? ⟨p, 5, none⟩ = some (.int .i64 x.t) := cell_of HA.out rfl
  have k6 : v1.cell? ⟨p, 6, none⟩ = some (.int .i64 x.a) := cell_of HA.out rfl
  have s0 : v1.cell? ⟨p + 1, 0, none⟩ = some (.int .i64 kd) := cell_of HS.out rfl
  have s1 : v1.cell? ⟨p + 1, 1, none⟩ = some (.int .i64 n) := cell_of HS.out rfl
  have s2 : v1.cell? ⟨p + 1, 2, none⟩ = some (.bool full) := cell_of HS.out rfl
  go_wp2_with fail
  refine (H _).mono ?_
  rintro e u ⟨rfl, HU⟩
  have ha := (HU.out.block _ (lt_of_blk HA.out)).trans HA.out
  have hg := (HU.out.block _ (lt_of_blk HG.out)).trans HG.out
  have hz := (HU.out.block _ (lt_of_blk HZ.out)).trans HZ.out
  have HV2 := Lib.hid (HV.out.trans HU.out)
  have HG2 := Lib.hid hg
  have HA2 := Lib.hid ha
  have HZ2 := Lib.hid hz
  clear k0 k1 k2 k3 k4 k5 k6 s0 s1 s2 HV HG HA HZ HS H
  have fg : ∀ j, u.frozen? ⟨g, j, none⟩ = false := fun j => frozen_at hg
  have g0 : u.cell? ⟨g, 0, none⟩ = some (.int .i64 x.s) := cell_of hg rfl
  have g1 : u.cell? ⟨g, 1, none⟩ = some (.int .i64 x.v) := cell_of hg rfl
  have g2 : u.cell? ⟨g, 2, none⟩ = some (.int .i64 x.r) := cell_of hg rfl
  have g3 : u.cell? ⟨g, 3, none⟩ = some (.int .i64 x.e) := cell_of hg rfl
  have g4 : u.cell? ⟨g, 4, none⟩ = some (.int .i64 x.c) := cell_of hg rfl
  have g5 : u.cell? ⟨g, 5, none⟩ = some (.int .i64 x.t) := cell_of hg rfl
  have g6 : u.cell? ⟨g, 6, none⟩ = some (.int .i64 x.a) := cell_of hg rfl
  clear ha hg hz
  go_upto_region 11 with (fail)
  have HT : Hid (Tr g r1.cs u (((((((u.setCell ⟨g, 0, none⟩ (.int .i64 r1.s)).setCell ⟨g, 1, none⟩ (.int .i64 r1.v)).setCell ⟨g, 2, none⟩ (.int .i64 r1.r)).setCell ⟨g, 3, none⟩ (.int .i64 r1.e)).setCell ⟨g, 4, none⟩ (.int .i64 r1.c)).setCell ⟨g, 5, none⟩ (.int .i64 r1.t)).setCell ⟨g, 6, none⟩ (.int .i64 r1.a))) := Lib.hid ((((((((Tr.refl HG2.out).set 0 (.int .i64 r1.s)).set 1 (.int .i64 r1.v)).set 2 (.int .i64 r1.r)).set 3 (.int .i64 r1.e)).set 4 (.int .i64 r1.c)).set 5 (.int .i64 r1.t)).set 6 (.int .i64 r1.a))
  have HA := Lib.hid (HT.out.2.blk HA2.out (by omega))
  have HZ := Lib.hid (HT.out.2.blk HZ2.out (by omega))
  clear fg g0 g1 g2 g3 g4 g5 g6 HG2 HA2 HZ2
  generalize (((((((u.setCell ⟨g, 0, none⟩ (.int .i64 r1.s)).setCell ⟨g, 1, none⟩ (.int .i64 r1.v)).setCell ⟨g, 2, none⟩ (.int .i64 r1.r)).setCell ⟨g, 3, none⟩ (.int .i64 r1.e)).setCell ⟨g, 4, none⟩ (.int .i64 r1.c)).setCell ⟨g, 5, none⟩ (.int .i64 r1.t)).setCell ⟨g, 6, none⟩ (.int .i64 r1.a)) = v1 at HT HA HZ ⊢
  have hwg : w.heap.size ≤ g := by rw [← HP.out]; omega
  have HV : Hid (Up w v1) := Lib.hid (Below.out HV2.out HT.out.2 (fun k hk => by rw [hk]; exact hwg) HV2.out.size)
  have HG := Lib.hid HT.out.1
  have k0 : v1.cell? ⟨p, 0, none⟩ = some (.int .i64 x.s) := cell_of HA.out rfl
  have k1 : v1.cell? ⟨p, 1, none⟩ = some (.int .i64 x.v) := cell_of HA.out rfl
  have k2 : v1.cell? ⟨p, 2, none⟩ = some (.int .i64 x.r) := cell_of HA.out rfl
  have k3 : v1.cell? ⟨p, 3, none⟩ = some (.int .i64 x.e) := cell_of HA.out rfl
  have k4 : v1.cell? ⟨p, 4, none⟩ = some (.int .i64 x.c) := cell_of HA.out rfl
  have k5 : v1.cell? ⟨p, 5, none⟩ = some (.int .i64 x.t) := cell_of HA.out rfl
  have k6 : v1.cell? ⟨p, 6, none⟩ = some (.int .i64 x.a) := cell_of HA.out rfl
  have hz := HZ.out
  have hg := HG.out
  have f3 : ∀ j, v1.frozen? ⟨p + 1 + 1, j, none⟩ = false := fun j => frozen_at hz
  have q0 : v1.cell? ⟨p + 1 + 1, 0, none⟩ = some (.int .i64 0) := cell_of hz rfl
  have q1 : v1.cell? ⟨p + 1 + 1, 1, none⟩ = some (.int .i64 0) := cell_of hz rfl
  have q2 : v1.cell? ⟨p + 1 + 1, 2, none⟩ = some (.int .i64 0) := cell_of hz rfl
  have q3 : v1.cell? ⟨p + 1 + 1, 3, none⟩ = some (.int .i64 0) := cell_of hz rfl
  have q4 : v1.cell? ⟨p + 1 + 1, 4, none⟩ = some (.int .i64 0) := cell_of hz rfl
  have q5 : v1.cell? ⟨p + 1 + 1, 5, none⟩ = some (.int .i64 0) := cell_of hz rfl
  have q6 : v1.cell? ⟨p + 1 + 1, 6, none⟩ = some (.int .i64 0) := cell_of hz rfl
  have g0 : v1.cell? ⟨g, 0, none⟩ = some (.int .i64 r1.s) := cell_of hg rfl
  have g1 : v1.cell? ⟨g, 1, none⟩ = some (.int .i64 r1.v) := cell_of hg rfl
  have g2 : v1.cell? ⟨g, 2, none⟩ = some (.int .i64 r1.r) := cell_of hg rfl
  have g3 : v1.cell? ⟨g, 3, none⟩ = some (.int .i64 r1.e) := cell_of hg rfl
  have g4 : v1.cell? ⟨g, 4, none⟩ = some (.int .i64 r1.c) := cell_of hg rfl
  have g5 : v1.cell? ⟨g, 5, none⟩ = some (.int .i64 r1.t) := cell_of hg rfl
  have g6 : v1.cell? ⟨g, 6, none⟩ = some (.int .i64 r1.a) := cell_of hg rfl
  clear hz hg
  go_wp2_with fail
  have HT2 := (((((((Tr.refl HZ.out).set 0 (.int .i64 x.s)).set 1 (.int .i64 x.v)).set 2 (.int .i64 x.r)).set 3 (.int .i64 x.e)).set 4 (.int .i64 x.c)).set 5 (.int .i64 x.t)).set 6 (.int .i64 x.a)
  exact bodyPost_ret (results_cell_row (fn := Try.f23) (p := 4) (ty := 23) rfl _ _ (p + 1 + 1) 23 x.cs (0, 0) _ rfl HT2.1 Try.underlying23 rfl rfl) rfl ⟨rfl, Lib.hid (Below.out HV.out HT2.2 (fun k hk => by rw [hk, HP.out]; omega) HV.out.size)⟩
set_option maxRecDepth 100000 in
set_option maxHeartbeats 4000000 in
theorem walk_1f (x : Wy) (kd n : Int) (full : Bool) (hk : kd = 1) (r1 : Wy) (r2 : Int) (hr : (r2 != 0) = false) (H : ∀ wx, Calls Try.prog 9 #[.agg x.cs, .int .i64 n] wx (WRes r1 r2 wx)) (w : World) : Calls Try.prog 23 #[.agg x.cs, .agg (stp kd n full)] w (WV r1 w) := by
  have t1 : (kd == 1) = true := by simp only [beq_iff_eq, ne_eq]; omega
  clear hk
  have hb0 := new_at w (.cells x.cs 23)
  have hb0 := (((up_alloc (w.alloc (.cells x.cs 23)) (.cells #[.int .i64 kd, .int .i64 n, .bool full] 38)).block _ (lt_of_blk hb0)).trans hb0)
  have hb0 := (((up_alloc ((w.alloc (.cells x.cs 23)).alloc (.cells #[.int .i64 kd, .int .i64 n, .bool full] 38)) (.cells #[.int .i64 0, .int .i64 0, .int .i64 0, .int .i64 0, .int .i64 0, .int .i64 0, .int .i64 0] 23)).block _ (lt_of_blk hb0)).trans hb0)
  have hs1 : (w.alloc (.cells x.cs 23)).heap.size = w.heap.size + 1 := by simp
  have hb1 := new_at (w.alloc (.cells x.cs 23)) (.cells #[.int .i64 kd, .int .i64 n, .bool full] 38)
  rw [hs1] at hb1
  have hb1 := (((up_alloc ((w.alloc (.cells x.cs 23)).alloc (.cells #[.int .i64 kd, .int .i64 n, .bool full] 38)) (.cells #[.int .i64 0, .int .i64 0, .int .i64 0, .int .i64 0, .int .i64 0, .int .i64 0, .int .i64 0] 23)).block _ (lt_of_blk hb1)).trans hb1)
  have hs2 : ((w.alloc (.cells x.cs 23)).alloc (.cells #[.int .i64 kd, .int .i64 n, .bool full] 38)).heap.size = w.heap.size + 1 + 1 := by simp
  have hb2 := new_at ((w.alloc (.cells x.cs 23)).alloc (.cells #[.int .i64 kd, .int .i64 n, .bool full] 38)) (.cells #[.int .i64 0, .int .i64 0, .int .i64 0, .int .i64 0, .int .i64 0, .int .i64 0, .int .i64 0] 23)
  rw [hs2] at hb2
  have hu : Up w (((w.alloc (.cells x.cs 23)).alloc (.cells #[.int .i64 kd, .int .i64 n, .bool full] 38)).alloc (.cells #[.int .i64 0, .int .i64 0, .int .i64 0, .int .i64 0, .int .i64 0, .int .i64 0, .int .i64 0] 23)) := ((up_alloc w (.cells x.cs 23)).trans (up_alloc (w.alloc (.cells x.cs 23)) (.cells #[.int .i64 kd, .int .i64 n, .bool full] 38))).trans (up_alloc ((w.alloc (.cells x.cs 23)).alloc (.cells #[.int .i64 kd, .int .i64 n, .bool full] 38)) (.cells #[.int .i64 0, .int .i64 0, .int .i64 0, .int .i64 0, .int .i64 0, .int .i64 0, .int .i64 0] 23))
  change (((w.alloc (.cells x.cs 23)).alloc (.cells #[.int .i64 kd, .int .i64 n, .bool full] 38)).alloc (.cells #[.int .i64 0, .int .i64 0, .int .i64 0, .int .i64 0, .int .i64 0, .int .i64 0, .int .i64 0] 23)).heap[w.heap.size]? = _ at hb0
  have HM0 := Lib.hid hb0
  change (((w.alloc (.cells x.cs 23)).alloc (.cells #[.int .i64 kd, .int .i64 n, .bool full] 38)).alloc (.cells #[.int .i64 0, .int .i64 0, .int .i64 0, .int .i64 0, .int .i64 0, .int .i64 0, .int .i64 0] 23)).heap[w.heap.size + 1]? = _ at hb1
  have HM1 := Lib.hid hb1
  change (((w.alloc (.cells x.cs 23)).alloc (.cells #[.int .i64 kd, .int .i64 n, .bool full] 38)).alloc (.cells #[.int .i64 0, .int .i64 0, .int .i64 0, .int .i64 0, .int .i64 0, .int .i64 0, .int .i64 0] 23)).heap[w.heap.size + 1 + 1]? = _ at hb2
  have HM2 := Lib.hid hb2
  have HU1 := Lib.hid hu
  clear hu hb0 hb1 hb2 hs1 hs2
  try clear hb0
  go_enter Try.func23, Try.ntmps23
  go_upto_region 1 with (fail)
  generalize (((w.alloc (.cells x.cs 23)).alloc (.cells #[.int .i64 kd, .int .i64 n, .bool full] 38)).alloc (.cells #[.int .i64 0, .int .i64 0, .int .i64 0, .int .i64 0, .int .i64 0, .int .i64 0, .int .i64 0] 23)) = v0 at HM0 HM1 HM2 HU1 ⊢
  obtain ⟨p, hp⟩ : ∃ p, p = w.heap.size := ⟨_, rfl⟩
  rw [← hp] at HM0 HM1 HM2 ⊢
  have HP := Lib.hid hp
  clear hp
  have k0 : v0.cell? ⟨p, 0, none⟩ = some (.int .i64 x.s) := cell_of HM0.out rfl
  have k1 : v0.cell? ⟨p, 1, none⟩ = some (.int .i64 x.v) := cell_of HM0.out rfl
  have k2 : v0.cell? ⟨p, 2, none⟩ = some (.int .i64 x.r) := cell_of HM0.out rfl
  have k3 : v0.cell? ⟨p, 3, none⟩ = some (.int .i64 x.e) := cell_of HM0.out rfl
  have k4 : v0.cell? ⟨p, 4, none⟩ = some (.int .i64 x.c) := cell_of HM0.out rfl
  have k5 : v0.cell? ⟨p, 5, none⟩ = some (.int .i64 x.t) := cell_of HM0.out rfl
  have k6 : v0.cell? ⟨p, 6, none⟩ = some (.int .i64 x.a) := cell_of HM0.out rfl
  go_upto_region 2 with (fail)
  have hn := new_at v0 (.cells x.cs 23)
  have hu := up_alloc v0 (.cells x.cs 23)
  have HG := Lib.hid hn
  have HA := Lib.hid ((hu.block _ (lt_of_blk HM0.out)).trans HM0.out)
  have HS := Lib.hid ((hu.block _ (lt_of_blk HM1.out)).trans HM1.out)
  have HZ := Lib.hid ((hu.block _ (lt_of_blk HM2.out)).trans HM2.out)
  have HV := Lib.hid (HU1.out.trans hu)
  have hlt : p + 1 + 1 < v0.heap.size := lt_of_blk HM2.out
  clear hn hu k0 k1 k2 k3 k4 k5 k6 HM0 HM1 HM2 HU1
  change Hid ((v0.alloc (.cells #[.int .i64 x.s, .int .i64 x.v, .int .i64 x.r, .int .i64 x.e, .int .i64 x.c, .int .i64 x.t, .int .i64 x.a] 23)).heap[v0.heap.size]? = _) at HG
  change Hid ((v0.alloc (.cells #[.int .i64 x.s, .int .i64 x.v, .int .i64 x.r, .int .i64 x.e, .int .i64 x.c, .int .i64 x.t, .int .i64 x.a] 23)).heap[p]? = _) at HA
  change Hid ((v0.alloc (.cells #[.int .i64 x.s, .int .i64 x.v, .int .i64 x.r, .int .i64 x.e, .int .i64 x.c, .int .i64 x.t, .int .i64 x.a] 23)).heap[p + 1]? = _) at HS
  change Hid ((v0.alloc (.cells #[.int .i64 x.s, .int .i64 x.v, .int .i64 x.r, .int .i64 x.e, .int .i64 x.c, .int .i64 x.t, .int .i64 x.a] 23)).heap[p + 1 + 1]? = _) at HZ
  change Hid (Up w (v0.alloc (.cells #[.int .i64 x.s, .int .i64 x.v, .int .i64 x.r, .int .i64 x.e, .int .i64 x.c, .int .i64 x.t, .int .i64 x.a] 23))) at HV
  generalize v0.alloc (.cells #[.int .i64 x.s, .int .i64 x.v, .int .i64 x.r, .int .i64 x.e, .int .i64 x.c, .int .i64 x.t, .int .i64 x.a] 23) = v1 at HG HA HS HZ HV ⊢
  generalize v0.heap.size = g at HG hlt ⊢
  have k0 : v1.cell? ⟨p, 0, none⟩ = some (.int .i64 x.s) := cell_of HA.out rfl
  have k1 : v1.cell? ⟨p, 1, none⟩ = some (.int .i64 x.v) := cell_of HA.out rfl
  have k2 : v1.cell? ⟨p, 2, none⟩ = some (.int .i64 x.r) := cell_of HA.out rfl
  have k3 : v1.cell? ⟨p, 3, none⟩ = some (.int .i64 x.e) := cell_of HA.out rfl
  have k4 : v1.cell? ⟨p, 4, none⟩ = some (.int .i64 x.c) := cell_of HA.out rfl
  have k5 : v1.cell? ⟨p, 5, none⟩ = some (.int .i64 x.t) := cell_of HA.out rfl
  have k6 : v1.cell? ⟨p, 6, none⟩ = some (.int .i64 x.a) := cell_of HA.out rfl
  have s0 : v1.cell? ⟨p + 1, 0, none⟩ = some (.int .i64 kd) := cell_of HS.out rfl
  have s1 : v1.cell? ⟨p + 1, 1, none⟩ = some (.int .i64 n) := cell_of HS.out rfl
  have s2 : v1.cell? ⟨p + 1, 2, none⟩ = some (.bool full) := cell_of HS.out rfl
  go_wp2_with fail
  refine (H _).mono ?_
  rintro e u ⟨rfl, HU⟩
  have ha := (HU.out.block _ (lt_of_blk HA.out)).trans HA.out
  have hg := (HU.out.block _ (lt_of_blk HG.out)).trans HG.out
  have hz := (HU.out.block _ (lt_of_blk HZ.out)).trans HZ.out
  have HV2 := Lib.hid (HV.out.trans HU.out)
  have HG2 := Lib.hid hg
  have HA2 := Lib.hid ha
  have HZ2 := Lib.hid hz
  clear k0 k1 k2 k3 k4 k5 k6 s0 s1 s2 HV HG HA HZ HS H
  have fg : ∀ j, u.frozen? ⟨g, j, none⟩ = false := fun j => frozen_at hg
  have g0 : u.cell? ⟨g, 0, none⟩ = some (.int .i64 x.s) := cell_of hg rfl
  have g1 : u.cell? ⟨g, 1, none⟩ = some (.int .i64 x.v) := cell_of hg rfl
  have g2 : u.cell? ⟨g, 2, none⟩ = some (.int .i64 x.r) := cell_of hg rfl
  have g3 : u.cell? ⟨g, 3, none⟩ = some (.int .i64 x.e) := cell_of hg rfl
  have g4 : u.cell? ⟨g, 4, none⟩ = some (.int .i64 x.c) := cell_of hg rfl
  have g5 : u.cell? ⟨g, 5, none⟩ = some (.int .i64 x.t) := cell_of hg rfl
  have g6 : u.cell? ⟨g, 6, none⟩ = some (.int .i64 x.a) := cell_of hg rfl
  clear ha hg hz
  go_upto_region 11 with (fail)
  have HT : Hid (Tr g r1.cs u (((((((u.setCell ⟨g, 0, none⟩ (.int .i64 r1.s)).setCell ⟨g, 1, none⟩ (.int .i64 r1.v)).setCell ⟨g, 2, none⟩ (.int .i64 r1.r)).setCell ⟨g, 3, none⟩ (.int .i64 r1.e)).setCell ⟨g, 4, none⟩ (.int .i64 r1.c)).setCell ⟨g, 5, none⟩ (.int .i64 r1.t)).setCell ⟨g, 6, none⟩ (.int .i64 r1.a))) := Lib.hid ((((((((Tr.refl HG2.out).set 0 (.int .i64 r1.s)).set 1 (.int .i64 r1.v)).set 2 (.int .i64 r1.r)).set 3 (.int .i64 r1.e)).set 4 (.int .i64 r1.c)).set 5 (.int .i64 r1.t)).set 6 (.int .i64 r1.a))
  have HA := Lib.hid (HT.out.2.blk HA2.out (by omega))
  have HZ := Lib.hid (HT.out.2.blk HZ2.out (by omega))
  clear fg g0 g1 g2 g3 g4 g5 g6 HG2 HA2 HZ2
  generalize (((((((u.setCell ⟨g, 0, none⟩ (.int .i64 r1.s)).setCell ⟨g, 1, none⟩ (.int .i64 r1.v)).setCell ⟨g, 2, none⟩ (.int .i64 r1.r)).setCell ⟨g, 3, none⟩ (.int .i64 r1.e)).setCell ⟨g, 4, none⟩ (.int .i64 r1.c)).setCell ⟨g, 5, none⟩ (.int .i64 r1.t)).setCell ⟨g, 6, none⟩ (.int .i64 r1.a)) = v1 at HT HA HZ ⊢
  have hwg : w.heap.size ≤ g := by rw [← HP.out]; omega
  have HV : Hid (Up w v1) := Lib.hid (Below.out HV2.out HT.out.2 (fun k hk => by rw [hk]; exact hwg) HV2.out.size)
  have HG := Lib.hid HT.out.1
  have k0 : v1.cell? ⟨p, 0, none⟩ = some (.int .i64 x.s) := cell_of HA.out rfl
  have k1 : v1.cell? ⟨p, 1, none⟩ = some (.int .i64 x.v) := cell_of HA.out rfl
  have k2 : v1.cell? ⟨p, 2, none⟩ = some (.int .i64 x.r) := cell_of HA.out rfl
  have k3 : v1.cell? ⟨p, 3, none⟩ = some (.int .i64 x.e) := cell_of HA.out rfl
  have k4 : v1.cell? ⟨p, 4, none⟩ = some (.int .i64 x.c) := cell_of HA.out rfl
  have k5 : v1.cell? ⟨p, 5, none⟩ = some (.int .i64 x.t) := cell_of HA.out rfl
  have k6 : v1.cell? ⟨p, 6, none⟩ = some (.int .i64 x.a) := cell_of HA.out rfl
  have hz := HZ.out
  have hg := HG.out
  have f3 : ∀ j, v1.frozen? ⟨p + 1 + 1, j, none⟩ = false := fun j => frozen_at hz
  have q0 : v1.cell? ⟨p + 1 + 1, 0, none⟩ = some (.int .i64 0) := cell_of hz rfl
  have q1 : v1.cell? ⟨p + 1 + 1, 1, none⟩ = some (.int .i64 0) := cell_of hz rfl
  have q2 : v1.cell? ⟨p + 1 + 1, 2, none⟩ = some (.int .i64 0) := cell_of hz rfl
  have q3 : v1.cell? ⟨p + 1 + 1, 3, none⟩ = some (.int .i64 0) := cell_of hz rfl
  have q4 : v1.cell? ⟨p + 1 + 1, 4, none⟩ = some (.int .i64 0) := cell_of hz rfl
  have q5 : v1.cell? ⟨p + 1 + 1, 5, none⟩ = some (.int .i64 0) := cell_of hz rfl
  have q6 : v1.cell? ⟨p + 1 + 1, 6, none⟩ = some (.int .i64 0) := cell_of hz rfl
  have g0 : v1.cell? ⟨g, 0, none⟩ = some (.int .i64 r1.s) := cell_of hg rfl
  have g1 : v1.cell? ⟨g, 1, none⟩ = some (.int .i64 r1.v) := cell_of hg rfl
  have g2 : v1.cell? ⟨g, 2, none⟩ = some (.int .i64 r1.r) := cell_of hg rfl
  have g3 : v1.cell? ⟨g, 3, none⟩ = some (.int .i64 r1.e) := cell_of hg rfl
  have g4 : v1.cell? ⟨g, 4, none⟩ = some (.int .i64 r1.c) := cell_of hg rfl
  have g5 : v1.cell? ⟨g, 5, none⟩ = some (.int .i64 r1.t) := cell_of hg rfl
  have g6 : v1.cell? ⟨g, 6, none⟩ = some (.int .i64 r1.a) := cell_of hg rfl
  clear hz hg
  go_wp2_with fail
  have HT2 := (((((((Tr.refl HZ.out).set 0 (.int .i64 r1.s)).set 1 (.int .i64 r1.v)).set 2 (.int .i64 r1.r)).set 3 (.int .i64 r1.e)).set 4 (.int .i64 r1.c)).set 5 (.int .i64 r1.t)).set 6 (.int .i64 r1.a)
  exact bodyPost_ret (results_cell_row (fn := Try.f23) (p := 4) (ty := 23) rfl _ _ (p + 1 + 1) 23 r1.cs (0, 0) _ rfl HT2.1 Try.underlying23 rfl rfl) rfl ⟨rfl, Lib.hid (Below.out HV.out HT2.2 (fun k hk => by rw [hk, HP.out]; omega) HV.out.size)⟩
set_option maxRecDepth 100000 in
set_option maxHeartbeats 4000000 in
theorem walk_2t (x : Wy) (kd n : Int) (full : Bool) (hk : kd = 2) (r1 : Wy) (r2 : Int) (hr : (r2 != 0) = true) (H : ∀ wx, Calls Try.prog 14 #[.agg x.cs] wx (WRes r1 r2 wx)) (w : World) : Calls Try.prog 23 #[.agg x.cs, .agg (stp kd n full)] w (WV x w) := by
  have t1 : (kd == 1) = false := by simp only [beq_eq_false_iff_ne, ne_eq]; omega
  have t2 : (kd == 2) = true := by simp only [beq_iff_eq, ne_eq]; omega
  clear hk
  have hb0 := new_at w (.cells x.cs 23)
  have hb0 := (((up_alloc (w.alloc (.cells x.cs 23)) (.cells #[.int .i64 kd, .int .i64 n, .bool full] 38)).block _ (lt_of_blk hb0)).trans hb0)
  have hb0 := (((up_alloc ((w.alloc (.cells x.cs 23)).alloc (.cells #[.int .i64 kd, .int .i64 n, .bool full] 38)) (.cells #[.int .i64 0, .int .i64 0, .int .i64 0, .int .i64 0, .int .i64 0, .int .i64 0, .int .i64 0] 23)).block _ (lt_of_blk hb0)).trans hb0)
  have hs1 : (w.alloc (.cells x.cs 23)).heap.size = w.heap.size + 1 := by simp
  have hb1 := new_at (w.alloc (.cells x.cs 23)) (.cells #[.int .i64 kd, .int .i64 n, .bool full] 38)
  rw [hs1] at hb1
  have hb1 := (((up_alloc ((w.alloc (.cells x.cs 23)).alloc (.cells #[.int .i64 kd, .int .i64 n, .bool full] 38)) (.cells #[.int .i64 0, .int .i64 0, .int .i64 0, .int .i64 0, .int .i64 0, .int .i64 0, .int .i64 0] 23)).block _ (lt_of_blk hb1)).trans hb1)
  have hs2 : ((w.alloc (.cells x.cs 23)).alloc (.cells #[.int .i64 kd, .int .i64 n, .bool full] 38)).heap.size = w.heap.size + 1 + 1 := by simp
  have hb2 := new_at ((w.alloc (.cells x.cs 23)).alloc (.cells #[.int .i64 kd, .int .i64 n, .bool full] 38)) (.cells #[.int .i64 0, .int .i64 0, .int .i64 0, .int .i64 0, .int .i64 0, .int .i64 0, .int .i64 0] 23)
  rw [hs2] at hb2
  have hu : Up w (((w.alloc (.cells x.cs 23)).alloc (.cells #[.int .i64 kd, .int .i64 n, .bool full] 38)).alloc (.cells #[.int .i64 0, .int .i64 0, .int .i64 0, .int .i64 0, .int .i64 0, .int .i64 0, .int .i64 0] 23)) := ((up_alloc w (.cells x.cs 23)).trans (up_alloc (w.alloc (.cells x.cs 23)) (.cells #[.int .i64 kd, .int .i64 n, .bool full] 38))).trans (up_alloc ((w.alloc (.cells x.cs 23)).alloc (.cells #[.int .i64 kd, .int .i64 n, .bool full] 38)) (.cells #[.int .i64 0, .int .i64 0, .int .i64 0, .int .i64 0, .int .i64 0, .int .i64 0, .int .i64 0] 23))
  change (((w.alloc (.cells x.cs 23)).alloc (.cells #[.int .i64 kd, .int .i64 n, .bool full] 38)).alloc (.cells #[.int .i64 0, .int .i64 0, .int .i64 0, .int .i64 0, .int .i64 0, .int .i64 0, .int .i64 0] 23)).heap[w.heap.size]? = _ at hb0
  have HM0 := Lib.hid hb0
  change (((w.alloc (.cells x.cs 23)).alloc (.cells #[.int .i64 kd, .int .i64 n, .bool full] 38)).alloc (.cells #[.int .i64 0, .int .i64 0, .int .i64 0, .int .i64 0, .int .i64 0, .int .i64 0, .int .i64 0] 23)).heap[w.heap.size + 1]? = _ at hb1
  have HM1 := Lib.hid hb1
  change (((w.alloc (.cells x.cs 23)).alloc (.cells #[.int .i64 kd, .int .i64 n, .bool full] 38)).alloc (.cells #[.int .i64 0, .int .i64 0, .int .i64 0, .int .i64 0, .int .i64 0, .int .i64 0, .int .i64 0] 23)).heap[w.heap.size + 1 + 1]? = _ at hb2
  have HM2 := Lib.hid hb2
  have HU1 := Lib.hid hu
  clear hu hb0 hb1 hb2 hs1 hs2
  try clear hb0
  go_enter Try.func23, Try.ntmps23
  go_upto_region 1 with (fail)
  generalize (((w.alloc (.cells x.cs 23)).alloc (.cells #[.int .i64 kd, .int .i64 n, .bool full] 38)).alloc (.cells #[.int .i64 0, .int .i64 0, .int .i64 0, .int .i64 0, .int .i64 0, .int .i64 0, .int .i64 0] 23)) = v0 at HM0 HM1 HM2 HU1 ⊢
  obtain ⟨p, hp⟩ : ∃ p, p = w.heap.size := ⟨_, rfl⟩
  rw [← hp] at HM0 HM1 HM2 ⊢
  have HP := Lib.hid hp
  clear hp
  have k0 : v0.cell? ⟨p, 0, none⟩ = some (.int .i64 x.s) := cell_of HM0.out rfl
  have k1 : v0.cell? ⟨p, 1, none⟩ = some (.int .i64 x.v) := cell_of HM0.out rfl
  have k2 : v0.cell? ⟨p, 2, none⟩ = some (.int .i64 x.r) := cell_of HM0.out rfl
  have k3 : v0.cell? ⟨p, 3, none⟩ = some (.int .i64 x.e) := cell_of HM0.out rfl
  have k4 : v0.cell? ⟨p, 4, none⟩ = some (.int .i64 x.c) := cell_of HM0.out rfl
  have k5 : v0.cell? ⟨p, 5, none⟩ = some (.int .i64 x.t) := cell_of HM0.out rfl
  have k6 : v0.cell? ⟨p, 6, none⟩ = some (.int .i64 x.a) := cell_of HM0.out rfl
  go_upto_region 2 with (fail)
  have hn := new_at v0 (.cells x.cs 23)
  have hu := up_alloc v0 (.cells x.cs 23)
  have HG := Lib.hid hn
  have HA := Lib.hid ((hu.block _ (lt_of_blk HM0.out)).trans HM0.out)
  have HS := Lib.hid ((hu.block _ (lt_of_blk HM1.out)).trans HM1.out)
  have HZ := Lib.hid ((hu.block _ (lt_of_blk HM2.out)).trans HM2.out)
  have HV := Lib.hid (HU1.out.trans hu)
  have hlt : p + 1 + 1 < v0.heap.size := lt_of_blk HM2.out
  clear hn hu k0 k1 k2 k3 k4 k5 k6 HM0 HM1 HM2 HU1
  change Hid ((v0.alloc (.cells #[.int .i64 x.s, .int .i64 x.v, .int .i64 x.r, .int .i64 x.e, .int .i64 x.c, .int .i64 x.t, .int .i64 x.a] 23)).heap[v0.heap.size]? = _) at HG
  change Hid ((v0.alloc (.cells #[.int .i64 x.s, .int .i64 x.v, .int .i64 x.r, .int .i64 x.e, .int .i64 x.c, .int .i64 x.t, .int .i64 x.a] 23)).heap[p]? = _) at HA
  change Hid ((v0.alloc (.cells #[.int .i64 x.s, .int .i64 x.v, .int .i64 x.r, .int .i64 x.e, .int .i64 x.c, .int .i64 x.t, .int .i64 x.a] 23)).heap[p + 1]? = _) at HS
  change Hid ((v0.alloc (.cells #[.int .i64 x.s, .int .i64 x.v, .int .i64 x.r, .int .i64 x.e, .int .i64 x.c, .int .i64 x.t, .int .i64 x.a] 23)).heap[p + 1 + 1]? = _) at HZ
  change Hid (Up w (v0.alloc (.cells #[.int .i64 x.s, .int .i64 x.v, .int .i64 x.r, .int .i64 x.e, .int .i64 x.c, .int .i64 x.t, .int .i64 x.a] 23))) at HV
  generalize v0.alloc (.cells #[.int .i64 x.s, .int .i64 x.v, .int .i64 x.r, .int .i64 x.e, .int .i64 x.c, .int .i64 x.t, .int .i64 x.a] 23) = v1 at HG HA HS HZ HV ⊢
  generalize v0.heap.size = g at HG hlt ⊢
  have k0 : v1.cell? ⟨p, 0, none⟩ = some (.int .i64 x.s) := cell_of HA.out rfl
  have k1 : v1.cell? ⟨p, 1, none⟩ = some (.int .i64 x.v) := cell_of HA.out rfl
  have k2 : v1.cell? ⟨p, 2, none⟩ = some (.int .i64 x.r) := cell_of HA.out rfl
  have k3 : v1.cell? ⟨p, 3, none⟩ = some (.int .i64 x.e) := cell_of HA.out rfl
  have k4 : v1.cell? ⟨p, 4, none⟩ = some (.int .i64 x.c) := cell_of HA.out rfl
  have k5 : v1.cell? ⟨p, 5, none⟩ = some (.int .i64 x.t) := cell_of HA.out rfl
  have k6 : v1.cell? ⟨p, 6, none⟩ = some (.int .i64 x.a) := cell_of HA.out rfl
  have s0 : v1.cell? ⟨p + 1, 0, none⟩ = some (.int .i64 kd) := cell_of HS.out rfl
  have s1 : v1.cell? ⟨p + 1, 1, none⟩ = some (.int .i64 n) := cell_of HS.out rfl
  have s2 : v1.cell? ⟨p + 1, 2, none⟩ = some (.bool full) := cell_of HS.out rfl
  go_wp2_with fail
  refine (H _).mono ?_
  rintro e u ⟨rfl, HU⟩
  have ha := (HU.out.block _ (lt_of_blk HA.out)).trans HA.out
  have hg := (HU.out.block _ (lt_of_blk HG.out)).trans HG.out
  have hz := (HU.out.block _ (lt_of_blk HZ.out)).trans HZ.out
  have HV2 := Lib.hid (HV.out.trans HU.out)
  have HG2 := Lib.hid hg
  have HA2 := Lib.hid ha
  have HZ2 := Lib.hid hz
  clear k0 k1 k2 k3 k4 k5 k6 s0 s1 s2 HV HG HA HZ HS H
  have fg : ∀ j, u.frozen? ⟨g, j, none⟩ = false := fun j => frozen_at hg
  have g0 : u.cell? ⟨g, 0, none⟩ = some (.int .i64 x.s) := cell_of hg rfl
  have g1 : u.cell? ⟨g, 1, none⟩ = some (.int .i64 x.v) := cell_of hg rfl
  have g2 : u.cell? ⟨g, 2, none⟩ = some (.int .i64 x.r) := cell_of hg rfl
  have g3 : u.cell? ⟨g, 3, none⟩ = some (.int .i64 x.e) := cell_of hg rfl
  have g4 : u.cell? ⟨g, 4, none⟩ = some (.int .i64 x.c) := cell_of hg rfl
  have g5 : u.cell? ⟨g, 5, none⟩ = some (.int .i64 x.t) := cell_of hg rfl
  have g6 : u.cell? ⟨g, 6, none⟩ = some (.int .i64 x.a) := cell_of hg rfl
  clear ha hg hz
  go_upto_region 11 with (fail)
  have HT : Hid (Tr g r1.cs u (((((((u.setCell ⟨g, 0, none⟩ (.int .i64 r1.s)).setCell ⟨g, 1, none⟩ (.int .i64 r1.v)).setCell ⟨g, 2, none⟩ (.int .i64 r1.r)).setCell ⟨g, 3, none⟩ (.int .i64 r1.e)).setCell ⟨g, 4, none⟩ (.int .i64 r1.c)).setCell ⟨g, 5, none⟩ (.int .i64 r1.t)).setCell ⟨g, 6, none⟩ (.int .i64 r1.a))) := Lib.hid ((((((((Tr.refl HG2.out).set 0 (.int .i64 r1.s)).set 1 (.int .i64 r1.v)).set 2 (.int .i64 r1.r)).set 3 (.int .i64 r1.e)).set 4 (.int .i64 r1.c)).set 5 (.int .i64 r1.t)).set 6 (.int .i64 r1.a))
  have HA := Lib.hid (HT.out.2.blk HA2.out (by omega))
  have HZ := Lib.hid (HT.out.2.blk HZ2.out (by omega))
  clear fg g0 g1 g2 g3 g4 g5 g6 HG2 HA2 HZ2
  generalize (((((((u.setCell ⟨g, 0, none⟩ (.int .i64 r1.s)).setCell ⟨g, 1, none⟩ (.int .i64 r1.v)).setCell ⟨g, 2, none⟩ (.int .i64 r1.r)).setCell ⟨g, 3, none⟩ (.int .i64 r1.e)).setCell ⟨g, 4, none⟩ (.int .i64 r1.c)).setCell ⟨g, 5, none⟩ (.int .i64 r1.t)).setCell ⟨g, 6, none⟩ (.int .i64 r1.a)) = v1 at HT HA HZ ⊢
  have hwg : w.heap.size ≤ g := by rw [← HP.out]; omega
  have HV : Hid (Up w v1) := Lib.hid (Below.out HV2.out HT.out.2 (fun k hk => by rw [hk]; exact hwg) HV2.out.size)
  have HG := Lib.hid HT.out.1
  have k0 : v1.cell? ⟨p, 0, none⟩ = some (.int .i64 x.s) := cell_of HA.out rfl
  have k1 : v1.cell? ⟨p, 1, none⟩ = some (.int .i64 x.v) := cell_of HA.out rfl
  have k2 : v1.cell? ⟨p, 2, none⟩ = some (.int .i64 x.r) := cell_of HA.out rfl
  have k3 : v1.cell? ⟨p, 3, none⟩ = some (.int .i64 x.e) := cell_of HA.out rfl
  have k4 : v1.cell? ⟨p, 4, none⟩ = some (.int .i64 x.c) := cell_of HA.out rfl
  have k5 : v1.cell? ⟨p, 5, none⟩ = some (.int .i64 x.t) := cell_of HA.out rfl
  have k6 : v1.cell? ⟨p, 6, none⟩ = some (.int .i64 x.a) := cell_of HA.out rfl
  have hz := HZ.out
  have hg := HG.out
  have f3 : ∀ j, v1.frozen? ⟨p + 1 + 1, j, none⟩ = false := fun j => frozen_at hz
  have q0 : v1.cell? ⟨p + 1 + 1, 0, none⟩ = some (.int .i64 0) := cell_of hz rfl
  have q1 : v1.cell? ⟨p + 1 + 1, 1, none⟩ = some (.int .i64 0) := cell_of hz rfl
  have q2 : v1.cell? ⟨p + 1 + 1, 2, none⟩ = some (.int .i64 0) := cell_of hz rfl
  have q3 : v1.cell? ⟨p + 1 + 1, 3, none⟩ = some (.int .i64 0) := cell_of hz rfl
  have q4 : v1.cell? ⟨p + 1 + 1, 4, none⟩ = some (.int .i64 0) := cell_of hz rfl
  have q5 : v1.cell? ⟨p + 1 + 1, 5, none⟩ = some (.int .i64 0) := cell_of hz rfl
  have q6 : v1.cell? ⟨p + 1 + 1, 6, none⟩ = some (.int .i64 0) := cell_of hz rfl
  have g0 : v1.cell? ⟨g, 0, none⟩ = some (.int .i64 r1.s) := cell_of hg rfl
  have g1 : v1.cell? ⟨g, 1, none⟩ = some (.int .i64 r1.v) := cell_of hg rfl
  have g2 : v1.cell? ⟨g, 2, none⟩ = some (.int .i64 r1.r) := cell_of hg rfl
  have g3 : v1.cell? ⟨g, 3, none⟩ = some (.int .i64 r1.e) := cell_of hg rfl
  have g4 : v1.cell? ⟨g, 4, none⟩ = some (.int .i64 r1.c) := cell_of hg rfl
  have g5 : v1.cell? ⟨g, 5, none⟩ = some (.int .i64 r1.t) := cell_of hg rfl
  have g6 : v1.cell? ⟨g, 6, none⟩ = some (.int .i64 r1.a) := cell_of hg rfl
  clear hz hg
  go_wp2_with fail
  have HT2 := (((((((Tr.refl HZ.out).set 0 (.int .i64 x.s)).set 1 (.int .i64 x.v)).set 2 (.int .i64 x.r)).set 3 (.int .i64 x.e)).set 4 (.int .i64 x.c)).set 5 (.int .i64 x.t)).set 6 (.int .i64 x.a)
  exact bodyPost_ret (results_cell_row (fn := Try.f23) (p := 4) (ty := 23) rfl _ _ (p + 1 + 1) 23 x.cs (0, 0) _ rfl HT2.1 Try.underlying23 rfl rfl) rfl ⟨rfl, Lib.hid (Below.out HV.out HT2.2 (fun k hk => by rw [hk, HP.out]; omega) HV.out.size)⟩
set_option maxRecDepth 100000 in
set_option maxHeartbeats 4000000 in
theorem walk_2f (x : Wy) (kd n : Int) (full : Bool) (hk : kd = 2) (r1 : Wy) (r2 : Int) (hr : (r2 != 0) = false) (H : ∀ wx, Calls Try.prog 14 #[.agg x.cs] wx (WRes r1 r2 wx)) (w : World) : Calls Try.prog 23 #[.agg x.cs, .agg (stp kd n full)] w (WV r1 w) := by
  have t1 : (kd == 1) = false := by simp only [beq_eq_false_iff_ne, ne_eq]; omega
  have t2 : (kd == 2) = true := by simp only [beq_iff_eq, ne_eq]; omega
  clear hk
  have hb0 := new_at w (.cells x.cs 23)
  have hb0 := (((up_alloc (w.alloc (.cells x.cs 23)) (.cells #[.int .i64 kd, .int .i64 n, .bool full] 38)).block _ (lt_of_blk hb0)).trans hb0)
  have hb0 := (((up_alloc ((w.alloc (.cells x.cs 23)).alloc (.cells #[.int .i64 kd, .int .i64 n, .bool full] 38)) (.cells #[.int .i64 0, .int .i64 0, .int .i64 0, .int .i64 0, .int .i64 0, .int .i64 0, .int .i64 0] 23)).block _ (lt_of_blk hb0)).trans hb0)
  have hs1 : (w.alloc (.cells x.cs 23)).heap.size = w.heap.size + 1 := by simp
  have hb1 := new_at (w.alloc (.cells x.cs 23)) (.cells #[.int .i64 kd, .int .i64 n, .bool full] 38)
  rw [hs1] at hb1
  have hb1 := (((up_alloc ((w.alloc (.cells x.cs 23)).alloc (.cells #[.int .i64 kd, .int .i64 n, .bool full] 38)) (.cells #[.int .i64 0, .int .i64 0, .int .i64 0, .int .i64 0, .int .i64 0, .int .i64 0, .int .i64 0] 23)).block _ (lt_of_blk hb1)).trans hb1)
  have hs2 : ((w.alloc (.cells x.cs 23)).alloc (.cells #[.int .i64 kd, .int .i64 n, .bool full] 38)).heap.size = w.heap.size + 1 + 1 := by simp
  have hb2 := new_at ((w.alloc (.cells x.cs 23)).alloc (.cells #[.int .i64 kd, .int .i64 n, .bool full] 38)) (.cells #[.int .i64 0, .int .i64 0, .int .i64 0, .int .i64 0, .int .i64 0, .int .i64 0, .int .i64 0] 23)
  rw [hs2] at hb2
  have hu : Up w (((w.alloc (.cells x.cs 23)).alloc (.cells #[.int .i64 kd, .int .i64 n, .bool full] 38)).alloc (.cells #[.int .i64 0, .int .i64 0, .int .i64 0, .int .i64 0, .int .i64 0, .int .i64 0, .int .i64 0] 23)) := ((up_alloc w (.cells x.cs 23)).trans (up_alloc (w.alloc (.cells x.cs 23)) (.cells #[.int .i64 kd, .int .i64 n, .bool full] 38))).trans (up_alloc ((w.alloc (.cells x.cs 23)).alloc (.cells #[.int .i64 kd, .int .i64 n, .bool full] 38)) (.cells #[.int .i64 0, .int .i64 0, .int .i64 0, .int .i64 0, .int .i64 0, .int .i64 0, .int .i64 0] 23))
  change (((w.alloc (.cells x.cs 23)).alloc (.cells #[.int .i64 kd, .int .i64 n, .bool full] 38)).alloc (.cells #[.int .i64 0, .int .i64 0, .int .i64 0, .int .i64 0, .int .i64 0, .int .i64 0, .int .i64 0] 23)).heap[w.heap.size]? = _ at hb0
  have HM0 := Lib.hid hb0
  change (((w.alloc (.cells x.cs 23)).alloc (.cells #[.int .i64 kd, .int .i64 n, .bool full] 38)).alloc (.cells #[.int .i64 0, .int .i64 0, .int .i64 0, .int .i64 0, .int .i64 0, .int .i64 0, .int .i64 0] 23)).heap[w.heap.size + 1]? = _ at hb1
  have HM1 := Lib.hid hb1
  change (((w.alloc (.cells x.cs 23)).alloc (.cells #[.int .i64 kd, .int .i64 n, .bool full] 38)).alloc (.cells #[.int .i64 0, .int .i64 0, .int .i64 0, .int .i64 0, .int .i64 0, .int .i64 0, .int .i64 0] 23)).heap[w.heap.size + 1 + 1]? = _ at hb2
  have HM2 := Lib.hid hb2
  have HU1 := Lib.hid hu
  clear hu hb0 hb1 hb2 hs1 hs2
  try clear hb0
  go_enter Try.func23, Try.ntmps23
  go_upto_region 1 with (fail)
  generalize (((w.alloc (.cells x.cs 23)).alloc (.cells #[.int .i64 kd, .int .i64 n, .bool full] 38)).alloc (.cells #[.int .i64 0, .int .i64 0, .int .i64 0, .int .i64 0, .int .i64 0, .int .i64 0, .int .i64 0] 23)) = v0 at HM0 HM1 HM2 HU1 ⊢
  obtain ⟨p, hp⟩ : ∃ p, p = w.heap.size := ⟨_, rfl⟩
  rw [← hp] at HM0 HM1 HM2 ⊢
  have HP := Lib.hid hp
  clear hp
  have k0 : v0.cell? ⟨p, 0, none⟩ = some (.int .i64 x.s) := cell_of HM0.out rfl
  have k1 : v0.cell? ⟨p, 1, none⟩ = some (.int .i64 x.v) := cell_of HM0.out rfl
  have k2 : v0.cell? ⟨p, 2, none⟩ = some (.int .i64 x.r) := cell_of HM0.out rfl
  have k3 : v0.cell? ⟨p, 3, none⟩ = some (.int .i64 x.e) := cell_of HM0.out rfl
  have k4 : v0.cell? ⟨p, 4, none⟩ = some (.int .i64 x.c) := cell_of HM0.out rfl
  have k5 : v0.cell? ⟨p, 5, none⟩ = some (.int .i64 x.t) := cell_of HM0.out rfl
  have k6 : v0.cell? ⟨p, 6, none⟩ = some (.int .i64 x.a) := cell_of HM0.out rfl
  go_upto_region 2 with (fail)
  have hn := new_at v0 (.cells x.cs 23)
  have hu := up_alloc v0 (.cells x.cs 23)
  have HG := Lib.hid hn
  have HA := Lib.hid ((hu.block _ (lt_of_blk HM0.out)).trans HM0.out)
  have HS := Lib.hid ((hu.block _ (lt_of_blk HM1.out)).trans HM1.out)
  have HZ := Lib.hid ((hu.block _ (lt_of_blk HM2.out)).trans HM2.out)
  have HV := Lib.hid (HU1.out.trans hu)
  have hlt : p + 1 + 1 < v0.heap.size := lt_of_blk HM2.out
  clear hn hu k0 k1 k2 k3 k4 k5 k6 HM0 HM1 HM2 HU1
  change Hid ((v0.alloc (.cells #[.int .i64 x.s, .int .i64 x.v, .int .i64 x.r, .int .i64 x.e, .int .i64 x.c, .int .i64 x.t, .int .i64 x.a] 23)).heap[v0.heap.size]? = _) at HG
  change Hid ((v0.alloc (.cells #[.int .i64 x.s, .int .i64 x.v, .int .i64 x.r, .int .i64 x.e, .int .i64 x.c, .int .i64 x.t, .int .i64 x.a] 23)).heap[p]? = _) at HA
  change Hid ((v0.alloc (.cells #[.int .i64 x.s, .int .i64 x.v, .int .i64 x.r, .int .i64 x.e, .int .i64 x.c, .int .i64 x.t, .int .i64 x.a] 23)).heap[p + 1]? = _) at HS
  change Hid ((v0.alloc (.cells #[.int .i64 x.s, .int .i64 x.v, .int .i64 x.r, .int .i64 x.e, .int .i64 x.c, .int .i64 x.t, .int .i64 x.a] 23)).heap[p + 1 + 1]? = _) at HZ
  change Hid (Up w (v0.alloc (.cells #[.int .i64 x.s, .int .i64 x.v, .int .i64 x.r, .int .i64 x.e, .int .i64 x.c, .int .i64 x.t, .int .i64 x.a] 23))) at HV
  generalize v0.alloc (.cells #[.int .i64 x.s, .int .i64 x.v, .int .i64 x.r, .int .i64 x.e, .int .i64 x.c, .int .i64 x.t, .int .i64 x.a] 23) = v1 at HG HA HS HZ HV ⊢
  generalize v0.heap.size = g at HG hlt ⊢
  have k0 : v1.cell? ⟨p, 0, none⟩ = some (.int .i64 x.s) := cell_of HA.out rfl
  have k1 : v1.cell? ⟨p, 1, none⟩ = some (.int .i64 x.v) := cell_of HA.out rfl
  have k2 : v1.cell? ⟨p, 2, none⟩ = some (.int .i64 x.r) := cell_of HA.out rfl
  have k3 : v1.cell? ⟨p, 3, none⟩ = some (.int .i64 x.e) := cell_of HA.out rfl
  have k4 : v1.cell? ⟨p, 4, none⟩ = some (.int .i64 x.c) := cell_of HA.out rfl
  have k5 : v1.cell? ⟨p, 5, none⟩ = some (.int .i64 x.t) := cell_of HA.out rfl
  have k6 : v1.cell? ⟨p, 6, none⟩ = some (.int .i64 x.a) := cell_of HA.out rfl
  have s0 : v1.cell? ⟨p + 1, 0, none⟩ = some (.int .i64 kd) := cell_of HS.out rfl
  have s1 : v1.cell? ⟨p + 1, 1, none⟩ = some (.int .i64 n) := cell_of HS.out rfl
  have s2 : v1.cell? ⟨p + 1, 2, none⟩ = some (.bool full) := cell_of HS.out rfl
  go_wp2_with fail
  refine (H _).mono ?_
  rintro e u ⟨rfl, HU⟩
  have ha := (HU.out.block _ (lt_of_blk HA.out)).trans HA.out
  have hg := (HU.out.block _ (lt_of_blk HG.out)).trans HG.out
  have hz := (HU.out.block _ (lt_of_blk HZ.out)).trans HZ.out
  have HV2 := Lib.hid (HV.out.trans HU.out)
  have HG2 := Lib.hid hg
  have HA2 := Lib.hid ha
  have HZ2 := Lib.hid hz
  clear k0 k1 k2 k3 k4 k5 k6 s0 s1 s2 HV HG HA HZ HS H
  have fg : ∀ j, u.frozen? ⟨g, j, none⟩ = false := fun j => frozen_at hg
  have g0 : u.cell? ⟨g, 0, none⟩ = some (.int .i64 x.s) := cell_of hg rfl
  have g1 : u.cell? ⟨g, 1, none⟩ = some (.int .i64 x.v) := cell_of hg rfl
  have g2 : u.cell? ⟨g, 2, none⟩ = some (.int .i64 x.r) := cell_of hg rfl
  have g3 : u.cell? ⟨g, 3, none⟩ = some (.int .i64 x.e) := cell_of hg rfl
  have g4 : u.cell? ⟨g, 4, none⟩ = some (.int .i64 x.c) := cell_of hg rfl
  have g5 : u.cell? ⟨g, 5, none⟩ = some (.int .i64 x.t) := cell_of hg rfl
  have g6 : u.cell? ⟨g, 6, none⟩ = some (.int .i64 x.a) := cell_of hg rfl
  clear ha hg hz
  go_upto_region 11 with (fail)
  have HT : Hid (Tr g r1.cs u (((((((u.setCell ⟨g, 0, none⟩ (.int .i64 r1.s)).setCell ⟨g, 1, none⟩ (.int .i64 r1.v)).setCell ⟨g, 2, none⟩ (.int .i64 r1.r)).setCell ⟨g, 3, none⟩ (.int .i64 r1.e)).setCell ⟨g, 4, none⟩ (.int .i64 r1.c)).setCell ⟨g, 5, none⟩ (.int .i64 r1.t)).setCell ⟨g, 6, none⟩ (.int .i64 r1.a))) := Lib.hid ((((((((Tr.refl HG2.out).set 0 (.int .i64 r1.s)).set 1 (.int .i64 r1.v)).set 2 (.int .i64 r1.r)).set 3 (.int .i64 r1.e)).set 4 (.int .i64 r1.c)).set 5 (.int .i64 r1.t)).set 6 (.int .i64 r1.a))
  have HA := Lib.hid (HT.out.2.blk HA2.out (by omega))
  have HZ := Lib.hid (HT.out.2.blk HZ2.out (by omega))
  clear fg g0 g1 g2 g3 g4 g5 g6 HG2 HA2 HZ2
  generalize (((((((u.setCell ⟨g, 0, none⟩ (.int .i64 r1.s)).setCell ⟨g, 1, none⟩ (.int .i64 r1.v)).setCell ⟨g, 2, none⟩ (.int .i64 r1.r)).setCell ⟨g, 3, none⟩ (.int .i64 r1.e)).setCell ⟨g, 4, none⟩ (.int .i64 r1.c)).setCell ⟨g, 5, none⟩ (.int .i64 r1.t)).setCell ⟨g, 6, none⟩ (.int .i64 r1.a)) = v1 at HT HA HZ ⊢
  have hwg : w.heap.size ≤ g := by rw [← HP.out]; omega
  have HV : Hid (Up w v1) := Lib.hid (Below.out HV2.out HT.out.2 (fun k hk => by rw [hk]; exact hwg) HV2.out.size)
  have HG := Lib.hid HT.out.1
  have k0 : v1.cell? ⟨p, 0, none⟩ = some (.int .i64 x.s) := cell_of HA.out rfl
  have k1 : v1.cell? ⟨p, 1, none⟩ = some (.int .i64 x.v) := cell_of HA.out rfl
  have k2 : v1.cell? ⟨p, 2, none⟩ = some (.int .i64 x.r) := cell_of HA.out rfl
  have k3 : v1.cell? ⟨p, 3, none⟩ = some (.int .i64 x.e) := cell_of HA.out rfl
  have k4 : v1.cell? ⟨p, 4, none⟩ = some (.int .i64 x.c) := cell_of HA.out rfl
  have k5 : v1.cell? ⟨p, 5, none⟩ = some (.int .i64 x.t) := cell_of HA.out rfl
  have k6 : v1.cell? ⟨p, 6, none⟩ = some (.int .i64 x.a) := cell_of HA.out rfl
  have hz := HZ.out
  have hg := HG.out
  have f3 : ∀ j, v1.frozen? ⟨p + 1 + 1, j, none⟩ = false := fun j => frozen_at hz
  have q0 : v1.cell? ⟨p + 1 + 1, 0, none⟩ = some (.int .i64 0) := cell_of hz rfl
  have q1 : v1.cell? ⟨p + 1 + 1, 1, none⟩ = some (.int .i64 0) := cell_of hz rfl
  have q2 : v1.cell? ⟨p + 1 + 1, 2, none⟩ = some (.int .i64 0) := cell_of hz rfl
  have q3 : v1.cell? ⟨p + 1 + 1, 3, none⟩ = some (.int .i64 0) := cell_of hz rfl
  have q4 : v1.cell? ⟨p + 1 + 1, 4, none⟩ = some (.int .i64 0) := cell_of hz rfl
  have q5 : v1.cell? ⟨p + 1 + 1, 5, none⟩ = some (.int .i64 0) := cell_of hz rfl
  have q6 : v1.cell? ⟨p + 1 + 1, 6, none⟩ = some (.int .i64 0) := cell_of hz rfl
  have g0 : v1.cell? ⟨g, 0, none⟩ = some (.int .i64 r1.s) := cell_of hg rfl
  have g1 : v1.cell? ⟨g, 1, none⟩ = some (.int .i64 r1.v) := cell_of hg rfl
  have g2 : v1.cell? ⟨g, 2, none⟩ = some (.int .i64 r1.r) := cell_of hg rfl
  have g3 : v1.cell? ⟨g, 3, none⟩ = some (.int .i64 r1.e) := cell_of hg rfl
  have g4 : v1.cell? ⟨g, 4, none⟩ = some (.int .i64 r1.c) := cell_of hg rfl
  have g5 : v1.cell? ⟨g, 5, none⟩ = some (.int .i64 r1.t) := cell_of hg rfl
  have g6 : v1.cell? ⟨g, 6, none⟩ = some (.int .i64 r1.a) := cell_of hg rfl
  clear hz hg
  go_wp2_with fail
  have HT2 := (((((((Tr.refl HZ.out).set 0 (.int .i64 r1.s)).set 1 (.int .i64 r1.v)).set 2 (.int .i64 r1.r)).set 3 (.int .i64 r1.e)).set 4 (.int .i64 r1.c)).set 5 (.int .i64 r1.t)).set 6 (.int .i64 r1.a)
  exact bodyPost_ret (results_cell_row (fn := Try.f23) (p := 4) (ty := 23) rfl _ _ (p + 1 + 1) 23 r1.cs (0, 0) _ rfl HT2.1 Try.underlying23 rfl rfl) rfl ⟨rfl, Lib.hid (Below.out HV.out HT2.2 (fun k hk => by rw [hk, HP.out]; omega) HV.out.size)⟩
set_option maxRecDepth 100000 in
set_option maxHeartbeats 4000000 in
theorem walk_3t (x : Wy) (kd n : Int) (full : Bool) (hk : kd = 3) (r1 : Wy) (r2 : Int) (hr : (r2 != 0) = true) (H : ∀ wx, Calls Try.prog 16 #[.agg x.cs] wx (WRes r1 r2 wx)) (w : World) : Calls Try.prog 23 #[.agg x.cs, .agg (stp kd n full)] w (WV x w) := by
  have t1 : (kd == 1) = false := by simp only [beq_eq_false_iff_ne, ne_eq]; omega
  have t2 : (kd == 2) = false := by simp only [beq_eq_false_iff_ne, ne_eq]; omega
  have t3 : (kd == 3) = true := by simp only [beq_iff_eq, ne_eq]; omega
  clear hk
  have hb0 := new_at w (.cells x.cs 23)
  have hb0 := (((up_alloc (w.alloc (.cells x.cs 23)) (.cells #[.int .i64 kd, .int .i64 n, .bool full] 38)).block _ (lt_of_blk hb0)).trans hb0)
  have hb0 := (((up_alloc ((w.alloc (.cells x.cs 23)).alloc (.cells #[.int .i64 kd, .int .i64 n, .bool full] 38)) (.cells #[.int .i64 0, .int .i64 0, .int .i64 0, .int .i64 0, .int .i64 0, .int .i64 0, .int .i64 0] 23)).block _ (lt_of_blk hb0)).trans hb0)
  have hs1 : (w.alloc (.cells x.cs 23)).heap.size = w.heap.size + 1 := by simp
  have hb1 := new_at (w.alloc (.cells x.cs 23)) (.cells #[.int .i64 kd, .int .i64 n, .bool full] 38)
  rw [hs1] at hb1
  have hb1 := (((up_alloc ((w.alloc (.cells x.cs 23)).alloc (.cells #[.int .i64 kd, .int .i64 n, .bool full] 38)) (.cells #[.int .i64 0, .int .i64 0, .int .i64 0, .int .i64 0, .int .i64 0, .int .i64 0, .int .i64 0] 23)).block _ (lt_of_blk hb1)).trans hb1)
  have hs2 : ((w.alloc (.cells x.cs 23)).alloc (.cells #[.int .i64 kd, .int .i64 n, .bool full] 38)).heap.size = w.heap.size + 1 + 1 := by simp
  have hb2 := new_at ((w.alloc (.cells x.cs 23)).alloc (.cells #[.int .i64 kd, .int .i64 n, .bool full] 38)) (.cells #[.int .i64 0, .int .i64 0, .int .i64 0, .int .i64 0, .int .i64 0, .int .i64 0, .int .i64 0] 23)
  rw [hs2] at hb2
  have hu : Up w (((w.alloc (.cells x.cs 23)).alloc (.cells #[.int .i64 kd, .int .i64 n, .bool full] 38)).alloc (.cells #[.int .i64 0, .int .i64 0, .int .i64 0, .int .i64 0, .int .i64 0, .int .i64 0, .int .i64 0] 23)) := ((up_alloc w (.cells x.cs 23)).trans (up_alloc (w.alloc (.cells x.cs 23)) (.cells #[.int .i64 kd, .int .i64 n, .bool full] 38))).trans (up_alloc ((w.alloc (.cells x.cs 23)).alloc (.cells #[.int .i64 kd, .int .i64 n, .bool full] 38)) (.cells #[.int .i64 0, .int .i64 0, .int .i64 0, .int .i64 0, .int .i64 0, .int .i64 0, .int .i64 0] 23))
  change (((w.alloc (.cells x.cs 23)).alloc (.cells #[.int .i64 kd, .int .i64 n, .bool full] 38)).alloc (.cells #[.int .i64 0, .int .i64 0, .int .i64 0, .int .i64 0, .int .i64 0, .int .i64 0, .int .i64 0] 23)).heap[w.heap.size]? = _ at hb0
  have HM0 := Lib.hid hb0
  change (((w.alloc (.cells x.cs 23)).alloc (.cells #[.int .i64 kd, .int .i64 n, .bool full] 38)).alloc (.cells #[.int .i64 0, .int .i64 0, .int .i64 0, .int .i64 0, .int .i64 0, .int .i64 0, .int .i64 0] 23)).heap[w.heap.size + 1]? = _ at hb1
  have HM1 := Lib.hid hb1
  change (((w.alloc (.cells x.cs 23)).alloc (.cells #[.int .i64 kd, .int .i64 n, .bool full] 38)).alloc (.cells #[.int .i64 0, .int .i64 0, .int .i64 0, .int .i64 0, .int .i64 0, .int .i64 0, .int .i64 0] 23)).heap[w.heap.size + 1 + 1]? = _ at hb2
  have HM2 := Lib.hid hb2
  have HU1 := Lib.hid hu
  clear hu hb0 hb1 hb2 hs1 hs2
  try clear hb0
  go_enter Try.func23, Try.ntmps23
  go_upto_region 1 with (fail)
  generalize (((w.alloc (.cells x.cs 23)).alloc (.cells #[.int .i64 kd, .int .i64 n, .bool full] 38)).alloc (.cells #[.int .i64 0, .int .i64 0, .int .i64 0, .int .i64 0, .int .i64 0, .int .i64 0, .int .i64 0] 23)) = v0 at HM0 HM1 HM2 HU1 ⊢
  obtain ⟨p, hp⟩ : ∃ p, p = w.heap.size := ⟨_, rfl⟩
  rw [← hp] at HM0 HM1 HM2 ⊢
  have HP := Lib.hid hp
  clear hp
  have k0 : v0.cell? ⟨p, 0, none⟩ = some (.int .i64 x.s) := cell_of HM0.out rfl
  have k1 : v0.cell? ⟨p, 1, none⟩ = some (.int .i64 x.v) := cell_of HM0.out rfl
  have k2 : v0.cell? ⟨p, 2, none⟩ = some (.int .i64 x.r) := cell_of HM0.out rfl
  have k3 : v0.cell? ⟨p, 3, none⟩ = some (.int .i64 x.e) := cell_of HM0.out rfl
  have k4 : v0.cell? ⟨p, 4, none⟩ = some (.int .i64 x.c) := cell_of HM0.out rfl
  have k5 : v0.cell? ⟨p, 5, none⟩ = some (.int .i64 x.t) := cell_of HM0.out rfl
  have k6 : v0.cell? ⟨p, 6, none⟩ = some (.int .i64 x.a) := cell_of HM0.out rfl
  go_upto_region 2 with (fail)
  have hn := new_at v0 (.cells x.cs 23)
  have hu := up_alloc v0 (.cells x.cs 23)
  have HG := Lib.hid hn
  have HA := Lib.hid ((hu.block _ (lt_of_blk HM0.out)).trans HM0.out)
  have HS := Lib.hid ((hu.block _ (lt_of_blk HM1.out)).trans HM1.out)
  have HZ := Lib.hid ((hu.block _ (lt_of_blk HM2.out)).trans HM2.out)
  have HV := Lib.hid (HU1.out.trans hu)
  have hlt : p + 1 + 1 < v0.heap.size := lt_of_blk HM2.out
  clear hn hu k0 k1 k2 k3 k4 k5 k6 HM0 HM1 HM2 HU1
  change Hid ((v0.alloc (.cells #[.int .i64 x.s, .int .i64 x.v, .int .i64 x.r, .int .i64 x.e, .int .i64 x.c, .int .i64 x.t, .int .i64 x.a] 23)).heap[v0.heap.size]? = _) at HG
  change Hid ((v0.alloc (.cells #[.int .i64 x.s, .int .i64 x.v, .int .i64 x.r, .int .i64 x.e, .int .i64 x.c, .int .i64 x.t, .int .i64 x.a] 23)).heap[p]? = _) at HA
  change Hid ((v0.alloc (.cells #[.int .i64 x.s, .int .i64 x.v, .int .i64 x.r, .int .i64 x.e, .int .i64 x.c, .int .i64 x.t, .int .i64 x.a] 23)).heap[p + 1]? = _) at HS
  change Hid ((v0.alloc (.cells #[.int .i64 x.s, .int .i64 x.v, .int .i64 x.r, .int .i64 x.e, .int .i64 x.c, .int .i64 x.t, .int .i64 x.a] 23)).heap[p + 1 + 1]? = _) at HZ
  change Hid (Up w (v0.alloc (.cells #[.int .i64 x.s, .int .i64 x.v, .int .i64 x.r, .int .i64 x.e, .int .i64 x.c, .int .i64 x.t, .int .i64 x.a] 23))) at HV
  generalize v0.alloc (.cells #[.int .i64 x.s, .int .i64 x.v, .int .i64 x.r, .int .i64 x.e, .int .i64 x.c, .int .i64 x.t, .int .i64 x.a] 23) = v1 at HG HA HS HZ HV ⊢
  generalize v0.heap.size = g at HG hlt ⊢
  have k0 : v1.cell? ⟨p, 0, none⟩ = some (.int .i64 x.s) := cell_of HA.out rfl
  have k1 : v1.cell? ⟨p, 1, none⟩ = some (.int .i64 x.v) := cell_of HA.out rfl
  have k2 : v1.cell? ⟨p, 2, none⟩ = some (.int .i64 x.r) := cell_of HA.out rfl
  have k3 : v1.cell? ⟨p, 3, none⟩ = some (.int .i64 x.e) := cell_of HA.out rfl
  have k4 : v1.cell? ⟨p, 4, none⟩ = some (.int .i64 x.c) := cell_of HA.out rfl
  have k5 : v1.cell? ⟨p, 5, none⟩ = some (.int .i64 x.t) := cell_of HA.out rfl
  have k6 : v1.cell? ⟨p, 6, none⟩ = some (.int .i64 x.a) := cell_of HA.out rfl
  have s0 : v1.cell? ⟨p + 1, 0, none⟩ = some (.int .i64 kd) := cell_of HS.out rfl
  have s1 : v1.cell? ⟨p + 1, 1, none⟩ = some (.int .i64 n) := cell_of HS.out rfl
  have s2 : v1.cell? ⟨p + 1, 2, none⟩ = some (.bool full) := cell_of HS.out rfl
  go_wp2_with fail
  refine (H _).mono ?_
  rintro e u ⟨rfl, HU⟩
  have ha := (HU.out.block _ (lt_of_blk HA.out)).trans HA.out
  have hg := (HU.out.block _ (lt_of_blk HG.out)).trans HG.out
  have hz := (HU.out.block _ (lt_of_blk HZ.out)).trans HZ.out
  have HV2 := Lib.hid (HV.out.trans HU.out)
  have HG2 := Lib.hid hg
  have HA2 := Lib.hid ha
  have HZ2 := Lib.hid hz
  clear k0 k1 k2 k3 k4 k5 k6 s0 s1 s2 HV HG HA HZ HS H
  have fg : ∀ j, u.frozen? ⟨g, j, none⟩ = false := fun j => frozen_at hg
  have g0 : u.cell? ⟨g, 0, none⟩ = some (.int .i64 x.s) := cell_of hg rfl
  have g1 : u.cell? ⟨g, 1, none⟩ = some (.int .i64 x.v) := cell_of hg rfl
  have g2 : u.cell? ⟨g, 2, none⟩ = some (.int .i64 x.r) := cell_of hg rfl
  have g3 : u.cell? ⟨g, 3, none⟩ = some (.int .i64 x.e) := cell_of hg rfl
  have g4 : u.cell? ⟨g, 4, none⟩ = some (.int .i64 x.c) := cell_of hg rfl
  have g5 : u.cell? ⟨g, 5, none⟩ = some (.int .i64 x.t) := cell_of hg rfl
  have g6 : u.cell? ⟨g, 6, none⟩ = some (.int .i64 x.a) := cell_of hg rfl
  clear ha hg hz
  go_upto_region 11 with (fail)
  have HT : Hid (Tr g r1.cs u (((((((u.setCell ⟨g, 0, none⟩ (.int .i64 r1.s)).setCell ⟨g, 1, none⟩ (.int .i64 r1.v)).setCell ⟨g, 2, none⟩ (.int .i64 r1.r)).setCell ⟨g, 3, none⟩ (.int .i64 r1.e)).setCell ⟨g, 4, none⟩ (.int .i64 r1.c)).setCell ⟨g, 5, none⟩ (.int .i64 r1.t)).setCell ⟨g, 6, none⟩ (.int .i64 r1.a))) := Lib.hid ((((((((Tr.refl HG2.out).set 0 (.int .i64 r1.s)).set 1 (.int .i64 r1.v)).set 2 (.int .i64 r1.r)).set 3 (.int .i64 r1.e)).set 4 (.int .i64 r1.c)).set 5 (.int .i64 r1.t)).set 6 (.int .i64 r1.a))
  have HA := Lib.hid (HT.out.2.blk HA2.out (by omega))
  have HZ := Lib.hid (HT.out.2.blk HZ2.out (by omega))
  clear fg g0 g1 g2 g3 g4 g5 g6 HG2 HA2 HZ2
  generalize (((((((u.setCell ⟨g, 0, none⟩ (.int .i64 r1.s)).setCell ⟨g, 1, none⟩ (.int .i64 r1.v)).setCell ⟨g, 2, none⟩ (.int .i64 r1.r)).setCell ⟨g, 3, none⟩ (.int .i64 r1.e)).setCell ⟨g, 4, none⟩ (.int .i64 r1.c)).setCell ⟨g, 5, none⟩ (.int .i64 r1.t)).setCell ⟨g, 6, none⟩ (.int .i64 r1.a)) = v1 at HT HA HZ ⊢
  have hwg : w.heap.size ≤ g := by rw [← HP.out]; omega
  have HV : Hid (Up w v1) := Lib.hid (Below.out HV2.out HT.out.2 (fun k hk => by rw [hk]; exact hwg) HV2.out.size)
  have HG := Lib.hid HT.out.1
  have k0 : v1.cell? ⟨p, 0, none⟩ = some (.int .i64 x.s) := cell_of HA.out rfl
  have k1 : v1.cell? ⟨p, 1, none⟩ = some (.int .i64 x.v) := cell_of HA.out rfl
  have k2 : v1.cell? ⟨p, 2, none⟩ = some (.int .i64 x.r) := cell_of HA.out rfl
  have k3 : v1.cell? ⟨p, 3, none⟩ = some (.int .i64 x.e) := cell_of HA.out rfl
  have k4 : v1.cell? ⟨p, 4, none⟩ = some (.int .i64 x.c) := cell_of HA.out rfl
  have k5 : v1.cell? ⟨p, 5, none⟩ = some (.int .i64 x.t) := cell_of HA.out rfl
  have k6 : v1.cell? ⟨p, 6, none⟩ = some (.int .i64 x.a) := cell_of HA.out rfl
  have hz := HZ.out
  have hg := HG.out
  have f3 : ∀ j, v1.frozen? ⟨p + 1 + 1, j, none⟩ = false := fun j => frozen_at hz
  have q0 : v1.cell? ⟨p + 1 + 1, 0, none⟩ = some (.int .i64 0) := cell_of hz rfl
  have q1 : v1.cell? ⟨p + 1 + 1, 1, none⟩ = some (.int .i64 0) := cell_of hz rfl
  have q2 : v1.cell? ⟨p + 1 + 1, 2, none⟩ = some (.int .i64 0) := cell_of hz rfl
  have q3 : v1.cell? ⟨p + 1 + 1, 3, none⟩ = some (.int .i64 0) := cell_of hz rfl
  have q4 : v1.cell? ⟨p + 1 + 1, 4, none⟩ = some (.int .i64 0) := cell_of hz rfl
  have q5 : v1.cell? ⟨p + 1 + 1, 5, none⟩ = some (.int .i64 0) := cell_of hz rfl
  have q6 : v1.cell? ⟨p + 1 + 1, 6, none⟩ = some (.int .i64 0) := cell_of hz rfl
  have g0 : v1.cell? ⟨g, 0, none⟩ = some (.int .i64 r1.s) := cell_of hg rfl
  have g1 : v1.cell? ⟨g, 1, none⟩ = some (.int .i64 r1.v) := cell_of hg rfl
  have g2 : v1.cell? ⟨g, 2, none⟩ = some (.int .i64 r1.r) := cell_of hg rfl
  have g3 : v1.cell? ⟨g, 3, none⟩ = some (.int .i64 r1.e) := cell_of hg rfl
  have g4 : v1.cell? ⟨g, 4, none⟩ = some (.int .i64 r1.c) := cell_of hg rfl
  have g5 : v1.cell? ⟨g, 5, none⟩ = some (.int .i64 r1.t) := cell_of hg rfl
  have g6 : v1.cell? ⟨g, 6, none⟩ = some (.int .i64 r1.a) := cell_of hg rfl
  clear hz hg
  go_wp2_with fail
  have HT2 := (((((((Tr.refl HZ.out).set 0 (.int .i64 x.s)).set 1 (.int .i64 x.v)).set 2 (.int .i64 x.r)).set 3 (.int .i64 x.e)).set 4 (.int .i64 x.c)).set 5 (.int .i64 x.t)).set 6 (.int .i64 x.a)
  exact bodyPost_ret (results_cell_row (fn := Try.f23) (p := 4) (ty := 23) rfl _ _ (p + 1 + 1) 23 x.cs (0, 0) _ rfl HT2.1 Try.underlying23 rfl rfl) rfl ⟨rfl, Lib.hid (Below.out HV.out HT2.2 (fun k hk => by rw [hk, HP.out]; omega) HV.out.size)⟩
set_option maxRecDepth 100000 in
set_option maxHeartbeats 4000000 in
theorem walk_3f (x : Wy) (kd n : Int) (full : Bool) (hk : kd = 3) (r1 : Wy) (r2 : Int) (hr : (r2 != 0) = false) (H : ∀ wx, Calls Try.prog 16 #[.agg x.cs] wx (WRes r1 r2 wx)) (w : World) : Calls Try.prog 23 #[.agg x.cs, .agg (stp kd n full)] w (WV r1 w) := by
  have t1 : (kd == 1) = false := by simp only [beq_eq_false_iff_ne, ne_eq]; omega
  have t2 : (kd == 2) = false := by simp only [beq_eq_false_iff_ne, ne_eq]; omega
  have t3 : (kd == 3) = true := by simp only [beq_iff_eq, ne_eq]; omega
  clear hk
  have hb0 := new_at w (.cells x.cs 23)
  have hb0 := (((up_alloc (w.alloc (.cells x.cs 23)) (.cells #[.int .i64 kd, .int .i64 n, .bool full] 38)).block _ (lt_of_blk hb0)).trans hb0)
  have hb0 := (((up_alloc ((w.alloc (.cells x.cs 23)).alloc (.cells #[.int .i64 kd, .int .i64 n, .bool full] 38)) (.cells #[.int .i64 0, .int .i64 0, .int .i64 0, .int .i64 0, .int .i64 0, .int .i64 0, .int .i64 0] 23)).block _ (lt_of_blk hb0)).trans hb0)
  have hs1 : (w.alloc (.cells x.cs 23)).heap.size = w.heap.size + 1 := by simp
  have hb1 := new_at (w.alloc (.cells x.cs 23)) (.cells #[.int .i64 kd, .int .i64 n, .bool full] 38)
  rw [hs1] at hb1
  have hb1 := (((up_alloc ((w.alloc (.cells x.cs 23)).alloc (.cells #[.int .i64 kd, .int .i64 n, .bool full] 38)) (.cells #[.int .i64 0, .int .i64 0, .int .i64 0, .int .i64 0, .int .i64 0, .int .i64 0, .int .i64 0] 23)).block _ (lt_of_blk hb1)).trans hb1)
  have hs2 : ((w.alloc (.cells x.cs 23)).alloc (.cells #[.int .i64 kd, .int .i64 n, .bool full] 38)).heap.size = w.heap.size + 1 + 1 := by simp
  have hb2 := new_at ((w.alloc (.cells x.cs 23)).alloc (.cells #[.int .i64 kd, .int .i64 n, .bool full] 38)) (.cells #[.int .i64 0, .int .i64 0, .int .i64 0, .int .i64 0, .int .i64 0, .int .i64 0, .int .i64 0] 23)
  rw [hs2] at hb2
  have hu : Up w (((w.alloc (.cells x.cs 23)).alloc (.cells #[.int .i64 kd, .int .i64 n, .bool full] 38)).alloc (.cells #[.int .i64 0, .int .i64 0, .int .i64 0, .int .i64 0, .int .i64 0, .int .i64 0, .int .i64 0] 23)) := ((up_alloc w (.cells x.cs 23)).trans (up_alloc (w.alloc (.cells x.cs 23)) (.cells #[.int .i64 kd, .int .i64 n, .bool full] 38))).trans (up_alloc ((w.alloc (.cells x.cs 23)).alloc (.cells #[.int .i64 kd, .int .i64 n, .bool full] 38)) (.cells #[.int .i64 0, .int .i64 0, .int .i64 0, .int .i64 0, .int .i64 0, .int .i64 0, .int .i64 0] 23))
  change (((w.alloc (.cells x.cs 23)).alloc (.cells #[.int .i64 kd, .int .i64 n, .bool full] 38)).alloc (.cells #[.int .i64 0, .int .i64 0, .int .i64 0, .int .i64 0, .int .i64 0, .int .i64 0, .int .i64 0] 23)).heap[w.heap.size]? = _ at hb0
  have HM0 := Lib.hid hb0
  change (((w.alloc (.cells x.cs 23)).alloc (.cells #[.int .i64 kd, .int .i64 n, .bool full] 38)).alloc (.cells #[.int .i64 0, .int .i64 0, .int .i64 0, .int .i64 0, .int .i64 0, .int .i64 0, .int .i64 0] 23)).heap[w.heap.size + 1]? = _ at hb1
  have HM1 := Lib.hid hb1
  change (((w.alloc (.cells x.cs 23)).alloc (.cells #[.int .i64 kd, .int .i64 n, .bool full] 38)).alloc (.cells #[.int .i64 0, .int .i64 0, .int .i64 0, .int .i64 0, .int .i64 0, .int .i64 0, .int .i64 0] 23)).heap[w.heap.size + 1 + 1]? = _ at hb2
  have HM2 := Lib.hid hb2
  have HU1 := Lib.hid hu
  clear hu hb0 hb1 hb2 hs1 hs2
  try clear hb0
  go_enter Try.func23, Try.ntmps23
  go_upto_region 1 with (fail)
  generalize (((w.alloc (.cells x.cs 23)).alloc (.cells #[.int .i64 kd, .int .i64 n, .bool full] 38)).alloc (.cells #[.int .i64 0, .int .i64 0, .int .i64 0, .int .i64 0, .int .i64 0, .int .i64 0, .int .i64 0] 23)) = v0 at HM0 HM1 HM2 HU1 ⊢
  obtain ⟨p, hp⟩ : ∃ p, p = w.heap.size := ⟨_, rfl⟩
  rw [← hp] at HM0 HM1 HM2 ⊢
  have HP := Lib.hid hp
  clear hp
  have k0 : v0.cell? ⟨p, 0, none⟩ = some (.int .i64 x.s) := cell_of HM0.out rfl
  have k1 : v0.cell? ⟨p, 1, none⟩ = some (.int .i64 x.v) := cell_of HM0.out rfl
  have k2 : v0.cell? ⟨p, 2, none⟩ = some (.int .i64 x.r) := cell_of HM0.out rfl
  have k3 : v0.cell? ⟨p, 3, none⟩ = some (.int .i64 x.e) := cell_of HM0.out rfl
  have k4 : v0.cell? ⟨p, 4, none⟩ = some (.int .i64 x.c) := cell_of HM0.out rfl
  have k5 : v0.cell? ⟨p, 5, none⟩ = some (.int .i64 x.t) := cell_of HM0.out rfl
  have k6 : v0.cell? ⟨p, 6, none⟩ = some (.int .i64 x.a) := cell_of HM0.out rfl
  go_upto_region 2 with (fail)
  have hn := new_at v0 (.cells x.cs 23)
  have hu := up_alloc v0 (.cells x.cs 23)
  have HG := Lib.hid hn
  have HA := Lib.hid ((hu.block _ (lt_of_blk HM0.out)).trans HM0.out)
  have HS := Lib.hid ((hu.block _ (lt_of_blk HM1.out)).trans HM1.out)
  have HZ := Lib.hid ((hu.block _ (lt_of_blk HM2.out)).trans HM2.out)
  have HV := Lib.hid (HU1.out.trans hu)
  have hlt : p + 1 + 1 < v0.heap.size := lt_of_blk HM2.out
  clear hn hu k0 k1 k2 k3 k4 k5 k6 HM0 HM1 HM2 HU1
  change Hid ((v0.alloc (.cells #[.int .i64 x.s, .int .i64 x.v, .int .i64 x.r, .int .i64 x.e, .int .i64 x.c, .int .i64 x.t, .int .i64 x.a] 23)).heap[v0.heap.size]? = _) at HG
  change Hid ((v0.alloc (.cells #[.int .i64 x.s, .int .i64 x.v, .int .i64 x.r, .int .i64 x.e, .int .i64 x.c, .int .i64 x.t, .int .i64 x.a] 23)).heap[p]? = _) at HA
  change Hid ((v0.alloc (.cells #[.int .i64 x.s, .int .i64 x.v, .int .i64 x.r, .int .i64 x.e, .int .i64 x.c, .int .i64 x.t, .int .i64 x.a] 23)).heap[p + 1]? = _) at HS
  change Hid ((v0.alloc (.cells #[.int .i64 x.s, .int .i64 x.v, .int .i64 x.r, .int .i64 x.e, .int .i64 x.c, .int .i64 x.t, .int .i64 x.a] 23)).heap[p + 1 + 1]? = _) at HZ
  change Hid (Up w (v0.alloc (.cells #[.int .i64 x.s, .int .i64 x.v, .int .i64 x.r, .int .i64 x.e, .int .i64 x.c, .int .i64 x.t, .int .i64 x.a] 23))) at HV
  generalize v0.alloc (.cells #[.int .i64 x.s, .int .i64 x.v, .int .i64 x.r, .int .i64 x.e, .int .i64 x.c, .int .i64 x.t, .int .i64 x.a] 23) = v1 at HG HA HS HZ HV ⊢
  generalize v0.heap.size = g at HG hlt ⊢
  have k0 : v1.cell? ⟨p, 0, none⟩ = some (.int .i64 x.s) := cell_of HA.out rfl
  have k1 : v1.cell? ⟨p, 1, none⟩ = some (.int .i64 x.v) := cell_of HA.out rfl
  have k2 : v1.cell? ⟨p, 2, none⟩ = some (.int .i64 x.r) := cell_of HA.out rfl
  have k3 : v1.cell? ⟨p, 3, none⟩ = some (.int .i64 x.e) := cell_of HA.out rfl
  have k4 : v1.cell? ⟨p, 4, none⟩ = some (.int .i64 x.c) := cell_of HA.out rfl
  have k5 : v1.cell? ⟨p, 5, none⟩ = some (.int .i64 x.t) := cell_of HA.out rfl
  have k6 : v1.cell? ⟨p, 6, none⟩ = some (.int .i64 x.a) := cell_of HA.out rfl
  have s0 : v1.cell? ⟨p + 1, 0, none⟩ = some (.int .i64 kd) := cell_of HS.out rfl
  have s1 : v1.cell? ⟨p + 1, 1, none⟩ = some (.int .i64 n) := cell_of HS.out rfl
  have s2 : v1.cell? ⟨p + 1, 2, none⟩ = some (.bool full) := cell_of HS.out rfl
  go_wp2_with fail
  refine (H _).mono ?_
  rintro e u ⟨rfl, HU⟩
  have ha := (HU.out.block _ (lt_of_blk HA.out)).trans HA.out
  have hg := (HU.out.block _ (lt_of_blk HG.out)).trans HG.out
  have hz := (HU.out.block _ (lt_of_blk HZ.out)).trans HZ.out
  have HV2 := Lib.hid (HV.out.trans HU.out)
  have HG2 := Lib.hid hg
  have HA2 := Lib.hid ha
  have HZ2 := Lib.hid hz
  clear k0 k1 k2 k3 k4 k5 k6 s0 s1 s2 HV HG HA HZ HS H
  have fg : ∀ j, u.frozen? ⟨g, j, none⟩ = false := fun j => frozen_at hg
  have g0 : u.cell? ⟨g, 0, none⟩ = some (.int .i64 x.s) := cell_of hg rfl
  have g1 : u.cell? ⟨g, 1, none⟩ = some (.int .i64 x.v) := cell_of hg rfl
  have g2 : u.cell? ⟨g, 2, none⟩ = some (.int .i64 x.r) := cell_of hg rfl
  have g3 : u.cell? ⟨g, 3, none⟩ = some (.int .i64 x.e) := cell_of hg rfl
  have g4 : u.cell? ⟨g, 4, none⟩ = some (.int .i64 x.c) := cell_of hg rfl
  have g5 : u.cell? ⟨g, 5, none⟩ = some (.int .i64 x.t) := cell_of hg rfl
  have g6 : u.cell? ⟨g, 6, none⟩ = some (.int .i64 x.a) := cell_of hg rfl
  clear ha hg hz
  go_upto_region 11 with (fail)
  have HT : Hid (Tr g r1.cs u (((((((u.setCell ⟨g, 0, none⟩ (.int .i64 r1.s)).setCell ⟨g, 1, none⟩ (.int .i64 r1.v)).setCell ⟨g, 2, none⟩ (.int .i64 r1.r)).setCell ⟨g, 3, none⟩ (.int .i64 r1.e)).setCell ⟨g, 4, none⟩ (.int .i64 r1.c)).setCell ⟨g, 5, none⟩ (.int .i64 r1.t)).setCell ⟨g, 6, none⟩ (.int .i64 r1.a))) := Lib.hid ((((((((Tr.refl HG2.out).set 0 (.int .i64 r1.s)).set 1 (.int .i64 r1.v)).set 2 (.int .i64 r1.r)).set 3 (.int .i64 r1.e)).set 4 (.int .i64 r1.c)).set 5 (.int .i64 r1.t)).set 6 (.int .i64 r1.a))
  have HA := Lib.hid (HT.out.2.blk HA2.out (by omega))
  have HZ := Lib.hid (HT.out.2.blk HZ2.out (by omega))
  clear fg g0 g1 g2 g3 g4 g5 g6 HG2 HA2 HZ2
  generalize (((((((u.setCell ⟨g, 0, none⟩ (.int .i64 r1.s)).setCell ⟨g, 1, none⟩ (.int .i64 r1.v)).setCell ⟨g, 2, none⟩ (.int .i64 r1.r)).setCell ⟨g, 3, none⟩ (.int .i64 r1.e)).setCell ⟨g, 4, none⟩ (.int .i64 r1.c)).setCell ⟨g, 5, none⟩ (.int .i64 r1.t)).setCell ⟨g, 6, none⟩ (.int .i64 r1.a)) = v1 at HT HA HZ ⊢
  have hwg : w.heap.size ≤ g := by rw [← HP.out]; omega
  have HV : Hid (Up w v1) := Lib.hid (Below.out HV2.out HT.out.2 (fun k hk => by rw [hk]; exact hwg) HV2.out.size)
  have HG := Lib.hid HT.out.1
  have k0 : v1.cell? ⟨p, 0, none⟩ = some (.int .i64 x.s) := cell_of HA.out rfl
  have k1 : v1.cell? ⟨p, 1, none⟩ = some (.int .i64 x.v) := cell_of HA.out rfl
  have k2 : v1.cell? ⟨p, 2, none⟩ = some (.int .i64 x.r) := cell_of HA.out rfl
  have k3 : v1.cell? ⟨p, 3, none⟩ = some (.int .i64 x.e) := cell_of HA.out rfl
  have k4 : v1.cell? ⟨p, 4, none⟩ = some (.int .i64 x.c) := cell_of HA.out rfl
  have k5 : v1.cell? ⟨p, 5, none⟩ = some (.int .i64 x.t) := cell_of HA.out rfl
  have k6 : v1.cell? ⟨p, 6, none⟩ = some (.int .i64 x.a) := cell_of HA.out rfl
  have hz := HZ.out
  have hg := HG.out
  have f3 : ∀ j, v1.frozen? ⟨p + 1 + 1, j, none⟩ = false := fun j => frozen_at hz
  have q0 : v1.cell? ⟨p + 1 + 1, 0, none⟩ = some (.int .i64 0) := cell_of hz rfl
  have q1 : v1.cell? ⟨p + 1 + 1, 1, none⟩ = some (.int .i64 0) := cell_of hz rfl
  have q2 : v1.cell? ⟨p + 1 + 1, 2, none⟩ = some (.int .i64 0) := cell_of hz rfl
  have q3 : v1.cell? ⟨p + 1 + 1, 3, none⟩ = some (.int .i64 0) := cell_of hz rfl
  have q4 : v1.cell? ⟨p + 1 + 1, 4, none⟩ = some (.int .i64 0) := cell_of hz rfl
  have q5 : v1.cell? ⟨p + 1 + 1, 5, none⟩ = some (.int .i64 0) := cell_of hz rfl
  have q6 : v1.cell? ⟨p + 1 + 1, 6, none⟩ = some (.int .i64 0) := cell_of hz rfl
  have g0 : v1.cell? ⟨g, 0, none⟩ = some (.int .i64 r1.s) := cell_of hg rfl
  have g1 : v1.cell? ⟨g, 1, none⟩ = some (.int .i64 r1.v) := cell_of hg rfl
  have g2 : v1.cell? ⟨g, 2, none⟩ = some (.int .i64 r1.r) := cell_of hg rfl
  have g3 : v1.cell? ⟨g, 3, none⟩ = some (.int .i64 r1.e) := cell_of hg rfl
  have g4 : v1.cell? ⟨g, 4, none⟩ = some (.int .i64 r1.c) := cell_of hg rfl
  have g5 : v1.cell? ⟨g, 5, none⟩ = some (.int .i64 r1.t) := cell_of hg rfl
  have g6 : v1.cell? ⟨g, 6, none⟩ = some (.int .i64 r1.a) := cell_of hg rfl
  clear hz hg
  go_wp2_with fail
  have HT2 := (((((((Tr.refl HZ.out).set 0 (.int .i64 r1.s)).set 1 (.int .i64 r1.v)).set 2 (.int .i64 r1.r)).set 3 (.int .i64 r1.e)).set 4 (.int .i64 r1.c)).set 5 (.int .i64 r1.t)).set 6 (.int .i64 r1.a)
  exact bodyPost_ret (results_cell_row (fn := Try.f23) (p := 4) (ty := 23) rfl _ _ (p + 1 + 1) 23 r1.cs (0, 0) _ rfl HT2.1 Try.underlying23 rfl rfl) rfl ⟨rfl, Lib.hid (Below.out HV.out HT2.2 (fun k hk => by rw [hk, HP.out]; omega) HV.out.size)⟩
set_option maxRecDepth 100000 in
set_option maxHeartbeats 4000000 in
theorem walk_4t (x : Wy) (kd n : Int) (full : Bool) (hk : kd = 4) (r1 : Wy) (r2 : Int) (hr : (r2 != 0) = true) (H : ∀ wx, Calls Try.prog 18 #[.agg x.cs, .int .i64 n, .bool full] wx (WRes r1 r2 wx)) (w : World) : Calls Try.prog 23 #[.agg x.cs, .agg (stp kd n full)] w (WV x w) := by
  have t1 : (kd == 1) = false := by simp only [beq_eq_false_iff_ne, ne_eq]; omega
  have t2 : (kd == 2) = false := by simp only [beq_eq_false_iff_ne, ne_eq]; omega
  have t3 : (kd == 3) = false := by simp only [beq_eq_false_iff_ne, ne_eq]; omega
  have t4 : (kd == 4) = true := by simp only [beq_iff_eq, ne_eq]; omega
  clear hk
  have hb0 := new_at w (.cells x.cs 23)
  have hb0 := (((up_alloc (w.alloc (.cells x.cs 23)) (.cells #[.int .i64 kd, .int .i64 n, .bool full] 38)).block _ (lt_of_blk hb0)).trans hb0)
  have hb0 := (((up_alloc ((w.alloc (.cells x.cs 23)).alloc (.cells #[.int .i64 kd, .int .i64 n, .bool full] 38)) (.cells #[.int .i64 0, .int .i64 0, .int .i64 0, .int .i64 0, .int .i64 0, .int .i64 0, .int .i64 0] 23)).block _ (lt_of_blk hb0)).trans hb0)
  have hs1 : (w.alloc (.cells x.cs 23)).heap.size = w.heap.size + 1 := by simp
  have hb1 := new_at (w.alloc (.cells x.cs 23)) (.cells #[.int .i64 kd, .int .i64 n, .bool full] 38)
  rw [hs1] at hb1
  have hb1 := (((up_alloc ((w.alloc (.cells x.cs 23)).alloc (.cells #[.int .i64 kd, .int .i64 n, .bool full] 38)) (.cells #[.int .i64 0, .int .i64 0, .int .i64 0, .int .i64 0, .int .i64 0, .int .i64 0, .int .i64 0] 23)).block _ (lt_of_blk hb1)).trans hb1)
  have hs2 : ((w.alloc (.cells x.cs 23)).alloc (.cells #[.int .i64 kd, .int .i64 n, .bool full] 38)).heap.size = w.heap.size + 1 + 1 := by simp
  have hb2 := new_at ((w.alloc (.cells x.cs 23)).alloc (.cells #[.int .i64 kd, .int .i64 n, .bool full] 38)) (.cells #[.int .i64 0, .int .i64 0, .int .i64 0, .int .i64 0, .int .i64 0, .int .i64 0, .int .i64 0] 23)
  rw [hs2] at hb2
  have hu : Up w (((w.alloc (.cells x.cs 23)).alloc (.cells #[.int .i64 kd, .int .i64 n, .bool full] 38)).alloc (.cells #[.int .i64 0, .int .i64 0, .int .i64 0, .int .i64 0, .int .i64 0, .int .i64 0, .int .i64 0] 23)) := ((up_alloc w (.cells x.cs 23)).trans (up_alloc (w.alloc (.cells x.cs 23)) (.cells #[.int .i64 kd, .int .i64 n, .bool full] 38))).trans (up_alloc ((w.alloc (.cells x.cs 23)).alloc (.cells #[.int .i64 kd, .int .i64 n, .bool full] 38)) (.cells #[.int .i64 0, .int .i64 0, .int .i64 0, .int .i64 0, .int .i64 0, .int .i64 0, .int .i64 0] 23))
  change (((w.alloc (.cells x.cs 23)).alloc (.cells #[.int .i64 kd, .int .i64 n, .bool full] 38)).alloc (.cells #[.int .i64 0, .int .i64 0, .int .i64 0, .int .i64 0, .int .i64 0, .int .i64 0, .int .i64 0] 23)).heap[w.heap.size]? = _ at hb0
  have HM0 := Lib.hid hb0
  change (((w.alloc (.cells x.cs 23)).alloc (.cells #[.int .i64 kd, .int .i64 n, .bool full] 38)).alloc (.cells #[.int .i64 0, .int .i64 0, .int .i64 0, .int .i64 0, .int .i64 0, .int .i64 0, .int .i64 0] 23)).heap[w.heap.size + 1]? = _ at hb1
  have HM1 := Lib.hid hb1
  change (((w.alloc (.cells x.cs 23)).alloc (.cells #[.int .i64 kd, .int .i64 n, .bool full] 38)).alloc (.cells #[.int .i64 0, .int .i64 0, .int .i64 0, .int .i64 0, .int .i64 0, .int .i64 0, .int .i64 0] 23)).heap[w.heap.size + 1 + 1]? = _ at hb2
  have HM2 := Lib.hid hb2
  have HU1 := Lib.hid hu
  clear hu hb0 hb1 hb2 hs1 hs2
  try clear hb0
  go_enter Try.func23, Try.ntmps23
  go_upto_region 1 with (fail)
  generalize (((w.alloc (.cells x.cs 23)).alloc (.cells #[.int .i64 kd, .int .i64 n, .bool full] 38)).alloc (.cells #[.int .i64 0, .int .i64 0, .int .i64 0, .int .i64 0, .int .i64 0, .int .i64 0, .int .i64 0] 23)) = v0 at HM0 HM1 HM2 HU1 ⊢
  obtain ⟨p, hp⟩ : ∃ p, p = w.heap.size := ⟨_, rfl⟩
  rw [← hp] at HM0 HM1 HM2 ⊢
  have HP := Lib.hid hp
  clear hp
  have k0 : v0.cell? ⟨p, 0, none⟩ = some (.int .i64 x.s) := cell_of HM0.out rfl
  have k1 : v0.cell? ⟨p, 1, none⟩ = some (.int .i64 x.v) := cell_of HM0.out rfl
  have k2 : v0.cell? ⟨p, 2, none⟩ = some (.int .i64 x.r) := cell_of HM0.out rfl
  have k3 : v0.cell? ⟨p, 3, none⟩ = some (.int .i64 x.e) := cell_of HM0.out rfl
  have k4 : v0.cell? ⟨p, 4, none⟩ = some (.int .i64 x.c) := cell_of HM0.out rfl
  have k5 : v0.cell? ⟨p, 5, none⟩ = some (.int .i64 x.t) := cell_of HM0.out rfl
  have k6 : v0.cell? ⟨p, 6, none⟩ = some (.int .i64 x.a) := cell_of HM0.out rfl
  go_upto_region 2 with (fail)
  have hn := new_at v0 (.cells x.cs 23)
  have hu := up_alloc v0 (.cells x.cs 23)
  have HG := Lib.hid hn
  have HA := Lib.hid ((hu.block _ (lt_of_blk HM0.out)).trans HM0.out)
  have HS := Lib.hid ((hu.block _ (lt_of_blk HM1.out)).trans HM1.out)
  have HZ := Lib.hid ((hu.block _ (lt_of_blk HM2.out)).trans HM2.out)
  have HV := Lib.hid (HU1.out.trans hu)
  have hlt : p + 1 + 1 < v0.heap.size := lt_of_blk HM2.out
  clear hn hu k0 k1 k2 k3 k4 k5 k6 HM0 HM1 HM2 HU1
  change Hid ((v0.alloc (.cells #[.int .i64 x.s, .int .i64 x.v, .int .i64 x.r, .int .i64 x.e, .int .i64 x.c, .int .i64 x.t, .int .i64 x.a] 23)).heap[v0.heap.size]? = _) at HG
  change Hid ((v0.alloc (.cells #[.int .i64 x.s, .int .i64 x.v, .int .i64 x.r, .int .i64 x.e, .int .i64 x.c, .int .i64 x.t, .int .i64 x.a] 23)).heap[p]? = _) at HA
  change Hid ((v0.alloc (.cells #[.int .i64 x.s, .int .i64 x.v, .int .i64 x.r, .int .i64 x.e, .int .i64 x.c, .int .i64 x.t, .int .i64 x.a] 23)).heap[p + 1]? = _) at HS
  change Hid ((v0.alloc (.cells #[.int .i64 x.s, .int .i64 x.v, .int .i64 x.r, .int .i64 x.e, .int .i64 x.c, .int .i64 x.t, .int .i64 x.a] 23)).heap[p + 1 + 1]? = _) at HZ
  change Hid (Up w (v0.alloc (.cells #[.int .i64 x.s, .int .i64 x.v, .int .i64 x.r, .int .i64 x.e, .int .i64 x.c, .int .i64 x.t, .int .i64 x.a] 23))) at HV
  generalize v0.alloc (.cells #[.int .i64 x.s, .int .i64 x.v, .int .i64 x.r, .int .i64 x.e, .int .i64 x.c, .int .i64 x.t, .int .i64 x.a] 23) = v1 at HG HA HS HZ HV ⊢
  generalize v0.heap.size = g at HG hlt ⊢
  have k0 : v1.cell? ⟨p, 0, none⟩ = some (.int .i64 x.s) := cell_of HA.out rfl
  have k1 : v1.cell? ⟨p, 1, none⟩ = some (.int .i64 x.v) := cell_of HA.out rfl
  have k2 : v1.cell? ⟨p, 2, none⟩ = some (.int .i64 x.r) := cell_of HA.out rfl
  have k3 : v1.cell? ⟨p, 3, none⟩ = some (.int .i64 x.e) := cell_of HA.out rfl
  have k4 : v1.cell? ⟨p, 4, none⟩ = some (.int .i64 x.c) := cell_of HA.out rfl
  have k5 : v1.cell? ⟨p, 5, none⟩ = some (.int .i64 x.t) := cell_of HA.out rfl
  have k6 : v1.cell? ⟨p, 6, none⟩ = some (.int .i64 x.a) := cell_of HA.out rfl
  have s0 : v1.cell? ⟨p + 1, 0, none⟩ = some (.int .i64 kd) := cell_of HS.out rfl
  have s1 : v1.cell? ⟨p + 1, 1, none⟩ = some (.int .i64 n) := cell_of HS.out rfl
  have s2 : v1.cell? ⟨p + 1, 2, none⟩ = some (.bool full) := cell_of HS.out rfl
  go_wp2_with fail
  refine (H _).mono ?_
  rintro e u ⟨rfl, HU⟩
  have ha := (HU.out.block _ (lt_of_blk HA.out)).trans HA.out
  have hg := (HU.out.block _ (lt_of_blk HG.out)).trans HG.out
  have hz := (HU.out.block _ (lt_of_blk HZ.out)).trans HZ.out
  have HV2 := Lib.hid (HV.out.trans HU.out)
  have HG2 := Lib.hid hg
  have HA2 := Lib.hid ha
  have HZ2 := Lib.hid hz
  clear k0 k1 k2 k3 k4 k5 k6 s0 s1 s2 HV HG HA HZ HS H
  have fg : ∀ j, u.frozen? ⟨g, j, none⟩ = false := fun j => frozen_at hg
  have g0 : u.cell? ⟨g, 0, none⟩ = some (.int .i64 x.s) := cell_of hg rfl
  have g1 : u.cell? ⟨g, 1, none⟩ = some (.int .i64 x.v) := cell_of hg rfl
  have g2 : u.cell? ⟨g, 2, none⟩ = some (.int .i64 x.r) := cell_of hg rfl
  have g3 : u.cell? ⟨g, 3, none⟩ = some (.int .i64 x.e) := cell_of hg rfl
  have g4 : u.cell? ⟨g, 4, none⟩ = some (.int .i64 x.c) := cell_of hg rfl
  have g5 : u.cell? ⟨g, 5, none⟩ = some (.int .i64 x.t) := cell_of hg rfl
  have g6 : u.cell? ⟨g, 6, none⟩ = some (.int .i64 x.a) := cell_of hg rfl
  clear ha hg hz
  go_upto_region 11 with (fail)
  have HT : Hid (Tr g r1.cs u (((((((u.setCell ⟨g, 0, none⟩ (.int .i64 r1.s)).setCell ⟨g, 1, none⟩ (.int .i64 r1.v)).setCell ⟨g, 2, none⟩ (.int .i64 r1.r)).setCell ⟨g, 3, none⟩ (.int .i64 r1.e)).setCell ⟨g, 4, none⟩ (.int .i64 r1.c)).setCell ⟨g, 5, none⟩ (.int .i64 r1.t)).setCell ⟨g, 6, none⟩ (.int .i64 r1.a))) := Lib.hid ((((((((Tr.refl HG2.out).set 0 (.int .i64 r1.s)).set 1 (.int .i64 r1.v)).set 2 (.int .i64 r1.r)).set 3 (.int .i64 r1.e)).set 4 (.int .i64 r1.c)).set 5 (.int .i64 r1.t)).set 6 (.int .i64 r1.a))
  have HA := Lib.hid (HT.out.2.blk HA2.out (by omega))
  have HZ := Lib.hid (HT.out.2.blk HZ2.out (by omega))
  clear fg g0 g1 g2 g3 g4 g5 g6 HG2 HA2 HZ2
  generalize (((((((u.setCell ⟨g, 0, none⟩ (.int .i64 r1.s)).setCell ⟨g, 1, none⟩ (.int .i64 r1.v)).setCell ⟨g, 2, none⟩ (.int .i64 r1.r)).setCell ⟨g, 3, none⟩ (.int .i64 r1.e)).setCell ⟨g, 4, none⟩ (.int .i64 r1.c)).setCell ⟨g, 5, none⟩ (.int .i64 r1.t)).setCell ⟨g, 6, none⟩ (.int .i64 r1.a)) = v1 at HT HA HZ ⊢
  have hwg : w.heap.size ≤ g := by rw [← HP.out]; omega
  have HV : Hid (Up w v1) := Lib.hid (Below.out HV2.out HT.out.2 (fun k hk => by rw [hk]; exact hwg) HV2.out.size)
  have HG := Lib.hid HT.out.1
  have k0 : v1.cell? ⟨p, 0, none⟩ = some (.int .i64 x.s) := cell_of HA.out rfl
  have k1 : v1.cell? ⟨p, 1, none⟩ = some (.int .i64 x.v) := cell_of HA.out rfl
  have k2 : v1.cell? ⟨p, 2, none⟩ = some (.int .i64 x.r) := cell_of HA.out rfl
  have k3 : v1.cell? ⟨p, 3, none⟩ = some (.int .i64 x.e) := cell_of HA.out rfl
  have k4 : v1.cell? ⟨p, 4, none⟩ = some (.int .i64 x.c) := cell_of HA.out rfl
  have k5 : v1.cell? ⟨p, 5, none⟩ = some (.int .i64 x.t) := cell_of HA.out rfl
  have k6 : v1.cell? ⟨p, 6, none⟩ = some (.int .i64 x.a) := cell_of HA.out rfl
  have hz := HZ.out
  have hg := HG.out
  have f3 : ∀ j, v1.frozen? ⟨p + 1 + 1, j, none⟩ = false := fun j => frozen_at hz
  have q0 : v1.cell? ⟨p + 1 + 1, 0, none⟩ = some (.int .i64 0) := cell_of hz rfl
  have q1 : v1.cell? ⟨p + 1 + 1, 1, none⟩ = some (.int .i64 0) := cell_of hz rfl
  have q2 : v1.cell? ⟨p + 1 + 1, 2, none⟩ = some (.int .i64 0) := cell_of hz rfl
  have q3 : v1.cell? ⟨p + 1 + 1, 3, none⟩ = some (.int .i64 0) := cell_of hz rfl
  have q4 : v1.cell? ⟨p + 1 + 1, 4, none⟩ = some (.int .i64 0) := cell_of hz rfl
  have q5 : v1.cell? ⟨p + 1 + 1, 5, none⟩ = some (.int .i64 0) := cell_of hz rfl
  have q6 : v1.cell? ⟨p + 1 + 1, 6, none⟩ = some (.int .i64 0) := cell_of hz rfl
  have g0 : v1.cell? ⟨g, 0, none⟩ = some (.int .i64 r1.s) := cell_of hg rfl
  have g1 : v1.cell? ⟨g, 1, none⟩ = some (.int .i64 r1.v) := cell_of hg rfl
  have g2 : v1.cell? ⟨g, 2, none⟩ = some (.int .i64 r1.r) := cell_of hg rfl
  have g3 : v1.cell? ⟨g, 3, none⟩ = some (.int .i64 r1.e) := cell_of hg rfl
  have g4 : v1.cell? ⟨g, 4, none⟩ = some (.int .i64 r1.c) := cell_of hg rfl
  have g5 : v1.cell? ⟨g, 5, none⟩ = some (.int .i64 r1.t) := cell_of hg rfl
  have g6 : v1.cell? ⟨g, 6, none⟩ = some (.int .i64 r1.a) := cell_of hg rfl
  clear hz hg
  go_wp2_with fail
  have HT2 := (((((((Tr.refl HZ.out).set 0 (.int .i64 x.s)).set 1 (.int .i64 x.v)).set 2 (.int .i64 x.r)).set 3 (.int .i64 x.e)).set 4 (.int .i64 x.c)).set 5 (.int .i64 x.t)).set 6 (.int .i64 x.a)
  exact bodyPost_ret (results_cell_row (fn := Try.f23) (p := 4) (ty := 23) rfl _ _ (p + 1 + 1) 23 x.cs (0, 0) _ rfl HT2.1 Try.underlying23 rfl rfl) rfl ⟨rfl, Lib.hid (Below.out HV.out HT2.2 (fun k hk => by rw [hk, HP.out]; omega) HV.out.size)⟩
set_option maxRecDepth 100000 in
set_option maxHeartbeats 4000000 in
theorem walk_4f (x : Wy) (kd n : Int) (full : Bool) (hk : kd = 4) (r1 : Wy) (r2 : Int) (hr : (r2 != 0) = false) (H : ∀ wx, Calls Try.prog 18 #[.agg x.cs, .int .i64 n, .bool full] wx (WRes r1 r2 wx)) (w : World) : Calls Try.prog 23 #[.agg x.cs, .agg (stp kd n full)] w (WV r1 w) := by
  have t1 : (kd == 1) = false := by simp only [beq_eq_false_iff_ne, ne_eq]; omega
  have t2 : (kd == 2) = false := by simp only [beq_eq_false_iff_ne, ne_eq]; omega
  have t3 : (kd == 3) = false := by simp only [beq_eq_false_iff_ne, ne_eq]; omega
  have t4 : (kd == 4) = true := by simp only [beq_iff_eq, ne_eq]; omega
  clear hk
  have hb0 := new_at w (.cells x.cs 23)
  have hb0 := (((up_alloc (w.alloc (.cells x.cs 23)) (.cells #[.int .i64 kd, .int .i64 n, .bool full] 38)).block _ (lt_of_blk hb0)).trans hb0)
  have hb0 := (((up_alloc ((w.alloc (.cells x.cs 23)).alloc (.cells #[.int .i64 kd, .int .i64 n, .bool full] 38)) (.cells #[.int .i64 0, .int .i64 0, .int .i64 0, .int .i64 0, .int .i64 0, .int .i64 0, .int .i64 0] 23)).block _ (lt_of_blk hb0)).trans hb0)
  have hs1 : (w.alloc (.cells x.cs 23)).heap.size = w.heap.size + 1 := by simp
  have hb1 := new_at (w.alloc (.cells x.cs 23)) (.cells #[.int .i64 kd, .int .i64 n, .bool full] 38)
  rw [hs1] at hb1
  have hb1 := (((up_alloc ((w.alloc (.cells x.cs 23)).alloc (.cells #[.int .i64 kd, .int .i64 n, .bool full] 38)) (.cells #[.int .i64 0, .int .i64 0, .int .i64 0, .int .i64 0, .int .i64 0, .int .i64 0, .int .i64 0] 23)).block _ (lt_of_blk hb1)).trans hb1)
  have hs2 : ((w.alloc (.cells x.cs 23)).alloc (.cells #[.int .i64 kd, .int .i64 n, .bool full] 38)).heap.size = w.heap.size + 1 + 1 := by simp
  have hb2 := new_at ((w.alloc (.cells x.cs 23)).alloc (.cells #[.int .i64 kd, .int .i64 n, .bool full] 38)) (.cells #[.int .i64 0, .int .i64 0, .int .i64 0, .int .i64 0, .int .i64 0, .int .i64 0, .int .i64 0] 23)
  rw [hs2] at hb2
  have hu : Up w (((w.alloc (.cells x.cs 23)).alloc (.cells #[.int .i64 kd, .int .i64 n, .bool full] 38)).alloc (.cells #[.int .i64 0, .int .i64 0, .int .i64 0, .int .i64 0, .int .i64 0, .int .i64 0, .int .i64 0] 23)) := ((up_alloc w (.cells x.cs 23)).trans (up_alloc (w.alloc (.cells x.cs 23)) (.cells #[.int .i64 kd, .int .i64 n, .bool full] 38))).trans (up_alloc ((w.alloc (.cells x.cs 23)).alloc (.cells #[.int .i64 kd, .int .i64 n, .bool full] 38)) (.cells #[.int .i64 0, .int .i64 0, .int .i64 0, .int .i64 0, .int .i64 0, .int .i64 0, .int .i64 0] 23))
  change (((w.alloc (.cells x.cs 23)).alloc (.cells #[.int .i64 kd, .int .i64 n, .bool full] 38)).alloc (.cells #[.int .i64 0, .int .i64 0, .int .i64 0, .int .i64 0, .int .i64 0, .int .i64 0, .int .i64 0] 23)).heap[w.heap.size]? = _ at hb0
  have HM0 := Lib.hid hb0
  change (((w.alloc (.cells x.cs 23)).alloc (.cells #[.int .i64 kd, .int .i64 n, .bool full] 38)).alloc (.cells #[.int .i64 0, .int .i64 0, .int .i64 0, .int .i64 0, .int .i64 0, .int .i64 0, .int .i64 0] 23)).heap[w.heap.size + 1]? = _ at hb1
  have HM1 := Lib.hid hb1
  change (((w.alloc (.cells x.cs 23)).alloc (.cells #[.int .i64 kd, .int .i64 n, .bool full] 38)).alloc (.cells #[.int .i64 0, .int .i64 0, .int .i64 0, .int .i64 0, .int .i64 0, .int .i64 0, .int .i64 0] 23)).heap[w.heap.size + 1 + 1]? = _ at hb2
  have HM2 := Lib.hid hb2
  have HU1 := Lib.hid hu
  clear hu hb0 hb1 hb2 hs1 hs2
  try clear hb0
  go_enter Try.func23, Try.ntmps23
  go_upto_region 1 with (fail)
  generalize (((w.alloc (.cells x.cs 23)).alloc (.cells #[.int .i64 kd, .int .i64 n, .bool full] 38)).alloc (.cells #[.int .i64 0, .int .i64 0, .int .i64 0, .int .i64 0, .int .i64 0, .int .i64 0, .int .i64 0] 23)) = v0 at HM0 HM1 HM2 HU1 ⊢
  obtain ⟨p, hp⟩ : ∃ p, p = w.heap.size := ⟨_, rfl⟩
  rw [← hp] at HM0 HM1 HM2 ⊢
  have HP := Lib.hid hp
  clear hp
  have k0 : v0.cell? ⟨p, 0, none⟩ = some (.int .i64 x.s) := cell_of HM0.out rfl
  have k1 : v0.cell? ⟨p, 1, none⟩ = some (.int .i64 x.v) := cell_of HM0.out rfl
  have k2 : v0.cell? ⟨p, 2, none⟩ = some (.int .i64 x.r) := cell_of HM0.out rfl
  have k3 : v0.cell? ⟨p, 3, none⟩ = some (.int .i64 x.e) := cell_of HM0.out rfl
  have k4 : v0.cell? ⟨p, 4, none⟩ = some (.int .i64 x.c) := cell_of HM0.out rfl
  have k5 : v0.cell? ⟨p, 5, none⟩ = some (.int .i64 x.t) := cell_of HM0.out rfl
  have k6 : v0.cell? ⟨p, 6, none⟩ = some (.int .i64 x.a) := cell_of HM0.out rfl
  go_upto_region 2 with (fail)
  have hn := new_at v0 (.cells x.cs 23)
  have hu := up_alloc v0 (.cells x.cs 23)
  have HG := Lib.hid hn
  have HA := Lib.hid ((hu.block _ (lt_of_blk HM0.out)).trans HM0.out)
  have HS := Lib.hid ((hu.block _ (lt_of_blk HM1.out)).trans HM1.out)
  have HZ := Lib.hid ((hu.block _ (lt_of_blk HM2.out)).trans HM2.out)
  have HV := Lib.hid (HU1.out.trans hu)
  have hlt : p + 1 + 1 < v0.heap.size := lt_of_blk HM2.out
  clear hn hu k0 k1 k2 k3 k4 k5 k6 HM0 HM1 HM2 HU1
  change Hid ((v0.alloc (.cells #[.int .i64 x.s, .int .i64 x.v, .int .i64 x.r, .int .i64 x.e, .int .i64 x.c, .int .i64 x.t, .int .i64 x.a] 23)).heap[v0.heap.size]? = _) at HG
  change Hid ((v0.alloc (.cells #[.int .i64 x.s, .int .i64 x.v, .int .i64 x.r, .int .i64 x.e, .int .i64 x.c, .int .i64 x.t, .int .i64 x.a] 23)).heap[p]? = _) at HA
  change Hid ((v0.alloc (.cells #[.int .i64 x.s, .int .i64 x.v, .int .i64 x.r, .int .i64 x.e, .int .i64 x.c, .int .i64 x.t, .int .i64 x.a] 23)).heap[p + 1]? = _) at HS
  change Hid ((v0.alloc (.cells #[.int .i64 x.s, .int .i64 x.v, .int .i64 x.r, .int .i64 x.e, .int .i64 x.c, .int .i64 x.t, .int .i64 x.a] 23)).heap[p + 1 + 1]? = _) at HZ
  change Hid (Up w (v0.alloc (.cells #[.int .i64 x.s, .int .i64 x.v, .int .i64 x.r, .int .i64 x.e, .int .i64 x.c, .int .i64 x.t, .int .i64 x.a] 23))) at HV
  generalize v0.alloc (.cells #[.int .i64 x.s, .int .i64 x.v, .int .i64 x.r, .int .i64 x.e, .int .i64 x.c, .int .i64 x.t, .int .i64 x.a] 23) = v1 at HG HA HS HZ HV ⊢
  generalize v0.heap.size = g at HG hlt ⊢
  have k0 : v1.cell? ⟨p, 0, none⟩ = some (.int .i64 x.s) := cell_of HA.out rfl
  have k1 : v1.cell? ⟨p, 1, none⟩ = some (.int .i64 x.v) := cell_of HA.out rfl
  have k2 : v1.cell? ⟨p, 2, none⟩ = some (.int .i64 x.r) := cell_of HA.out rfl
  have k3 : v1.cell? ⟨p, 3, none⟩ = some (.int .i64 x.e) := cell_of HA.out rfl
  have k4 : v1.cell? ⟨p, 4, none⟩ = some (.int .i64 x.c) := cell_of HA.out rfl
  have k5 : v1.cell? ⟨p, 5, none⟩ = some (.int .i64 x.t) := cell_of HA.out rfl
  have k6 : v1.cell? ⟨p, 6, none⟩ = some (.int .i64 x.a) := cell_of HA.out rfl
  have s0 : v1.cell? ⟨p + 1, 0, none⟩ = some (.int .i64 kd) := cell_of HS.out rfl
  have s1 : v1.cell? ⟨p + 1, 1, none⟩ = some (.int .i64 n) := cell_of HS.out rfl
  have s2 : v1.cell? ⟨p + 1, 2, none⟩ = some (.bool full) := cell_of HS.out rfl
  go_wp2_with fail
  refine (H _).mono ?_
  rintro e u ⟨rfl, HU⟩
  have ha := (HU.out.block _ (lt_of_blk HA.out)).trans HA.out
  have hg := (HU.out.block _ (lt_of_blk HG.out)).trans HG.out
  have hz := (HU.out.block _ (lt_of_blk HZ.out)).trans HZ.out
  have HV2 := Lib.hid (HV.out.trans HU.out)
  have HG2 := Lib.hid hg
  have HA2 := Lib.hid ha
  have HZ2 := Lib.hid hz
  clear k0 k1 k2 k3 k4 k5 k6 s0 s1 s2 HV HG HA HZ HS H
  have fg : ∀ j, u.frozen? ⟨g, j, none⟩ = false := fun j => frozen_at hg
  have g0 : u.cell? ⟨g, 0, none⟩ = some (.int .i64 x.s) := cell_of hg rfl
  have g1 : u.cell? ⟨g, 1, none⟩ = some (.int .i64 x.v) := cell_of hg rfl
  have g2 : u.cell? ⟨g, 2, none⟩ = some (.int .i64 x.r) := cell_of hg rfl
  have g3 : u.cell? ⟨g, 3, none⟩ = some (.int .i64 x.e) := cell_of hg rfl
  have g4 : u.cell? ⟨g, 4, none⟩ = some (.int .i64 x.c) := cell_of hg rfl
  have g5 : u.cell? ⟨g, 5, none⟩ = some (.int .i64 x.t) := cell_of hg rfl
  have g6 : u.cell? ⟨g, 6, none⟩ = some (.int .i64 x.a) := cell_of hg rfl
  clear ha hg hz
  go_upto_region 11 with (fail)
  have HT : Hid (Tr g r1.cs u (((((((u.setCell ⟨g, 0, none⟩ (.int .i64 r1.s)).setCell ⟨g, 1, none⟩ (.int .i64 r1.v)).setCell ⟨g, 2, none⟩ (.int .i64 r1.r)).setCell ⟨g, 3, none⟩ (.int .i64 r1.e)).setCell ⟨g, 4, none⟩ (.int .i64 r1.c)).setCell ⟨g, 5, none⟩ (.int .i64 r1.t)).setCell ⟨g, 6, none⟩ (.int .i64 r1.a))) := Lib.hid ((((((((Tr.refl HG2.out).set 0 (.int .i64 r1.s)).set 1 (.int .i64 r1.v)).set 2 (.int .i64 r1.r)).set 3 (.int .i64 r1.e)).set 4 (.int .i64 r1.c)).set 5 (.int .i64 r1.t)).set 6 (.int .i64 r1.a))
  have HA := Lib.hid (HT.out.2.blk HA2.out (by omega))
  have HZ := Lib.hid (HT.out.2.blk HZ2.out (by omega))
  clear fg g0 g1 g2 g3 g4 g5 g6 HG2 HA2 HZ2
  generalize (((((((u.setCell ⟨g, 0, none⟩ (.int .i64 r1.s)).setCell ⟨g, 1, none⟩ (.int .i64 r1.v)).setCell ⟨g, 2, none⟩ (.int .i64 r1.r)).setCell ⟨g, 3, none⟩ (.int .i64 r1.e)).setCell ⟨g, 4, none⟩ (.int .i64 r1.c)).setCell ⟨g, 5, none⟩ (.int .i64 r1.t)).setCell ⟨g, 6, none⟩ (.int .i64 r1.a)) = v1 at HT HA HZ ⊢
  have hwg : w.heap.size ≤ g := by rw [← HP.out]; omega
  have HV : Hid (Up w v1) := Lib.hid (Below.out HV2.out HT.out.2 (fun k hk => by rw [hk]; exact hwg) HV2.out.size)
  have HG := Lib.hid HT.out.1
  have k0 : v1.cell? ⟨p, 0, none⟩ = some (.int .i64 x.s) := cell_of HA.out rfl
  have k1 : v1.cell? ⟨p, 1, none⟩ = some (.int .i64 x.v) := cell_of HA.out rfl
  have k2 : v1.cell? ⟨p, 2, none⟩ = some (.int .i64 x.r) := cell_of HA.out rfl
  have k3 : v1.cell? ⟨p, 3, none⟩ = some (.int .i64 x.e) := cell_of HA.out rfl
  have k4 : v1.cell? ⟨p, 4, none⟩ = some (.int .i64 x.c) := cell_of HA.out rfl
  have k5 : v1.cell? ⟨p, 5, none⟩ = some (.int .i64 x.t) := cell_of HA.out rfl
  have k6 : v1.cell? ⟨p, 6, none⟩ = some (.int .i64 x.a) := cell_of HA.out rfl
  have hz := HZ.out
  have hg := HG.out
  have f3 : ∀ j, v1.frozen? ⟨p + 1 + 1, j, none⟩ = false := fun j => frozen_at hz
  have q0 : v1.cell? ⟨p + 1 + 1, 0, none⟩ = some (.int .i64 0) := cell_of hz rfl
  have q1 : v1.cell? ⟨p + 1 + 1, 1, none⟩ = some (.int .i64 0) := cell_of hz rfl
  have q2 : v1.cell? ⟨p + 1 + 1, 2, none⟩ = some (.int .i64 0) := cell_of hz rfl
  have q3 : v1.cell? ⟨p + 1 + 1, 3, none⟩ = some (.int .i64 0) := cell_of hz rfl
  have q4 : v1.cell? ⟨p + 1 + 1, 4, none⟩ = some (.int .i64 0) := cell_of hz rfl
  have q5 : v1.cell? ⟨p + 1 + 1, 5, none⟩ = some (.int .i64 0) := cell_of hz rfl
  have q6 : v1.cell? ⟨p + 1 + 1, 6, none⟩ = some (.int .i64 0) := cell_of hz rfl
  have g0 : v1.cell? ⟨g, 0, none⟩ = some (.int .i64 r1.s) := cell_of hg rfl
  have g1 : v1.cell? ⟨g, 1, none⟩ = some (.int .i64 r1.v) := cell_of hg rfl
  have g2 : v1.cell? ⟨g, 2, none⟩ = some (.int .i64 r1.r) := cell_of hg rfl
  have g3 : v1.cell? ⟨g, 3, none⟩ = some (.int .i64 r1.e) := cell_of hg rfl
  have g4 : v1.cell? ⟨g, 4, none⟩ = some (.int .i64 r1.c) := cell_of hg rfl
  have g5 : v1.cell? ⟨g, 5, none⟩ = some (.int .i64 r1.t) := cell_of hg rfl
  have g6 : v1.cell? ⟨g, 6, none⟩ = some (.int .i64 r1.a) := cell_of hg rfl
  clear hz hg
  go_wp2_with fail
  have HT2 := (((((((Tr.refl HZ.out).set 0 (.int .i64 r1.s)).set 1 (.int .i64 r1.v)).set 2 (.int .i64 r1.r)).set 3 (.int .i64 r1.e)).set 4 (.int .i64 r1.c)).set 5 (.int .i64 r1.t)).set 6 (.int .i64 r1.a)
  exact bodyPost_ret (results_cell_row (fn := Try.f23) (p := 4) (ty := 23) rfl _ _ (p + 1 + 1) 23 r1.cs (0, 0) _ rfl HT2.1 Try.underlying23 rfl rfl) rfl ⟨rfl, Lib.hid (Below.out HV.out HT2.2 (fun k hk => by rw [hk, HP.out]; omega) HV.out.size)⟩
theorem walk_any (x : Wy) (hx : x.Ok) (kd n : Int) (full : Bool) (w : World) : Calls Try.prog 23 #[.agg x.cs, .agg (stp kd n full)] w (WS w) := by
  by_cases h1 : kd = 1
  · by_cases hz : (measOf x n).2 = 0
    · exact (walk_1f x kd n full h1 (measOf x n).1 (measOf x n).2 (by rw [hz]; rfl) (fun wx => measure_any x n wx) w).mono fun e w' ⟨h1, h2⟩ => ⟨_, h1, Lib.hid (fit_meas hx n hz), h2⟩
    · exact (walk_1t x kd n full h1 (measOf x n).1 (measOf x n).2 (by simpa using hz) (fun wx => measure_any x n wx) w).mono fun e w' ⟨h1, h2⟩ => ⟨_, h1, Lib.hid hx, h2⟩
  by_cases h2 : kd = 2
  · by_cases hz : (lateOf x).2 = 0
    · exact (walk_2f x kd n full h2 (lateOf x).1 (lateOf x).2 (by rw [hz]; rfl) (fun wx => late_any x wx) w).mono fun e w' ⟨h1, h2⟩ => ⟨_, h1, Lib.hid (fit_late hx hz), h2⟩
    · exact (walk_2t x kd n full h2 (lateOf x).1 (lateOf x).2 (by simpa using hz) (fun wx => late_any x wx) w).mono fun e w' ⟨h1, h2⟩ => ⟨_, h1, Lib.hid hx, h2⟩
  by_cases h3 : kd = 3
  · by_cases hz : (fastOf x).2 = 0
    · exact (walk_3f x kd n full h3 (fastOf x).1 (fastOf x).2 (by rw [hz]; rfl) (fun wx => fast_any x wx) w).mono fun e w' ⟨h1, h2⟩ => ⟨_, h1, Lib.hid (fit_fast hx hz), h2⟩
    · exact (walk_3t x kd n full h3 (fastOf x).1 (fastOf x).2 (by simpa using hz) (fun wx => fast_any x wx) w).mono fun e w' ⟨h1, h2⟩ => ⟨_, h1, Lib.hid hx, h2⟩
  by_cases h4 : kd = 4
  · by_cases hz : (ackOf x n full).2 = 0
    · exact (walk_4f x kd n full h4 (ackOf x n full).1 (ackOf x n full).2 (by rw [hz]; rfl) (fun wx => acked_any x n full wx) w).mono fun e w' ⟨h1, h2⟩ => ⟨_, h1, Lib.hid (fit_ack hx n full hz), h2⟩
    · exact (walk_4t x kd n full h4 (ackOf x n full).1 (ackOf x n full).2 (by simpa using hz) (fun wx => acked_any x n full wx) w).mono fun e w' ⟨h1, h2⟩ => ⟨_, h1, Lib.hid hx, h2⟩
  exact (walk_0 x kd n full (by omega) w).mono fun e w' ⟨h1, h2⟩ => ⟨_, h1, Lib.hid hx, h2⟩
end Go.Proofs.Ytahpejcejbgcpaa
