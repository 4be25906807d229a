import Derived.Test.YtahpejcejbgcpaaRt21
namespace Go.Proofs.Ytahpejcejbgcpaa
open Go Go.RowKit
set_option linter.unusedVariables false
set_option linter.unusedSimpArgs false
/-- A path behind k losses. -/
structure Lost (k : Nat) (y : Wy) : Prop where
  ok : y.Ok
  c : 1 ≤ k → y.c = 512
  t : 2 ≤ k → y.t = 1024
  r1 : 1 ≤ k → 8 ≤ y.r
  r2 : 2 ≤ k → 16 ≤ y.r
  r3 : 3 ≤ k → 32 ≤ y.r
  r4 : 4 ≤ k → 64 ≤ y.r
theorem lost_0 {y : Wy} (h : y.Ok) : Lost 0 y := ⟨h, by omega, by omega, by omega, by omega, by omega, by omega⟩
theorem lost_next {k : Nat} {y : Wy} (h : Lost k y) : Lost (k + 1) (lateW y) := by
  obtain ⟨h0, h1, h2, h3, h4, h5, h6⟩ := h
  have hr : 4 ≤ y.r ∧ y.r ≤ 64 := h0.2.2.1
  refine ⟨ok_late h0, ?_, ?_, ?_, ?_, ?_, ?_⟩
  · intro _; rfl
  · intro h; dsimp only [lateW]; unfold thr; rw [h1 (by omega)]; rfl
  · intro h; dsimp only [lateW]; omega
  · intro h; have := h3 (by omega); dsimp only [lateW]; omega
  · intro h; have := h4 (by omega); dsimp only [lateW]; omega
  · intro h; have := h5 (by omega); dsimp only [lateW]; omega
theorem lateOf_ok {x : Wy} (h : x.Ok) : lateOf x = (lateW x, 0) := by unfold lateOf; rw [if_pos h]
theorem fastOf_ok {x : Wy} (h : x.Ok) : fastOf x = (fastW x, 0) := by unfold fastOf; rw [if_pos h]
theorem ack_ge {x : Wy} {n : Int} {f : Bool} (h : x.Ok) (h2 : (ackOf x n f).2 = 0) : x.c ≤ (ackOf x n f).1.c := by
  unfold ackOf at *
  rw [if_pos h] at h2 ⊢
  have hc : 512 ≤ x.c ∧ x.c ≤ 65536 := h.2.2.2.2.1
  split
  · rename_i h3
    dsimp only
    unfold ackW
    split
    · unfold growW
      split
      · dsimp only; omega
      · split
        · dsimp only; omega
        · dsimp only; omega
    · omega
  · rename_i h3
    rw [if_neg h3] at h2
    cases h2
set_option maxRecDepth 100000 in
set_option maxHeartbeats 4000000 in
theorem law_shrinks (x : Wy) (n : Int) (full : Bool) (w : World) : Calls Try.prog 7 #[.agg x.cs, .int .i64 n, .bool full] w (RetB true w) := by
  by_cases hok : x.Ok
  case neg =>
    have HS := okc_f x hok
    clear hok
    have hb0 := new_at w (.cells x.cs 23)
    have hu : Up w (w.alloc (.cells x.cs 23)) := up_alloc w (.cells x.cs 23)
    change (w.alloc (.cells x.cs 23)).heap[w.heap.size]? = _ at hb0
    have HM0 := Lib.hid hb0
    have HU1 := Lib.hid hu
    clear hu hb0
    go_enter Try.func7, Try.ntmps7
    go_upto_region 1 with (fail)
    generalize (w.alloc (.cells x.cs 23)) = v00 at HM0 HU1 ⊢
    obtain ⟨p, hp⟩ : ∃ p, p = w.heap.size := ⟨_, rfl⟩
    rw [← hp] at HM0 ⊢
    have HP := Lib.hid hp
    clear hp
    have HV00 := HU1
    have HB_p0 := HM0
    clear HU1 HM0
    go_wp2_with fail
    refine (answers_ok _).mono ?_
    rintro e v0 ⟨rfl, HU0⟩
    have HV0 := Lib.hid (HV00.out.trans HU0.out)
    have HB_p := Lib.hid ((HU0.out.block _ (lt_of_blk HB_p0.out)).trans HB_p0.out)
    clear HV00 HB_p0 HU0
    have k0 : v0.cell? ⟨p, 0, none⟩ = some (.int .i64 x.s) := cell_of HB_p.out rfl
    have k1 : v0.cell? ⟨p, 1, none⟩ = some (.int .i64 x.v) := cell_of HB_p.out rfl
    have k2 : v0.cell? ⟨p, 2, none⟩ = some (.int .i64 x.r) := cell_of HB_p.out rfl
    have k3 : v0.cell? ⟨p, 3, none⟩ = some (.int .i64 x.e) := cell_of HB_p.out rfl
    have k4 : v0.cell? ⟨p, 4, none⟩ = some (.int .i64 x.c) := cell_of HB_p.out rfl
    have k5 : v0.cell? ⟨p, 5, none⟩ = some (.int .i64 x.t) := cell_of HB_p.out rfl
    have k6 : v0.cell? ⟨p, 6, none⟩ = some (.int .i64 x.a) := cell_of HB_p.out rfl
    go_wp2_with fail
    refine (HS _).mono ?_
    rintro e u1 ⟨rfl, HU1⟩
    clear k0 k1 k2 k3 k4 k5 k6 HS
    go_wp2_with fail
    refine (answers_ok _).mono ?_
    rintro e u2 ⟨rfl, HU2⟩
    go_wp2_with fail
    go_ret
    exact ⟨rfl, Lib.hid (HV0.out.trans (HU1.out.trans HU2.out))⟩
  have HS := okc_t x hok
  obtain ⟨r1, hr1⟩ : ∃ r, r = lateW x := ⟨_, rfl⟩
  obtain ⟨q1, hq1⟩ : ∃ q, q = fastW x := ⟨_, rfl⟩
  obtain ⟨a, ha⟩ : ∃ a, a = ackOf x n full := ⟨_, rfl⟩
  have hc : 512 ≤ x.c ∧ x.c ≤ 65536 := hok.2.2.2.2.1
  have hr : 4 ≤ x.r ∧ x.r ≤ 64 := hok.2.2.1
  have hrc : r1.c ≤ x.c := by rw [hr1]; dsimp only [lateW]; omega
  have hrr : x.r ≤ r1.r := by rw [hr1]; dsimp only [lateW]; omega
  have hqc : q1.c ≤ x.c ∨ q1.c = 1024 := by rw [hq1]; dsimp only [fastW]; unfold thr; omega
  have hac : a.2 = 0 → x.c ≤ a.1.c := by rw [ha]; exact ack_ge hok
  have H1 : ∀ wx, Calls Try.prog 14 #[.agg x.cs] wx (WRes r1 0 wx) := fun wx => by have := late_any x wx; rw [lateOf_ok hok] at this; rw [hr1]; exact this
  have H2 : ∀ wx, Calls Try.prog 16 #[.agg x.cs] wx (WRes q1 0 wx) := fun wx => by have := fast_any x wx; rw [fastOf_ok hok] at this; rw [hq1]; exact this
  have H3 : ∀ wx, Calls Try.prog 18 #[.agg x.cs, .int .i64 n, .bool full] wx (WRes a.1 a.2 wx) := fun wx => by rw [ha]; exact acked_any x n full wx
  have HOK := Lib.hid hok
  have HQC := Lib.hid hqc
  have HAC := Lib.hid hac
  clear hr1 hq1 ha hqc hac hok
  obtain ⟨a1, a2⟩ := a
  dsimp only at H3 HAC
  have hb0 := new_at w (.cells x.cs 23)
  have hu : Up w (w.alloc (.cells x.cs 23)) := up_alloc w (.cells x.cs 23)
  change (w.alloc (.cells x.cs 23)).heap[w.heap.size]? = _ at hb0
  have HM0 := Lib.hid hb0
  have HU1 := Lib.hid hu
  clear hu hb0
  go_enter Try.func7, Try.ntmps7
  go_upto_region 1 with (fail)
  generalize (w.alloc (.cells x.cs 23)) = v00 at HM0 HU1 ⊢
  obtain ⟨p, hp⟩ : ∃ p, p = w.heap.size := ⟨_, rfl⟩
  rw [← hp] at HM0 ⊢
  have HP := Lib.hid hp
  clear hp
  have HV00 := HU1
  have HB_p0 := HM0
  clear HU1 HM0
  go_wp2_with fail
  refine (answers_ok _).mono ?_
  rintro e v0 ⟨rfl, HU0⟩
  have HV0 := Lib.hid (HV00.out.trans HU0.out)
  have HB_p := Lib.hid ((HU0.out.block _ (lt_of_blk HB_p0.out)).trans HB_p0.out)
  clear HV00 HB_p0 HU0
  have k0 : v0.cell? ⟨p, 0, none⟩ = some (.int .i64 x.s) := cell_of HB_p.out rfl
  have k1 : v0.cell? ⟨p, 1, none⟩ = some (.int .i64 x.v) := cell_of HB_p.out rfl
  have k2 : v0.cell? ⟨p, 2, none⟩ = some (.int .i64 x.r) := cell_of HB_p.out rfl
  have k3 : v0.cell? ⟨p, 3, none⟩ = some (.int .i64 x.e) := cell_of HB_p.out rfl
  have k4 : v0.cell? ⟨p, 4, none⟩ = some (.int .i64 x.c) := cell_of HB_p.out rfl
  have k5 : v0.cell? ⟨p, 5, none⟩ = some (.int .i64 x.t) := cell_of HB_p.out rfl
  have k6 : v0.cell? ⟨p, 6, none⟩ = some (.int .i64 x.a) := cell_of HB_p.out rfl
  go_wp2_with fail
  refine (HS _).mono ?_
  rintro e vz ⟨rfl, HU⟩
  have HV := Lib.hid (HV0.out.trans HU.out)
  have HB_p1 := Lib.hid ((HU.out.block _ (lt_of_blk HB_p.out)).trans HB_p.out)
  clear HS k0 k1 k2 k3 k4 k5 k6 HV0 HB_p HU
  have HV0 := HV
  have HB_p := HB_p1
  clear HV HB_p1
  go_upto_region 3 with (fail)
  have k0 : vz.cell? ⟨p, 0, none⟩ = some (.int .i64 x.s) := cell_of HB_p.out rfl
  have k1 : vz.cell? ⟨p, 1, none⟩ = some (.int .i64 x.v) := cell_of HB_p.out rfl
  have k2 : vz.cell? ⟨p, 2, none⟩ = some (.int .i64 x.r) := cell_of HB_p.out rfl
  have k3 : vz.cell? ⟨p, 3, none⟩ = some (.int .i64 x.e) := cell_of HB_p.out rfl
  have k4 : vz.cell? ⟨p, 4, none⟩ = some (.int .i64 x.c) := cell_of HB_p.out rfl
  have k5 : vz.cell? ⟨p, 5, none⟩ = some (.int .i64 x.t) := cell_of HB_p.out rfl
  have k6 : vz.cell? ⟨p, 6, none⟩ = some (.int .i64 x.a) := cell_of HB_p.out rfl
  go_wp2_with fail
  refine (H1 _).mono ?_
  rintro e u1 ⟨rfl, HU1⟩
  go_upto_region 4 with (fail)
  have hn1 := new_at u1 (.cells r1.cs 23)
  have HW1 := Lib.hid (HV0.out.trans (HU1.out.trans (up_alloc u1 (.cells r1.cs 23))))
  have HV1 := HW1
  have hB_p := ((HU1.out.trans (up_alloc u1 (.cells r1.cs 23))).block _ (lt_of_blk HB_p.out)).trans HB_p.out
  have HB_p := Lib.hid hB_p
  clear hB_p
  have HB_g1 := Lib.hid hn1
  clear hn1
  change Hid ((u1.alloc (.cells #[.int .i64 r1.s, .int .i64 r1.v, .int .i64 r1.r, .int .i64 r1.e, .int .i64 r1.c, .int .i64 r1.t, .int .i64 r1.a] 23)).heap[u1.heap.size]? = _) at HB_g1
  change Hid (Up w (u1.alloc (.cells #[.int .i64 r1.s, .int .i64 r1.v, .int .i64 r1.r, .int .i64 r1.e, .int .i64 r1.c, .int .i64 r1.t, .int .i64 r1.a] 23))) at HV1
  change Hid ((u1.alloc (.cells #[.int .i64 r1.s, .int .i64 r1.v, .int .i64 r1.r, .int .i64 r1.e, .int .i64 r1.c, .int .i64 r1.t, .int .i64 r1.a] 23)).heap[p]? = _) at HB_p
  clear HW1 HU1 k0 k1 k2 k3 k4 k5 k6
  generalize u1.alloc (.cells #[.int .i64 r1.s, .int .i64 r1.v, .int .i64 r1.r, .int .i64 r1.e, .int .i64 r1.c, .int .i64 r1.t, .int .i64 r1.a] 23) = v1 at HV1 HB_g1 HB_p ⊢
  generalize u1.heap.size = g1 at HB_g1 ⊢
  have k0 : v1.cell? ⟨p, 0, none⟩ = some (.int .i64 x.s) := cell_of HB_p.out rfl
  have k1 : v1.cell? ⟨p, 1, none⟩ = some (.int .i64 x.v) := cell_of HB_p.out rfl
  have k2 : v1.cell? ⟨p, 2, none⟩ = some (.int .i64 x.r) := cell_of HB_p.out rfl
  have k3 : v1.cell? ⟨p, 3, none⟩ = some (.int .i64 x.e) := cell_of HB_p.out rfl
  have k4 : v1.cell? ⟨p, 4, none⟩ = some (.int .i64 x.c) := cell_of HB_p.out rfl
  have k5 : v1.cell? ⟨p, 5, none⟩ = some (.int .i64 x.t) := cell_of HB_p.out rfl
  have k6 : v1.cell? ⟨p, 6, none⟩ = some (.int .i64 x.a) := cell_of HB_p.out rfl
  go_wp2_with fail
  refine (H2 _).mono ?_
  rintro e u2 ⟨rfl, HU2⟩
  go_upto_region 5 with (fail)
  have hn2 := new_at u2 (.cells q1.cs 23)
  have HW2 := Lib.hid (HV1.out.trans (HU2.out.trans (up_alloc u2 (.cells q1.cs 23))))
  have HV2 := HW2
  have hB_p := ((HU2.out.trans (up_alloc u2 (.cells q1.cs 23))).block _ (lt_of_blk HB_p.out)).trans HB_p.out
  have HB_p := Lib.hid hB_p
  clear hB_p
  have hB_g1 := ((HU2.out.trans (up_alloc u2 (.cells q1.cs 23))).block _ (lt_of_blk HB_g1.out)).trans HB_g1.out
  have HB_g1 := Lib.hid hB_g1
  clear hB_g1
  have HB_g2 := Lib.hid hn2
  clear hn2
  change Hid ((u2.alloc (.cells #[.int .i64 q1.s, .int .i64 q1.v, .int .i64 q1.r, .int .i64 q1.e, .int .i64 q1.c, .int .i64 q1.t, .int .i64 q1.a] 23)).heap[u2.heap.size]? = _) at HB_g2
  change Hid (Up w (u2.alloc (.cells #[.int .i64 q1.s, .int .i64 q1.v, .int .i64 q1.r, .int .i64 q1.e, .int .i64 q1.c, .int .i64 q1.t, .int .i64 q1.a] 23))) at HV2
  change Hid ((u2.alloc (.cells #[.int .i64 q1.s, .int .i64 q1.v, .int .i64 q1.r, .int .i64 q1.e, .int .i64 q1.c, .int .i64 q1.t, .int .i64 q1.a] 23)).heap[p]? = _) at HB_p
  change Hid ((u2.alloc (.cells #[.int .i64 q1.s, .int .i64 q1.v, .int .i64 q1.r, .int .i64 q1.e, .int .i64 q1.c, .int .i64 q1.t, .int .i64 q1.a] 23)).heap[g1]? = _) at HB_g1
  clear HW2 HU2 k0 k1 k2 k3 k4 k5 k6
  generalize u2.alloc (.cells #[.int .i64 q1.s, .int .i64 q1.v, .int .i64 q1.r, .int .i64 q1.e, .int .i64 q1.c, .int .i64 q1.t, .int .i64 q1.a] 23) = v2 at HV2 HB_g2 HB_p HB_g1 ⊢
  generalize u2.heap.size = g2 at HB_g2 ⊢
  have k0 : v2.cell? ⟨p, 0, none⟩ = some (.int .i64 x.s) := cell_of HB_p.out rfl
  have k1 : v2.cell? ⟨p, 1, none⟩ = some (.int .i64 x.v) := cell_of HB_p.out rfl
  have k2 : v2.cell? ⟨p, 2, none⟩ = some (.int .i64 x.r) := cell_of HB_p.out rfl
  have k3 : v2.cell? ⟨p, 3, none⟩ = some (.int .i64 x.e) := cell_of HB_p.out rfl
  have k4 : v2.cell? ⟨p, 4, none⟩ = some (.int .i64 x.c) := cell_of HB_p.out rfl
  have k5 : v2.cell? ⟨p, 5, none⟩ = some (.int .i64 x.t) := cell_of HB_p.out rfl
  have k6 : v2.cell? ⟨p, 6, none⟩ = some (.int .i64 x.a) := cell_of HB_p.out rfl
  go_wp2_with fail
  refine (H3 _).mono ?_
  rintro e u3 ⟨rfl, HU3⟩
  go_upto_region 6 with (fail)
  have hn3 := new_at u3 (.cells a1.cs 23)
  have HW3 := Lib.hid (HV2.out.trans (HU3.out.trans (up_alloc u3 (.cells a1.cs 23))))
  have HV3 := HW3
  have hB_p := ((HU3.out.trans (up_alloc u3 (.cells a1.cs 23))).block _ (lt_of_blk HB_p.out)).trans HB_p.out
  have HB_p := Lib.hid hB_p
  clear hB_p
  have hB_g1 := ((HU3.out.trans (up_alloc u3 (.cells a1.cs 23))).block _ (lt_of_blk HB_g1.out)).trans HB_g1.out
  have HB_g1 := Lib.hid hB_g1
  clear hB_g1
  have hB_g2 := ((HU3.out.trans (up_alloc u3 (.cells a1.cs 23))).block _ (lt_of_blk HB_g2.out)).trans HB_g2.out
  have HB_g2 := Lib.hid hB_g2
  clear hB_g2
  have HB_g3 := Lib.hid hn3
  clear hn3
  change Hid ((u3.alloc (.cells #[.int .i64 a1.s, .int .i64 a1.v, .int .i64 a1.r, .int .i64 a1.e, .int .i64 a1.c, .int .i64 a1.t, .int .i64 a1.a] 23)).heap[u3.heap.size]? = _) at HB_g3
  change Hid (Up w (u3.alloc (.cells #[.int .i64 a1.s, .int .i64 a1.v, .int .i64 a1.r, .int .i64 a1.e, .int .i64 a1.c, .int .i64 a1.t, .int .i64 a1.a] 23))) at HV3
  change Hid ((u3.alloc (.cells #[.int .i64 a1.s, .int .i64 a1.v, .int .i64 a1.r, .int .i64 a1.e, .int .i64 a1.c, .int .i64 a1.t, .int .i64 a1.a] 23)).heap[p]? = _) at HB_p
  change Hid ((u3.alloc (.cells #[.int .i64 a1.s, .int .i64 a1.v, .int .i64 a1.r, .int .i64 a1.e, .int .i64 a1.c, .int .i64 a1.t, .int .i64 a1.a] 23)).heap[g1]? = _) at HB_g1
  change Hid ((u3.alloc (.cells #[.int .i64 a1.s, .int .i64 a1.v, .int .i64 a1.r, .int .i64 a1.e, .int .i64 a1.c, .int .i64 a1.t, .int .i64 a1.a] 23)).heap[g2]? = _) at HB_g2
  clear HW3 HU3 k0 k1 k2 k3 k4 k5 k6
  generalize u3.alloc (.cells #[.int .i64 a1.s, .int .i64 a1.v, .int .i64 a1.r, .int .i64 a1.e, .int .i64 a1.c, .int .i64 a1.t, .int .i64 a1.a] 23) = v3 at HV3 HB_g3 HB_p HB_g1 HB_g2 ⊢
  generalize u3.heap.size = g3 at HB_g3 ⊢
  have x2 : v3.cell? ⟨p, 2, none⟩ = some (.int .i64 x.r) := cell_of HB_p.out rfl
  have x4 : v3.cell? ⟨p, 4, none⟩ = some (.int .i64 x.c) := cell_of HB_p.out rfl
  have l2 : v3.cell? ⟨g1, 2, none⟩ = some (.int .i64 r1.r) := cell_of HB_g1.out rfl
  have l4 : v3.cell? ⟨g1, 4, none⟩ = some (.int .i64 r1.c) := cell_of HB_g1.out rfl
  have f4 : v3.cell? ⟨g2, 4, none⟩ = some (.int .i64 q1.c) := cell_of HB_g2.out rfl
  have b4 : v3.cell? ⟨g3, 4, none⟩ = some (.int .i64 a1.c) := cell_of HB_g3.out rfl
  go_cut [74] (fun v wx => v = .bool false ∧ wx = v3)
  case first =>
    have t1 : decide (r1.c > x.c) = false := by simp; omega
    have t2 : decide (r1.r < x.r) = false := by simp; omega
    have hqc := HQC.out
    have hac := HAC.out
    by_cases h1 : q1.c > x.c
    · have t3 : decide (q1.c > x.c) = true := decide_eq_true h1
      have t4 : (q1.c != 1024) = false := by simp; omega
      by_cases h2 : a2 = 0
      · have t5 : (a2 == 0) = true := by simp [h2]
        have t6 : decide (a1.c < x.c) = false := by have := hac h2; simp; omega
        clear hqc hac h1 h2 hrc hrr hc hr
        go_wp2_with fail
        go_meet
        exact ⟨rfl, rfl⟩
      · have t5 : (a2 == 0) = false := by simp [h2]
        clear hqc hac h1 h2 hrc hrr hc hr
        go_wp2_with fail
        go_meet
        exact ⟨rfl, rfl⟩
    · have t3 : decide (q1.c > x.c) = false := decide_eq_false h1
      by_cases h2 : a2 = 0
      · have t5 : (a2 == 0) = true := by simp [h2]
        have t6 : decide (a1.c < x.c) = false := by have := hac h2; simp; omega
        clear hqc hac h1 h2 hrc hrr hc hr
        go_wp2_with fail
        go_meet
        exact ⟨rfl, rfl⟩
      · have t5 : (a2 == 0) = false := by simp [h2]
        clear hqc hac h1 h2 hrc hrr hc hr
        go_wp2_with fail
        go_meet
        exact ⟨rfl, rfl⟩
  case rest =>
  obtain ⟨rfl, hwr⟩ := hcut
  subst hwr
  clear x2 x4 l2 l4 f4 b4
  have k0 : wc.cell? ⟨p, 0, none⟩ = some (.int .i64 x.s) := cell_of HB_p.out rfl
  have k1 : wc.cell? ⟨p, 1, none⟩ = some (.int .i64 x.v) := cell_of HB_p.out rfl
  have k2 : wc.cell? ⟨p, 2, none⟩ = some (.int .i64 x.r) := cell_of HB_p.out rfl
  have k3 : wc.cell? ⟨p, 3, none⟩ = some (.int .i64 x.e) := cell_of HB_p.out rfl
  have k4 : wc.cell? ⟨p, 4, none⟩ = some (.int .i64 x.c) := cell_of HB_p.out rfl
  have k5 : wc.cell? ⟨p, 5, none⟩ = some (.int .i64 x.t) := cell_of HB_p.out rfl
  have k6 : wc.cell? ⟨p, 6, none⟩ = some (.int .i64 x.a) := cell_of HB_p.out rfl
  go_upto_region 9 with (fail)
  have hn := new_at wc (.cells x.cs 23)
  have HV4 := Lib.hid (HV3.out.trans (up_alloc wc (.cells x.cs 23)))
  have HG := Lib.hid hn
  have hwg : w.heap.size ≤ wc.heap.size := HV3.out.size
  clear hn HV3 k0 k1 k2 k3 k4 k5 k6
  change Hid ((wc.alloc (.cells #[.int .i64 x.s, .int .i64 x.v, .int .i64 x.r, .int .i64 x.e, .int .i64 x.c, .int .i64 x.t, .int .i64 x.a] 23)).heap[wc.heap.size]? = _) at HG
  change Hid (Up w (wc.alloc (.cells #[.int .i64 x.s, .int .i64 x.v, .int .i64 x.r, .int .i64 x.e, .int .i64 x.c, .int .i64 x.t, .int .i64 x.a] 23))) at HV4
  generalize wc.alloc (.cells #[.int .i64 x.s, .int .i64 x.v, .int .i64 x.r, .int .i64 x.e, .int .i64 x.c, .int .i64 x.t, .int .i64 x.a] 23) = v4 at HG HV4 ⊢
  generalize wc.heap.size = g at HG hwg ⊢
  go_wp2_with fail
  go_loopw [14] (fun iv wr => ∃ (i : Nat) (y : Wy), iv = .int .i64 (i : Int) ∧ i ≤ 20 ∧ Hid (Lost i y) ∧ Hid (wr.heap[g]? = some (.cells y.cs 23 (0, 0))) ∧ Hid (Up w wr)) (fun iv _ => 20 - (intOf iv).toNat)
  case atStart => exact ⟨0, x, rfl, by omega, Lib.hid (lost_0 HOK.out), HG, HV4⟩
  case round =>
    clear HG HV4
    obtain ⟨i, y, rfl, hi, HY, HG, HV⟩ := hrel
    have hg := HG.out
    have k0 : wr.cell? ⟨g, 0, none⟩ = some (.int .i64 y.s) := cell_of hg rfl
    have k1 : wr.cell? ⟨g, 1, none⟩ = some (.int .i64 y.v) := cell_of hg rfl
    have k2 : wr.cell? ⟨g, 2, none⟩ = some (.int .i64 y.r) := cell_of hg rfl
    have k3 : wr.cell? ⟨g, 3, none⟩ = some (.int .i64 y.e) := cell_of hg rfl
    have k4 : wr.cell? ⟨g, 4, none⟩ = some (.int .i64 y.c) := cell_of hg rfl
    have k5 : wr.cell? ⟨g, 5, none⟩ = some (.int .i64 y.t) := cell_of hg rfl
    have k6 : wr.cell? ⟨g, 6, none⟩ = some (.int .i64 y.a) := cell_of hg rfl
    clear hg
    by_cases hlt : i < 20
    · have d1 : decide ((i : Int) < 20) = true := by simp; omega
      have HC : ∀ wx, Calls Try.prog 14 #[.agg y.cs] wx (WRes (lateW y) 0 wx) := fun wx => by have := late_any y wx; rw [lateOf_ok HY.out.ok] at this; exact this
      obtain ⟨y2, hy2⟩ : ∃ y2, y2 = lateW y := ⟨_, rfl⟩
      rw [← hy2] at HC
      have HY2 : Hid (Lost (i + 1) y2) := Lib.hid (by rw [hy2]; exact lost_next HY.out)
      clear hy2
      go_wp2_with fail
      refine (HC _).mono ?_
      rintro e u2 ⟨rfl, HU2⟩
      have hg := (HU2.out.block _ (lt_of_blk HG.out)).trans HG.out
      have HV2 := Lib.hid (HV.out.trans HU2.out)
      have HG2 := Lib.hid hg
      clear k0 k1 k2 k3 k4 k5 k6
      have k0 : u2.cell? ⟨g, 0, none⟩ = some (.int .i64 y.s) := cell_of hg rfl
      have k1 : u2.cell? ⟨g, 1, none⟩ = some (.int .i64 y.v) := cell_of hg rfl
      have k2 : u2.cell? ⟨g, 2, none⟩ = some (.int .i64 y.r) := cell_of hg rfl
      have k3 : u2.cell? ⟨g, 3, none⟩ = some (.int .i64 y.e) := cell_of hg rfl
      have k4 : u2.cell? ⟨g, 4, none⟩ = some (.int .i64 y.c) := cell_of hg rfl
      have k5 : u2.cell? ⟨g, 5, none⟩ = some (.int .i64 y.t) := cell_of hg rfl
      have k6 : u2.cell? ⟨g, 6, none⟩ = some (.int .i64 y.a) := cell_of hg rfl
      have fz : ∀ j, u2.frozen? ⟨g, j, none⟩ = false := fun j => frozen_at hg
      clear hg HC HY HV HG HU2
      go_upto_region 11 with (fail)
      have HT : Hid (Tr g y2.cs u2 (((((((u2.setCell ⟨g, 0, none⟩ (.int .i64 y2.s)).setCell ⟨g, 1, none⟩ (.int .i64 y2.v)).setCell ⟨g, 2, none⟩ (.int .i64 y2.r)).setCell ⟨g, 3, none⟩ (.int .i64 y2.e)).setCell ⟨g, 4, none⟩ (.int .i64 y2.c)).setCell ⟨g, 5, none⟩ (.int .i64 y2.t)).setCell ⟨g, 6, none⟩ (.int .i64 y2.a))) := Lib.hid ((((((((Tr.refl HG2.out).set 0 (.int .i64 y2.s)).set 1 (.int .i64 y2.v)).set 2 (.int .i64 y2.r)).set 3 (.int .i64 y2.e)).set 4 (.int .i64 y2.c)).set 5 (.int .i64 y2.t)).set 6 (.int .i64 y2.a))
      clear fz k0 k1 k2 k3 k4 k5 k6 HG2
      generalize (((((((u2.setCell ⟨g, 0, none⟩ (.int .i64 y2.s)).setCell ⟨g, 1, none⟩ (.int .i64 y2.v)).setCell ⟨g, 2, none⟩ (.int .i64 y2.r)).setCell ⟨g, 3, none⟩ (.int .i64 y2.e)).setCell ⟨g, 4, none⟩ (.int .i64 y2.c)).setCell ⟨g, 5, none⟩ (.int .i64 y2.t)).setCell ⟨g, 6, none⟩ (.int .i64 y2.a)) = v1 at HT ⊢
      have HV3 : Hid (Up w v1) := Lib.hid (Below.out HV2.out HT.out.2 (fun k hk => by rw [hk]; exact hwg) HV2.out.size)
      have HG3 := Lib.hid HT.out.1
      clear HT HV2
      go_wp2_with fail
      go_roundw
      case rel => exact ⟨i + 1, y2, by go_num, by omega, HY2, HG3, HV3⟩
      case measure => simp [intOf]; omega
    · obtain rfl : i = 20 := by omega
      have d1 : decide (((20 : Nat) : Int) < 20) = false := by simp
      have hok2 := HY.out.ok
      have hyr : y.r = 64 := by have h1 := HY.out.r4 (by omega); have h2 := hok2.2.2.1; omega
      have t1 : (y.c == 512) = true := by simp [HY.out.c (by omega)]
      have t2 : (y.r == 64) = true := by simp [hyr]
      have t3 : (y.t == 1024) = true := by simp [HY.out.t (by omega)]
      clear hyr hok2 hlt
      go_wp2_with fail
      go_ret
      exact ⟨rfl, HV⟩
end Go.Proofs.Ytahpejcejbgcpaa
