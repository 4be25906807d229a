import Derived.Test.YtahpejcejbgcpaaRt8
import Derived.Test.YtahpejcejbgcpaaRt1
import Derived.StillTailTactics
namespace Go.Proofs.Ytahpejcejbgcpaa
open Go Go.RowKit
set_option linter.unusedVariables false
set_option linter.unusedSimpArgs false
theorem okc_t (x : Wy) (h : x.Ok) (w : World) : Calls Try.prog 13 #[.agg x.cs] w fun e w' => e = .returned (.bool true) ∧ Hid (Up w w') := (wayok_any x w).mono fun e w' ⟨h1, h2⟩ => ⟨by rw [h1, okB_t h], Lib.hid h2⟩
theorem okc_f (x : Wy) (h : ¬ x.Ok) (w : World) : Calls Try.prog 13 #[.agg x.cs] w fun e w' => e = .returned (.bool false) ∧ Hid (Up w w') := (wayok_any x w).mono fun e w' ⟨h1, h2⟩ => ⟨by rw [h1, okB_f h], Lib.hid h2⟩
def clp (n lo hi : Int) : Int := if n < lo then lo else if hi < n then hi else n
theorem clip_any (n lo hi : Int) (w : World) : Calls Try.prog 28 #[.int .i64 n, .int .i64 lo, .int .i64 hi] w fun e w' => e = .returned (.int .i64 (clp n lo hi)) ∧ w' = w := by
  unfold clp
  by_cases h1 : n < lo
  · rw [if_pos h1]
    have d1 : decide (n < lo) = true := decide_eq_true h1
    clear h1
    go_enter Try.func28, Try.ntmps28
    go_wp2_with fail
    go_ret
    exact ⟨rfl, rfl⟩
  · rw [if_neg h1]
    have d1 : decide (n < lo) = false := decide_eq_false h1
    clear h1
    by_cases h2 : hi < n
    · rw [if_pos h2]
      have d2 : decide (n > hi) = true := decide_eq_true h2
      clear h2
      go_enter Try.func28, Try.ntmps28
      go_wp2_with fail
      go_ret
      exact ⟨rfl, rfl⟩
    · rw [if_neg h2]
      have d2 : decide (n > hi) = false := decide_eq_false h2
      clear h2
      go_enter Try.func28, Try.ntmps28
      go_wp2_with fail
      go_ret
      exact ⟨rfl, rfl⟩
set_option maxRecDepth 100000 in
set_option maxHeartbeats 4000000 in
theorem rlate_f (x : Wy) (h : ¬ x.Ok) (w : World) : Calls Try.prog 15 #[.agg x.cs] w (WRes W0 2 w) := by
  have HS := okc_f x h
  clear h
  have hb0 := new_at w (.cells x.cs 23)
  have hb0 := (((up_alloc (w.alloc (.cells x.cs 23)) (.cells #[.int .i64 0, .int .i64 0, .int .i64 0, .int .i64 0, .int .i64 0, .int .i64 0, .int .i64 0] 23)).block _ (lt_of_blk hb0)).trans hb0)
  have hs1 : (w.alloc (.cells x.cs 23)).heap.size = w.heap.size + 1 := by simp
  have hb1 := new_at (w.alloc (.cells x.cs 23)) (.cells #[.int .i64 0, .int .i64 0, .int .i64 0, .int .i64 0, .int .i64 0, .int .i64 0, .int .i64 0] 23)
  rw [hs1] at hb1
  have hu : Up w ((w.alloc (.cells x.cs 23)).alloc (.cells #[.int .i64 0, .int .i64 0, .int .i64 0, .int .i64 0, .int .i64 0, .int .i64 0, .int .i64 0] 23)) := (up_alloc w (.cells x.cs 23)).trans (up_alloc (w.alloc (.cells x.cs 23)) (.cells #[.int .i64 0, .int .i64 0, .int .i64 0, .int .i64 0, .int .i64 0, .int .i64 0, .int .i64 0] 23))
  change ((w.alloc (.cells x.cs 23)).alloc (.cells #[.int .i64 0, .int .i64 0, .int .i64 0, .int .i64 0, .int .i64 0, .int .i64 0, .int .i64 0] 23)).heap[w.heap.size]? = _ at hb0
  have HM0 := Lib.hid hb0
  change ((w.alloc (.cells x.cs 23)).alloc (.cells #[.int .i64 0, .int .i64 0, .int .i64 0, .int .i64 0, .int .i64 0, .int .i64 0, .int .i64 0] 23)).heap[w.heap.size + 1]? = _ at hb1
  have HM1 := Lib.hid hb1
  have HU1 := Lib.hid hu
  clear hu hb0 hb1 hs1
  try clear hb0
  go_enter Try.func15, Try.ntmps15
  go_upto_region 1 with (fail)
  generalize ((w.alloc (.cells x.cs 23)).alloc (.cells #[.int .i64 0, .int .i64 0, .int .i64 0, .int .i64 0, .int .i64 0, .int .i64 0, .int .i64 0] 23)) = w2 at HM0 HM1 HU1 ⊢
  obtain ⟨p, hp⟩ : ∃ p, p = w.heap.size := ⟨_, rfl⟩
  rw [← hp] at HM0 HM1 ⊢
  have HP := Lib.hid hp
  clear hp
  have k0 : w2.cell? ⟨p, 0, none⟩ = some (.int .i64 x.s) := cell_of HM0.out rfl
  have k1 : w2.cell? ⟨p, 1, none⟩ = some (.int .i64 x.v) := cell_of HM0.out rfl
  have k2 : w2.cell? ⟨p, 2, none⟩ = some (.int .i64 x.r) := cell_of HM0.out rfl
  have k3 : w2.cell? ⟨p, 3, none⟩ = some (.int .i64 x.e) := cell_of HM0.out rfl
  have k4 : w2.cell? ⟨p, 4, none⟩ = some (.int .i64 x.c) := cell_of HM0.out rfl
  have k5 : w2.cell? ⟨p, 5, none⟩ = some (.int .i64 x.t) := cell_of HM0.out rfl
  have k6 : w2.cell? ⟨p, 6, none⟩ = some (.int .i64 x.a) := cell_of HM0.out rfl
  go_wp2_with fail
  refine (HS _).mono ?_
  rintro e w3 ⟨rfl, HU3⟩
  have hm3 := (HU3.out.block _ (lt_of_blk HM1.out)).trans HM1.out
  have HU4 := Lib.hid (HU1.out.trans HU3.out)
  have HM3 := Lib.hid hm3
  have f3 : ∀ j, w3.frozen? ⟨p + 1, j, none⟩ = false := fun j => frozen_at hm3
  have q0 : w3.cell? ⟨p + 1, 0, none⟩ = some (.int .i64 0) := cell_of hm3 rfl
  have q1 : w3.cell? ⟨p + 1, 1, none⟩ = some (.int .i64 0) := cell_of hm3 rfl
  have q2 : w3.cell? ⟨p + 1, 2, none⟩ = some (.int .i64 0) := cell_of hm3 rfl
  have q3 : w3.cell? ⟨p + 1, 3, none⟩ = some (.int .i64 0) := cell_of hm3 rfl
  have q4 : w3.cell? ⟨p + 1, 4, none⟩ = some (.int .i64 0) := cell_of hm3 rfl
  have q5 : w3.cell? ⟨p + 1, 5, none⟩ = some (.int .i64 0) := cell_of hm3 rfl
  have q6 : w3.cell? ⟨p + 1, 6, none⟩ = some (.int .i64 0) := cell_of hm3 rfl
  clear k0 k1 k2 k3 k4 k5 k6
  clear hm3
  go_wp2_with fail
  have HT := ((((((((Tr.refl HM3.out).set 0 (.int .i64 W0.s)).set 1 (.int .i64 W0.v)).set 2 (.int .i64 W0.r)).set 3 (.int .i64 W0.e)).set 4 (.int .i64 W0.c)).set 5 (.int .i64 W0.t)).set 6 (.int .i64 W0.a))
  refine bodyPost_ret (results_row_tmp (fn := Try.f15) (p := 2) (u := 3) (ty := 23) rfl _ _ (p + 1) 23 W0.cs (0, 0) _ rfl HT.1 Try.underlying23 rfl rfl) rfl ⟨rfl, Lib.hid (Below.out HU4.out HT.2 (fun k hk => by rw [hk, HP.out]; omega) (HU4.out).size)⟩
set_option maxRecDepth 100000 in
set_option maxHeartbeats 4000000 in
theorem rfast_f (x : Wy) (h : ¬ x.Ok) (w : World) : Calls Try.prog 17 #[.agg x.cs] w (WRes W0 2 w) := by
  have HS := okc_f x h
  clear h
  have hb0 := new_at w (.cells x.cs 23)
  have hb0 := (((up_alloc (w.alloc (.cells x.cs 23)) (.cells #[.int .i64 0, .int .i64 0, .int .i64 0, .int .i64 0, .int .i64 0, .int .i64 0, .int .i64 0] 23)).block _ (lt_of_blk hb0)).trans hb0)
  have hs1 : (w.alloc (.cells x.cs 23)).heap.size = w.heap.size + 1 := by simp
  have hb1 := new_at (w.alloc (.cells x.cs 23)) (.cells #[.int .i64 0, .int .i64 0, .int .i64 0, .int .i64 0, .int .i64 0, .int .i64 0, .int .i64 0] 23)
  rw [hs1] at hb1
  have hu : Up w ((w.alloc (.cells x.cs 23)).alloc (.cells #[.int .i64 0, .int .i64 0, .int .i64 0, .int .i64 0, .int .i64 0, .int .i64 0, .int .i64 0] 23)) := (up_alloc w (.cells x.cs 23)).trans (up_alloc (w.alloc (.cells x.cs 23)) (.cells #[.int .i64 0, .int .i64 0, .int .i64 0, .int .i64 0, .int .i64 0, .int .i64 0, .int .i64 0] 23))
  change ((w.alloc (.cells x.cs 23)).alloc (.cells #[.int .i64 0, .int .i64 0, .int .i64 0, .int .i64 0, .int .i64 0, .int .i64 0, .int .i64 0] 23)).heap[w.heap.size]? = _ at hb0
  have HM0 := Lib.hid hb0
  change ((w.alloc (.cells x.cs 23)).alloc (.cells #[.int .i64 0, .int .i64 0, .int .i64 0, .int .i64 0, .int .i64 0, .int .i64 0, .int .i64 0] 23)).heap[w.heap.size + 1]? = _ at hb1
  have HM1 := Lib.hid hb1
  have HU1 := Lib.hid hu
  clear hu hb0 hb1 hs1
  try clear hb0
  go_enter Try.func17, Try.ntmps17
  go_upto_region 1 with (fail)
  generalize ((w.alloc (.cells x.cs 23)).alloc (.cells #[.int .i64 0, .int .i64 0, .int .i64 0, .int .i64 0, .int .i64 0, .int .i64 0, .int .i64 0] 23)) = w2 at HM0 HM1 HU1 ⊢
  obtain ⟨p, hp⟩ : ∃ p, p = w.heap.size := ⟨_, rfl⟩
  rw [← hp] at HM0 HM1 ⊢
  have HP := Lib.hid hp
  clear hp
  have k0 : w2.cell? ⟨p, 0, none⟩ = some (.int .i64 x.s) := cell_of HM0.out rfl
  have k1 : w2.cell? ⟨p, 1, none⟩ = some (.int .i64 x.v) := cell_of HM0.out rfl
  have k2 : w2.cell? ⟨p, 2, none⟩ = some (.int .i64 x.r) := cell_of HM0.out rfl
  have k3 : w2.cell? ⟨p, 3, none⟩ = some (.int .i64 x.e) := cell_of HM0.out rfl
  have k4 : w2.cell? ⟨p, 4, none⟩ = some (.int .i64 x.c) := cell_of HM0.out rfl
  have k5 : w2.cell? ⟨p, 5, none⟩ = some (.int .i64 x.t) := cell_of HM0.out rfl
  have k6 : w2.cell? ⟨p, 6, none⟩ = some (.int .i64 x.a) := cell_of HM0.out rfl
  go_wp2_with fail
  refine (HS _).mono ?_
  rintro e w3 ⟨rfl, HU3⟩
  have hm3 := (HU3.out.block _ (lt_of_blk HM1.out)).trans HM1.out
  have HU4 := Lib.hid (HU1.out.trans HU3.out)
  have HM3 := Lib.hid hm3
  have f3 : ∀ j, w3.frozen? ⟨p + 1, j, none⟩ = false := fun j => frozen_at hm3
  have q0 : w3.cell? ⟨p + 1, 0, none⟩ = some (.int .i64 0) := cell_of hm3 rfl
  have q1 : w3.cell? ⟨p + 1, 1, none⟩ = some (.int .i64 0) := cell_of hm3 rfl
  have q2 : w3.cell? ⟨p + 1, 2, none⟩ = some (.int .i64 0) := cell_of hm3 rfl
  have q3 : w3.cell? ⟨p + 1, 3, none⟩ = some (.int .i64 0) := cell_of hm3 rfl
  have q4 : w3.cell? ⟨p + 1, 4, none⟩ = some (.int .i64 0) := cell_of hm3 rfl
  have q5 : w3.cell? ⟨p + 1, 5, none⟩ = some (.int .i64 0) := cell_of hm3 rfl
  have q6 : w3.cell? ⟨p + 1, 6, none⟩ = some (.int .i64 0) := cell_of hm3 rfl
  clear k0 k1 k2 k3 k4 k5 k6
  clear hm3
  go_wp2_with fail
  have HT := ((((((((Tr.refl HM3.out).set 0 (.int .i64 W0.s)).set 1 (.int .i64 W0.v)).set 2 (.int .i64 W0.r)).set 3 (.int .i64 W0.e)).set 4 (.int .i64 W0.c)).set 5 (.int .i64 W0.t)).set 6 (.int .i64 W0.a))
  refine bodyPost_ret (results_row_tmp (fn := Try.f17) (p := 2) (u := 3) (ty := 23) rfl _ _ (p + 1) 23 W0.cs (0, 0) _ rfl HT.1 Try.underlying23 rfl rfl) rfl ⟨rfl, Lib.hid (Below.out HU4.out HT.2 (fun k hk => by rw [hk, HP.out]; omega) (HU4.out).size)⟩
set_option maxRecDepth 100000 in
set_option maxHeartbeats 4000000 in
theorem rlate_t (x : Wy) (h : x.Ok) (w : World) : Calls Try.prog 15 #[.agg x.cs] w (WRes (⟨x.s, x.v, clp (2 * x.r) 4 64, clp (x.e + 1) 0 1048576, 512, clp (x.c / 2) 1024 65536, 0⟩ : Wy) 0 w) := by
  have HS := okc_t x h
  obtain ⟨⟨a1, a2⟩, ⟨b1, b2⟩, ⟨c1, c2⟩, ⟨d1, d2⟩, ⟨e1, e2⟩, ⟨f1, f2⟩, ⟨g1, g2⟩⟩ := h
  have hb0 := new_at w (.cells x.cs 23)
  have hb0 := (((up_alloc (w.alloc (.cells x.cs 23)) (.cells #[.int .i64 0, .int .i64 0, .int .i64 0, .int .i64 0, .int .i64 0, .int .i64 0, .int .i64 0] 23)).block _ (lt_of_blk hb0)).trans hb0)
  have hs1 : (w.alloc (.cells x.cs 23)).heap.size = w.heap.size + 1 := by simp
  have hb1 := new_at (w.alloc (.cells x.cs 23)) (.cells #[.int .i64 0, .int .i64 0, .int .i64 0, .int .i64 0, .int .i64 0, .int .i64 0, .int .i64 0] 23)
  rw [hs1] at hb1
  have hu : Up w ((w.alloc (.cells x.cs 23)).alloc (.cells #[.int .i64 0, .int .i64 0, .int .i64 0, .int .i64 0, .int .i64 0, .int .i64 0, .int .i64 0] 23)) := (up_alloc w (.cells x.cs 23)).trans (up_alloc (w.alloc (.cells x.cs 23)) (.cells #[.int .i64 0, .int .i64 0, .int .i64 0, .int .i64 0, .int .i64 0, .int .i64 0, .int .i64 0] 23))
  change ((w.alloc (.cells x.cs 23)).alloc (.cells #[.int .i64 0, .int .i64 0, .int .i64 0, .int .i64 0, .int .i64 0, .int .i64 0, .int .i64 0] 23)).heap[w.heap.size]? = _ at hb0
  have HM0 := Lib.hid hb0
  change ((w.alloc (.cells x.cs 23)).alloc (.cells #[.int .i64 0, .int .i64 0, .int .i64 0, .int .i64 0, .int .i64 0, .int .i64 0, .int .i64 0] 23)).heap[w.heap.size + 1]? = _ at hb1
  have HM1 := Lib.hid hb1
  have HU1 := Lib.hid hu
  clear hu hb0 hb1 hs1
  try clear hb0
  go_enter Try.func15, Try.ntmps15
  go_upto_region 1 with (fail)
  generalize ((w.alloc (.cells x.cs 23)).alloc (.cells #[.int .i64 0, .int .i64 0, .int .i64 0, .int .i64 0, .int .i64 0, .int .i64 0, .int .i64 0] 23)) = w2 at HM0 HM1 HU1 ⊢
  obtain ⟨p, hp⟩ : ∃ p, p = w.heap.size := ⟨_, rfl⟩
  rw [← hp] at HM0 HM1 ⊢
  have HP := Lib.hid hp
  clear hp
  have k0 : w2.cell? ⟨p, 0, none⟩ = some (.int .i64 x.s) := cell_of HM0.out rfl
  have k1 : w2.cell? ⟨p, 1, none⟩ = some (.int .i64 x.v) := cell_of HM0.out rfl
  have k2 : w2.cell? ⟨p, 2, none⟩ = some (.int .i64 x.r) := cell_of HM0.out rfl
  have k3 : w2.cell? ⟨p, 3, none⟩ = some (.int .i64 x.e) := cell_of HM0.out rfl
  have k4 : w2.cell? ⟨p, 4, none⟩ = some (.int .i64 x.c) := cell_of HM0.out rfl
  have k5 : w2.cell? ⟨p, 5, none⟩ = some (.int .i64 x.t) := cell_of HM0.out rfl
  have k6 : w2.cell? ⟨p, 6, none⟩ = some (.int .i64 x.a) := cell_of HM0.out rfl
  go_wp2_with fail
  refine (HS _).mono ?_
  rintro e w3 ⟨rfl, HU3⟩
  have hm3 := (HU3.out.block _ (lt_of_blk HM1.out)).trans HM1.out
  have hm4 := (HU3.out.block _ (lt_of_blk HM0.out)).trans HM0.out
  have HU4 := Lib.hid (HU1.out.trans HU3.out)
  have HM3 := Lib.hid hm3
  have HM4 := Lib.hid hm4
  have f3 : ∀ j, w3.frozen? ⟨p + 1, j, none⟩ = false := fun j => frozen_at hm3
  have q0 : w3.cell? ⟨p + 1, 0, none⟩ = some (.int .i64 0) := cell_of hm3 rfl
  have q1 : w3.cell? ⟨p + 1, 1, none⟩ = some (.int .i64 0) := cell_of hm3 rfl
  have q2 : w3.cell? ⟨p + 1, 2, none⟩ = some (.int .i64 0) := cell_of hm3 rfl
  have q3 : w3.cell? ⟨p + 1, 3, none⟩ = some (.int .i64 0) := cell_of hm3 rfl
  have q4 : w3.cell? ⟨p + 1, 4, none⟩ = some (.int .i64 0) := cell_of hm3 rfl
  have q5 : w3.cell? ⟨p + 1, 5, none⟩ = some (.int .i64 0) := cell_of hm3 rfl
  have q6 : w3.cell? ⟨p + 1, 6, none⟩ = some (.int .i64 0) := cell_of hm3 rfl
  clear k0 k1 k2 k3 k4 k5 k6
  have k0 : w3.cell? ⟨p, 0, none⟩ = some (.int .i64 x.s) := cell_of hm4 rfl
  have k1 : w3.cell? ⟨p, 1, none⟩ = some (.int .i64 x.v) := cell_of hm4 rfl
  have k2 : w3.cell? ⟨p, 2, none⟩ = some (.int .i64 x.r) := cell_of hm4 rfl
  have k3 : w3.cell? ⟨p, 3, none⟩ = some (.int .i64 x.e) := cell_of hm4 rfl
  have k4 : w3.cell? ⟨p, 4, none⟩ = some (.int .i64 x.c) := cell_of hm4 rfl
  have k5 : w3.cell? ⟨p, 5, none⟩ = some (.int .i64 x.t) := cell_of hm4 rfl
  have k6 : w3.cell? ⟨p, 6, none⟩ = some (.int .i64 x.a) := cell_of hm4 rfl
  have f4 : ∀ j, w3.frozen? ⟨p, j, none⟩ = false := fun j => frozen_at hm4
  clear hm3 hm4 HM0 HM1 HS
  go_wp2_with (go_at_call 28; with_reducible refine (clip_any _ _ _ _).mono ?_; rintro e wk ⟨rfl, rfl⟩)
  all_goals
    have HA := (((((Tr.refl HM4.out).set 2 (.int .i64 (clp (2 * x.r) 4 64))).set 5 (.int .i64 (clp (x.c / 2) 1024 65536))).set 4 (.int .i64 512)).set 6 (.int .i64 0)).set 3 (.int .i64 (clp (x.e + 1) 0 1048576))
    have HB := Tr.refl (HA.2.blk HM3.out (by omega))
    have HT := ((((((HB.set 0 (.int .i64 (⟨x.s, x.v, clp (2 * x.r) 4 64, clp (x.e + 1) 0 1048576, 512, clp (x.c / 2) 1024 65536, 0⟩ : Wy).s)).set 1 (.int .i64 (⟨x.s, x.v, clp (2 * x.r) 4 64, clp (x.e + 1) 0 1048576, 512, clp (x.c / 2) 1024 65536, 0⟩ : Wy).v)).set 2 (.int .i64 (⟨x.s, x.v, clp (2 * x.r) 4 64, clp (x.e + 1) 0 1048576, 512, clp (x.c / 2) 1024 65536, 0⟩ : Wy).r)).set 3 (.int .i64 (⟨x.s, x.v, clp (2 * x.r) 4 64, clp (x.e + 1) 0 1048576, 512, clp (x.c / 2) 1024 65536, 0⟩ : Wy).e)).set 4 (.int .i64 (⟨x.s, x.v, clp (2 * x.r) 4 64, clp (x.e + 1) 0 1048576, 512, clp (x.c / 2) 1024 65536, 0⟩ : Wy).c)).set 5 (.int .i64 (⟨x.s, x.v, clp (2 * x.r) 4 64, clp (x.e + 1) 0 1048576, 512, clp (x.c / 2) 1024 65536, 0⟩ : Wy).t)).set 6 (.int .i64 (⟨x.s, x.v, clp (2 * x.r) 4 64, clp (x.e + 1) 0 1048576, 512, clp (x.c / 2) 1024 65536, 0⟩ : Wy).a)
    have HZ : Up w _ := Below.out HU4.out HA.2 (fun k hk => by rw [hk, HP.out]; omega) HU4.out.size
    exact bodyPost_ret (results_row_tmp (fn := Try.f15) (p := 2) (u := 3) (ty := 23) rfl _ _ (p + 1) 23 (⟨x.s, x.v, clp (2 * x.r) 4 64, clp (x.e + 1) 0 1048576, 512, clp (x.c / 2) 1024 65536, 0⟩ : Wy).cs (0, 0) _ rfl HT.1 Try.underlying23 rfl rfl) rfl ⟨rfl, Lib.hid (Below.out HZ HT.2 (fun k hk => by rw [hk, HP.out]; omega) HZ.size)⟩
set_option maxRecDepth 100000 in
set_option maxHeartbeats 4000000 in
theorem rfast_t (x : Wy) (h : x.Ok) (w : World) : Calls Try.prog 17 #[.agg x.cs] w (WRes (⟨x.s, x.v, x.r, x.e, clp (x.c / 2) 1024 65536, clp (x.c / 2) 1024 65536, 0⟩ : Wy) 0 w) := by
  have HS := okc_t x h
  obtain ⟨⟨a1, a2⟩, ⟨b1, b2⟩, ⟨c1, c2⟩, ⟨d1, d2⟩, ⟨e1, e2⟩, ⟨f1, f2⟩, ⟨g1, g2⟩⟩ := h
  have hb0 := new_at w (.cells x.cs 23)
  have hb0 := (((up_alloc (w.alloc (.cells x.cs 23)) (.cells #[.int .i64 0, .int .i64 0, .int .i64 0, .int .i64 0, .int .i64 0, .int .i64 0, .int .i64 0] 23)).block _ (lt_of_blk hb0)).trans hb0)
  have hs1 : (w.alloc (.cells x.cs 23)).heap.size = w.heap.size + 1 := by simp
  have hb1 := new_at (w.alloc (.cells x.cs 23)) (.cells #[.int .i64 0, .int .i64 0, .int .i64 0, .int .i64 0, .int .i64 0, .int .i64 0, .int .i64 0] 23)
  rw [hs1] at hb1
  have hu : Up w ((w.alloc (.cells x.cs 23)).alloc (.cells #[.int .i64 0, .int .i64 0, .int .i64 0, .int .i64 0, .int .i64 0, .int .i64 0, .int .i64 0] 23)) := (up_alloc w (.cells x.cs 23)).trans (up_alloc (w.alloc (.cells x.cs 23)) (.cells #[.int .i64 0, .int .i64 0, .int .i64 0, .int .i64 0, .int .i64 0, .int .i64 0, .int .i64 0] 23))
  change ((w.alloc (.cells x.cs 23)).alloc (.cells #[.int .i64 0, .int .i64 0, .int .i64 0, .int .i64 0, .int .i64 0, .int .i64 0, .int .i64 0] 23)).heap[w.heap.size]? = _ at hb0
  have HM0 := Lib.hid hb0
  change ((w.alloc (.cells x.cs 23)).alloc (.cells #[.int .i64 0, .int .i64 0, .int .i64 0, .int .i64 0, .int .i64 0, .int .i64 0, .int .i64 0] 23)).heap[w.heap.size + 1]? = _ at hb1
  have HM1 := Lib.hid hb1
  have HU1 := Lib.hid hu
  clear hu hb0 hb1 hs1
  try clear hb0
  go_enter Try.func17, Try.ntmps17
  go_upto_region 1 with (fail)
  generalize ((w.alloc (.cells x.cs 23)).alloc (.cells #[.int .i64 0, .int .i64 0, .int .i64 0, .int .i64 0, .int .i64 0, .int .i64 0, .int .i64 0] 23)) = w2 at HM0 HM1 HU1 ⊢
  obtain ⟨p, hp⟩ : ∃ p, p = w.heap.size := ⟨_, rfl⟩
  rw [← hp] at HM0 HM1 ⊢
  have HP := Lib.hid hp
  clear hp
  have k0 : w2.cell? ⟨p, 0, none⟩ = some (.int .i64 x.s) := cell_of HM0.out rfl
  have k1 : w2.cell? ⟨p, 1, none⟩ = some (.int .i64 x.v) := cell_of HM0.out rfl
  have k2 : w2.cell? ⟨p, 2, none⟩ = some (.int .i64 x.r) := cell_of HM0.out rfl
  have k3 : w2.cell? ⟨p, 3, none⟩ = some (.int .i64 x.e) := cell_of HM0.out rfl
  have k4 : w2.cell? ⟨p, 4, none⟩ = some (.int .i64 x.c) := cell_of HM0.out rfl
  have k5 : w2.cell? ⟨p, 5, none⟩ = some (.int .i64 x.t) := cell_of HM0.out rfl
  have k6 : w2.cell? ⟨p, 6, none⟩ = some (.int .i64 x.a) := cell_of HM0.out rfl
  go_wp2_with fail
  refine (HS _).mono ?_
  rintro e w3 ⟨rfl, HU3⟩
  have hm3 := (HU3.out.block _ (lt_of_blk HM1.out)).trans HM1.out
  have hm4 := (HU3.out.block _ (lt_of_blk HM0.out)).trans HM0.out
  have HU4 := Lib.hid (HU1.out.trans HU3.out)
  have HM3 := Lib.hid hm3
  have HM4 := Lib.hid hm4
  have f3 : ∀ j, w3.frozen? ⟨p + 1, j, none⟩ = false := fun j => frozen_at hm3
  have q0 : w3.cell? ⟨p + 1, 0, none⟩ = some (.int .i64 0) := cell_of hm3 rfl
  have q1 : w3.cell? ⟨p + 1, 1, none⟩ = some (.int .i64 0) := cell_of hm3 rfl
  have q2 : w3.cell? ⟨p + 1, 2, none⟩ = some (.int .i64 0) := cell_of hm3 rfl
  have q3 : w3.cell? ⟨p + 1, 3, none⟩ = some (.int .i64 0) := cell_of hm3 rfl
  have q4 : w3.cell? ⟨p + 1, 4, none⟩ = some (.int .i64 0) := cell_of hm3 rfl
  have q5 : w3.cell? ⟨p + 1, 5, none⟩ = some (.int .i64 0) := cell_of hm3 rfl
  have q6 : w3.cell? ⟨p + 1, 6, none⟩ = some (.int .i64 0) := cell_of hm3 rfl
  clear k0 k1 k2 k3 k4 k5 k6
  have k0 : w3.cell? ⟨p, 0, none⟩ = some (.int .i64 x.s) := cell_of hm4 rfl
  have k1 : w3.cell? ⟨p, 1, none⟩ = some (.int .i64 x.v) := cell_of hm4 rfl
  have k2 : w3.cell? ⟨p, 2, none⟩ = some (.int .i64 x.r) := cell_of hm4 rfl
  have k3 : w3.cell? ⟨p, 3, none⟩ = some (.int .i64 x.e) := cell_of hm4 rfl
  have k4 : w3.cell? ⟨p, 4, none⟩ = some (.int .i64 x.c) := cell_of hm4 rfl
  have k5 : w3.cell? ⟨p, 5, none⟩ = some (.int .i64 x.t) := cell_of hm4 rfl
  have k6 : w3.cell? ⟨p, 6, none⟩ = some (.int .i64 x.a) := cell_of hm4 rfl
  have f4 : ∀ j, w3.frozen? ⟨p, j, none⟩ = false := fun j => frozen_at hm4
  clear hm3 hm4 HM0 HM1 HS
  go_wp2_with (go_at_call 28; with_reducible refine (clip_any _ _ _ _).mono ?_; rintro e wk ⟨rfl, rfl⟩)
  all_goals
    have HA := (((Tr.refl HM4.out).set 5 (.int .i64 (clp (x.c / 2) 1024 65536))).set 4 (.int .i64 (clp (x.c / 2) 1024 65536))).set 6 (.int .i64 0)
    have HB := Tr.refl (HA.2.blk HM3.out (by omega))
    have HT := ((((((HB.set 0 (.int .i64 (⟨x.s, x.v, x.r, x.e, clp (x.c / 2) 1024 65536, clp (x.c / 2) 1024 65536, 0⟩ : Wy).s)).set 1 (.int .i64 (⟨x.s, x.v, x.r, x.e, clp (x.c / 2) 1024 65536, clp (x.c / 2) 1024 65536, 0⟩ : Wy).v)).set 2 (.int .i64 (⟨x.s, x.v, x.r, x.e, clp (x.c / 2) 1024 65536, clp (x.c / 2) 1024 65536, 0⟩ : Wy).r)).set 3 (.int .i64 (⟨x.s, x.v, x.r, x.e, clp (x.c / 2) 1024 65536, clp (x.c / 2) 1024 65536, 0⟩ : Wy).e)).set 4 (.int .i64 (⟨x.s, x.v, x.r, x.e, clp (x.c / 2) 1024 65536, clp (x.c / 2) 1024 65536, 0⟩ : Wy).c)).set 5 (.int .i64 (⟨x.s, x.v, x.r, x.e, clp (x.c / 2) 1024 65536, clp (x.c / 2) 1024 65536, 0⟩ : Wy).t)).set 6 (.int .i64 (⟨x.s, x.v, x.r, x.e, clp (x.c / 2) 1024 65536, clp (x.c / 2) 1024 65536, 0⟩ : Wy).a)
    have HZ : Up w _ := Below.out HU4.out HA.2 (fun k hk => by rw [hk, HP.out]; omega) HU4.out.size
    exact bodyPost_ret (results_row_tmp (fn := Try.f17) (p := 2) (u := 3) (ty := 23) rfl _ _ (p + 1) 23 (⟨x.s, x.v, x.r, x.e, clp (x.c / 2) 1024 65536, clp (x.c / 2) 1024 65536, 0⟩ : Wy).cs (0, 0) _ rfl HT.1 Try.underlying23 rfl rfl) rfl ⟨rfl, Lib.hid (Below.out HZ HT.2 (fun k hk => by rw [hk, HP.out]; omega) HZ.size)⟩
theorem wy_ext {a b : Wy} (h1 : a.s = b.s) (h2 : a.v = b.v) (h3 : a.r = b.r) (h4 : a.e = b.e) (h5 : a.c = b.c) (h6 : a.t = b.t) (h7 : a.a = b.a) : a = b := by
  cases a; cases b; simp at *; exact ⟨h1, h2, h3, h4, h5, h6, h7⟩
theorem rlate_any (x : Wy) (w : World) : Calls Try.prog 15 #[.agg x.cs] w (WR (lateOf x) w) := by
  unfold lateOf
  by_cases h : x.Ok
  · rw [if_pos h]
    have e : (⟨x.s, x.v, clp (2 * x.r) 4 64, clp (x.e + 1) 0 1048576, 512, clp (x.c / 2) 1024 65536, 0⟩ : Wy) = lateW x := by
      obtain ⟨⟨a1, a2⟩, ⟨b1, b2⟩, ⟨c1, c2⟩, ⟨d1, d2⟩, ⟨e1, e2⟩, ⟨f1, f2⟩, ⟨g1, g2⟩⟩ := h
      refine wy_ext rfl rfl ?_ ?_ rfl ?_ rfl <;> (dsimp only [lateW]; (try unfold thr); unfold clp; omega)
    have := rlate_t x h w
    rw [e] at this
    exact this
  · rw [if_neg h]
    exact rlate_f x h w
theorem rfast_any (x : Wy) (w : World) : Calls Try.prog 17 #[.agg x.cs] w (WR (fastOf x) w) := by
  unfold fastOf
  by_cases h : x.Ok
  · rw [if_pos h]
    have e : (⟨x.s, x.v, x.r, x.e, clp (x.c / 2) 1024 65536, clp (x.c / 2) 1024 65536, 0⟩ : Wy) = fastW x := by
      obtain ⟨⟨a1, a2⟩, ⟨b1, b2⟩, ⟨c1, c2⟩, ⟨d1, d2⟩, ⟨e1, e2⟩, ⟨f1, f2⟩, ⟨g1, g2⟩⟩ := h
      refine wy_ext rfl rfl rfl rfl ?_ ?_ rfl <;> (dsimp only [fastW]; unfold thr clp; omega)
    have := rfast_t x h w
    rw [e] at this
    exact this
  · rw [if_neg h]
    exact rfast_f x h w
end Go.Proofs.Ytahpejcejbgcpaa
