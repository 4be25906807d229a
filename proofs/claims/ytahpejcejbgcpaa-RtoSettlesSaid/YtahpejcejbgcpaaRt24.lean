import Derived.Test.YtahpejcejbgcpaaRt21
namespace Go.Proofs.Ytahpejcejbgcpaa
open Go Go.RowKit
set_option linter.unusedVariables false
set_option linter.unusedSimpArgs false
/-- How far the time reckoned with may be off behind k rounds, and its variation. -/
def BS : Nat → Nat
  | 0 => 100255
  | k + 1 => (7 * BS k + 7) / 8
def BV : Nat → Nat
  | 0 => 100000
  | k + 1 => (3 * BV k + BS k) / 4
theorem BS7 : ∀ k, 7 ≤ BS k
  | 0 => by unfold BS; omega
  | k + 1 => by have := BS7 k; unfold BS; omega
theorem BV7 : ∀ k, 7 ≤ BV k
  | 0 => by unfold BV; omega
  | k + 1 => by have := BV7 k; have := BS7 k; unfold BV; omega
theorem BS_end : BS 400 = 7 := by decide +kernel
theorem BV_end : BV 400 = 7 := by decide +kernel
structure Near (n : Int) (k : Nat) (y : Wy) : Prop where
  ok : y.Ok
  s : y.s - n ≤ (BS k : Int) ∧ n - y.s ≤ (BS k : Int)
  v : y.v ≤ (BV k : Int)
  z : 1 ≤ k → y.s = 0 → n ≤ 7
  e : 1 ≤ k → y.e = 0
theorem near_0 {n : Int} {y : Wy} (h : y.Ok) (h0 : 0 ≤ n) (hn : n ≤ 255) (hs : y.s ≤ 100000) (hv : y.v ≤ 100000) : Near n 0 y := by
  have h1 : 0 ≤ y.s ∧ y.s ≤ 1099511627776 := h.1
  have e0 : (BS 0 : Int) = 100255 := by rfl
  have e1 : (BV 0 : Int) = 100000 := by rfl
  exact ⟨h, by rw [e0]; omega, by rw [e1]; exact hv, by omega, by omega⟩
theorem near_next {n : Int} {k : Nat} {y : Wy} (h : Near n k y) (h0 : 0 ≤ n) (hn : n ≤ 255) : Near n (k + 1) (measW y n) := by
  obtain ⟨hok, ⟨hs1, hs2⟩, hv, hz, he⟩ := h
  have h1 : 0 ≤ y.s ∧ y.s ≤ 1099511627776 := hok.1
  have h2 : 0 ≤ y.v ∧ y.v ≤ 1099511627776 := hok.2.1
  have hb := BS7 k
  have hc := BV7 k
  have e0 : (BS (k + 1) : Int) = (7 * BS k + 7) / 8 := by rw [BS]; omega
  have e1 : (BV (k + 1) : Int) = (3 * BV k + BS k) / 4 := by rw [BV]; omega
  have hok2 := ok_meas hok h0 (by omega : n ≤ 1099511627776)
  unfold measW at hok2 ⊢
  split
  · rename_i hzz
    rw [if_pos hzz] at hok2
    refine ⟨hok2, ?_, ?_, ?_, fun _ => rfl⟩
    · rw [e0]; dsimp only; omega
    · rw [e1]; dsimp only
      rcases Nat.eq_zero_or_pos k with hk | hk
      · subst hk
        have g0 : (BS 0 : Int) = 100255 := by rfl
        have g1 : (BV 0 : Int) = 100000 := by rfl
        rw [g0, g1]; omega
      · have := hz hk hzz.1
        omega
    · dsimp only; omega
  · rename_i hzz
    rw [if_neg hzz] at hok2
    have hd : dst y.s n ≤ BS k := by unfold dst; omega
    refine ⟨hok2, ?_, ?_, ?_, fun _ => rfl⟩
    · rw [e0]; dsimp only; omega
    · rw [e1]; dsimp only; omega
    · dsimp only; omega
theorem measOf_ok {x : Wy} {n : Int} (h : x.Ok) (h0 : 0 ≤ n) (hn : n ≤ 255) : measOf x n = (measW x n, 0) := by unfold measOf; rw [if_pos h, if_pos (by omega)]
set_option maxRecDepth 100000 in
set_option maxHeartbeats 4000000 in
theorem settles_a (x : Wy) (n : Nat) (hn : n ≤ 255) (w : World) (hok : ¬ x.Ok) : Calls Try.prog 8 #[.agg x.cs, .int .u8 (n : Int)] w (RetB true w) := by
  have HS := okc_f x hok
  clear hok
  have hb0 := new_at w (.cells x.cs 23)
  have hu : Up w (w.alloc (.cells x.cs 23)) := up_alloc w (.cells x.cs 23)
  change (w.alloc (.cells x.cs 23)).heap[w.heap.size]? = _ at hb0
  have HM0 := Lib.hid hb0
  have HU1 := Lib.hid hu
  clear hu hb0
  go_enter Try.func8, Try.ntmps8
  go_upto_region 1 with (fail)
  generalize (w.alloc (.cells x.cs 23)) = v00 at HM0 HU1 ⊢
  obtain ⟨p, hp⟩ : ∃ p, p = w.heap.size := ⟨_, rfl⟩
  rw [← hp] at HM0 ⊢
  have HP := Lib.hid hp
  clear hp
  have HV00 := HU1
  have HB_p0 := HM0
  clear HU1 HM0
  go_wp2_with fail
  refine (answers_ok _).mono ?_
  rintro e v0 ⟨rfl, HU0⟩
  have HV0 := Lib.hid (HV00.out.trans HU0.out)
  have HB_p := Lib.hid ((HU0.out.block _ (lt_of_blk HB_p0.out)).trans HB_p0.out)
  clear HV00 HB_p0 HU0
  have k0 : v0.cell? ⟨p, 0, none⟩ = some (.int .i64 x.s) := cell_of HB_p.out rfl
  have k1 : v0.cell? ⟨p, 1, none⟩ = some (.int .i64 x.v) := cell_of HB_p.out rfl
  have k2 : v0.cell? ⟨p, 2, none⟩ = some (.int .i64 x.r) := cell_of HB_p.out rfl
  have k3 : v0.cell? ⟨p, 3, none⟩ = some (.int .i64 x.e) := cell_of HB_p.out rfl
  have k4 : v0.cell? ⟨p, 4, none⟩ = some (.int .i64 x.c) := cell_of HB_p.out rfl
  have k5 : v0.cell? ⟨p, 5, none⟩ = some (.int .i64 x.t) := cell_of HB_p.out rfl
  have k6 : v0.cell? ⟨p, 6, none⟩ = some (.int .i64 x.a) := cell_of HB_p.out rfl
  go_wp2_with fail
  refine (HS _).mono ?_
  rintro e u1 ⟨rfl, HU1⟩
  have h_p := (HU1.out.block _ (lt_of_blk HB_p.out)).trans HB_p.out
  clear k0 k1 k2 k3 k4 k5 k6 HS
  have x0 : u1.cell? ⟨p, 0, none⟩ = some (.int .i64 x.s) := cell_of h_p rfl
  have x1 : u1.cell? ⟨p, 1, none⟩ = some (.int .i64 x.v) := cell_of h_p rfl
  clear h_p
  go_wp2_with fail
  refine (answers_ok _).mono ?_
  rintro e u2 ⟨rfl, HU2⟩
  go_wp2_with fail
  go_ret
  exact ⟨rfl, Lib.hid (HV0.out.trans (HU1.out.trans HU2.out))⟩
set_option maxRecDepth 100000 in
set_option maxHeartbeats 4000000 in
theorem settles_b (x : Wy) (n : Nat) (hn : n ≤ 255) (w : World) (hok : x.Ok) (h1 : 100000 < x.s) : Calls Try.prog 8 #[.agg x.cs, .int .u8 (n : Int)] w (RetB true w) := by
  have HS := okc_t x hok
  have t1 : decide (x.s > 100000) = true := decide_eq_true h1
  clear hok h1
  have hb0 := new_at w (.cells x.cs 23)
  have hu : Up w (w.alloc (.cells x.cs 23)) := up_alloc w (.cells x.cs 23)
  change (w.alloc (.cells x.cs 23)).heap[w.heap.size]? = _ at hb0
  have HM0 := Lib.hid hb0
  have HU1 := Lib.hid hu
  clear hu hb0
  go_enter Try.func8, Try.ntmps8
  go_upto_region 1 with (fail)
  generalize (w.alloc (.cells x.cs 23)) = v00 at HM0 HU1 ⊢
  obtain ⟨p, hp⟩ : ∃ p, p = w.heap.size := ⟨_, rfl⟩
  rw [← hp] at HM0 ⊢
  have HP := Lib.hid hp
  clear hp
  have HV00 := HU1
  have HB_p0 := HM0
  clear HU1 HM0
  go_wp2_with fail
  refine (answers_ok _).mono ?_
  rintro e v0 ⟨rfl, HU0⟩
  have HV0 := Lib.hid (HV00.out.trans HU0.out)
  have HB_p := Lib.hid ((HU0.out.block _ (lt_of_blk HB_p0.out)).trans HB_p0.out)
  clear HV00 HB_p0 HU0
  have k0 : v0.cell? ⟨p, 0, none⟩ = some (.int .i64 x.s) := cell_of HB_p.out rfl
  have k1 : v0.cell? ⟨p, 1, none⟩ = some (.int .i64 x.v) := cell_of HB_p.out rfl
  have k2 : v0.cell? ⟨p, 2, none⟩ = some (.int .i64 x.r) := cell_of HB_p.out rfl
  have k3 : v0.cell? ⟨p, 3, none⟩ = some (.int .i64 x.e) := cell_of HB_p.out rfl
  have k4 : v0.cell? ⟨p, 4, none⟩ = some (.int .i64 x.c) := cell_of HB_p.out rfl
  have k5 : v0.cell? ⟨p, 5, none⟩ = some (.int .i64 x.t) := cell_of HB_p.out rfl
  have k6 : v0.cell? ⟨p, 6, none⟩ = some (.int .i64 x.a) := cell_of HB_p.out rfl
  go_wp2_with fail
  refine (HS _).mono ?_
  rintro e u1 ⟨rfl, HU1⟩
  have h_p := (HU1.out.block _ (lt_of_blk HB_p.out)).trans HB_p.out
  clear k0 k1 k2 k3 k4 k5 k6 HS
  have x0 : u1.cell? ⟨p, 0, none⟩ = some (.int .i64 x.s) := cell_of h_p rfl
  have x1 : u1.cell? ⟨p, 1, none⟩ = some (.int .i64 x.v) := cell_of h_p rfl
  clear h_p
  go_wp2_with fail
  refine (answers_ok _).mono ?_
  rintro e u2 ⟨rfl, HU2⟩
  go_wp2_with fail
  go_ret
  exact ⟨rfl, Lib.hid (HV0.out.trans (HU1.out.trans HU2.out))⟩
set_option maxRecDepth 100000 in
set_option maxHeartbeats 4000000 in
theorem settles_c (x : Wy) (n : Nat) (hn : n ≤ 255) (w : World) (hok : x.Ok) (h1 : ¬ 100000 < x.s) (h2 : 100000 < x.v) : Calls Try.prog 8 #[.agg x.cs, .int .u8 (n : Int)] w (RetB true w) := by
  have HS := okc_t x hok
  have t1 : decide (x.s > 100000) = false := decide_eq_false h1
  have t2 : decide (x.v > 100000) = true := decide_eq_true h2
  clear hok h1 h2
  have hb0 := new_at w (.cells x.cs 23)
  have hu : Up w (w.alloc (.cells x.cs 23)) := up_alloc w (.cells x.cs 23)
  change (w.alloc (.cells x.cs 23)).heap[w.heap.size]? = _ at hb0
  have HM0 := Lib.hid hb0
  have HU1 := Lib.hid hu
  clear hu hb0
  go_enter Try.func8, Try.ntmps8
  go_upto_region 1 with (fail)
  generalize (w.alloc (.cells x.cs 23)) = v00 at HM0 HU1 ⊢
  obtain ⟨p, hp⟩ : ∃ p, p = w.heap.size := ⟨_, rfl⟩
  rw [← hp] at HM0 ⊢
  have HP := Lib.hid hp
  clear hp
  have HV00 := HU1
  have HB_p0 := HM0
  clear HU1 HM0
  go_wp2_with fail
  refine (answers_ok _).mono ?_
  rintro e v0 ⟨rfl, HU0⟩
  have HV0 := Lib.hid (HV00.out.trans HU0.out)
  have HB_p := Lib.hid ((HU0.out.block _ (lt_of_blk HB_p0.out)).trans HB_p0.out)
  clear HV00 HB_p0 HU0
  have k0 : v0.cell? ⟨p, 0, none⟩ = some (.int .i64 x.s) := cell_of HB_p.out rfl
  have k1 : v0.cell? ⟨p, 1, none⟩ = some (.int .i64 x.v) := cell_of HB_p.out rfl
  have k2 : v0.cell? ⟨p, 2, none⟩ = some (.int .i64 x.r) := cell_of HB_p.out rfl
  have k3 : v0.cell? ⟨p, 3, none⟩ = some (.int .i64 x.e) := cell_of HB_p.out rfl
  have k4 : v0.cell? ⟨p, 4, none⟩ = some (.int .i64 x.c) := cell_of HB_p.out rfl
  have k5 : v0.cell? ⟨p, 5, none⟩ = some (.int .i64 x.t) := cell_of HB_p.out rfl
  have k6 : v0.cell? ⟨p, 6, none⟩ = some (.int .i64 x.a) := cell_of HB_p.out rfl
  go_wp2_with fail
  refine (HS _).mono ?_
  rintro e u1 ⟨rfl, HU1⟩
  have h_p := (HU1.out.block _ (lt_of_blk HB_p.out)).trans HB_p.out
  clear k0 k1 k2 k3 k4 k5 k6 HS
  have x0 : u1.cell? ⟨p, 0, none⟩ = some (.int .i64 x.s) := cell_of h_p rfl
  have x1 : u1.cell? ⟨p, 1, none⟩ = some (.int .i64 x.v) := cell_of h_p rfl
  clear h_p
  go_wp2_with fail
  refine (answers_ok _).mono ?_
  rintro e u2 ⟨rfl, HU2⟩
  go_wp2_with fail
  go_ret
  exact ⟨rfl, Lib.hid (HV0.out.trans (HU1.out.trans HU2.out))⟩
set_option maxRecDepth 100000 in
set_option maxHeartbeats 4000000 in
theorem settles_d (x : Wy) (n : Nat) (hn : n ≤ 255) (w : World) (hok : x.Ok) (h1 : ¬ 100000 < x.s) (h2 : ¬ 100000 < x.v) : Calls Try.prog 8 #[.agg x.cs, .int .u8 (n : Int)] w (RetB true w) := by
  have HS := okc_t x hok
  have t1 : decide (x.s > 100000) = false := decide_eq_false h1
  have t2 : decide (x.v > 100000) = false := decide_eq_false h2
  have HN0 := Lib.hid (near_0 (n := n) hok (by omega) (by omega) (by omega) (by omega))
  clear hok h1 h2
  have hb0 := new_at w (.cells x.cs 23)
  have hu : Up w (w.alloc (.cells x.cs 23)) := up_alloc w (.cells x.cs 23)
  change (w.alloc (.cells x.cs 23)).heap[w.heap.size]? = _ at hb0
  have HM0 := Lib.hid hb0
  have HU1 := Lib.hid hu
  clear hu hb0
  go_enter Try.func8, Try.ntmps8
  go_upto_region 1 with (fail)
  generalize (w.alloc (.cells x.cs 23)) = v00 at HM0 HU1 ⊢
  obtain ⟨p, hp⟩ : ∃ p, p = w.heap.size := ⟨_, rfl⟩
  rw [← hp] at HM0 ⊢
  have HP := Lib.hid hp
  clear hp
  have HV00 := HU1
  have HB_p0 := HM0
  clear HU1 HM0
  go_wp2_with fail
  refine (answers_ok _).mono ?_
  rintro e v0 ⟨rfl, HU0⟩
  have HV0 := Lib.hid (HV00.out.trans HU0.out)
  have HB_p := Lib.hid ((HU0.out.block _ (lt_of_blk HB_p0.out)).trans HB_p0.out)
  clear HV00 HB_p0 HU0
  have k0 : v0.cell? ⟨p, 0, none⟩ = some (.int .i64 x.s) := cell_of HB_p.out rfl
  have k1 : v0.cell? ⟨p, 1, none⟩ = some (.int .i64 x.v) := cell_of HB_p.out rfl
  have k2 : v0.cell? ⟨p, 2, none⟩ = some (.int .i64 x.r) := cell_of HB_p.out rfl
  have k3 : v0.cell? ⟨p, 3, none⟩ = some (.int .i64 x.e) := cell_of HB_p.out rfl
  have k4 : v0.cell? ⟨p, 4, none⟩ = some (.int .i64 x.c) := cell_of HB_p.out rfl
  have k5 : v0.cell? ⟨p, 5, none⟩ = some (.int .i64 x.t) := cell_of HB_p.out rfl
  have k6 : v0.cell? ⟨p, 6, none⟩ = some (.int .i64 x.a) := cell_of HB_p.out rfl
  have hwp : w.heap.size ≤ p := by rw [HP.out]; exact Nat.le_refl _
  go_wp2_with fail
  refine (HS _).mono ?_
  rintro e u1 ⟨rfl, HU1⟩
  have h_p := (HU1.out.block _ (lt_of_blk HB_p.out)).trans HB_p.out
  have HG := Lib.hid h_p
  have HV := Lib.hid (HV0.out.trans HU1.out)
  clear k0 k1 k2 k3 k4 k5 k6 HS HB_p HV0 HU1
  have x0 : u1.cell? ⟨p, 0, none⟩ = some (.int .i64 x.s) := cell_of h_p rfl
  have x1 : u1.cell? ⟨p, 1, none⟩ = some (.int .i64 x.v) := cell_of h_p rfl
  clear h_p
  go_wp2_with fail
  clear x0 x1
  go_loopw [6] (fun iv wr => ∃ (i : Nat) (y : Wy), iv = .int .i64 (i : Int) ∧ i ≤ 400 ∧ Hid (Near n i y) ∧ Hid (wr.heap[p]? = some (.cells y.cs 23 (0, 0))) ∧ Hid (Up w wr)) (fun iv _ => 400 - (intOf iv).toNat)
  case atStart => exact ⟨0, x, rfl, by omega, HN0, HG, HV⟩
  case round =>
    clear HG HV HN0
    obtain ⟨i, y, rfl, hi, HY, HG, HV⟩ := hrel
    have hg := HG.out
    have k0 : wr.cell? ⟨p, 0, none⟩ = some (.int .i64 y.s) := cell_of hg rfl
    have k1 : wr.cell? ⟨p, 1, none⟩ = some (.int .i64 y.v) := cell_of hg rfl
    have k2 : wr.cell? ⟨p, 2, none⟩ = some (.int .i64 y.r) := cell_of hg rfl
    have k3 : wr.cell? ⟨p, 3, none⟩ = some (.int .i64 y.e) := cell_of hg rfl
    have k4 : wr.cell? ⟨p, 4, none⟩ = some (.int .i64 y.c) := cell_of hg rfl
    have k5 : wr.cell? ⟨p, 5, none⟩ = some (.int .i64 y.t) := cell_of hg rfl
    have k6 : wr.cell? ⟨p, 6, none⟩ = some (.int .i64 y.a) := cell_of hg rfl
    clear hg
    by_cases hlt : i < 400
    · have d1 : decide ((i : Int) < 400) = true := by simp; omega
      obtain ⟨y2, hy2⟩ : ∃ y2, y2 = measW y n := ⟨_, rfl⟩
      have HC : ∀ wx, Calls Try.prog 9 #[.agg y.cs, .int .i64 (n : Int)] wx (WRes y2 0 wx) := fun wx => by have := measure_any y n wx; rw [measOf_ok HY.out.ok (by omega) (by omega)] at this; rw [hy2]; exact this
      have HY2 : Hid (Near n (i + 1) y2) := Lib.hid (by rw [hy2]; exact near_next HY.out (by omega) (by omega))
      clear hy2
      go_wp2_with fail
      refine (HC _).mono ?_
      rintro e u2 ⟨rfl, HU2⟩
      have hg := (HU2.out.block _ (lt_of_blk HG.out)).trans HG.out
      have HV2 := Lib.hid (HV.out.trans HU2.out)
      have HG2 := Lib.hid hg
      clear k0 k1 k2 k3 k4 k5 k6
      have k0 : u2.cell? ⟨p, 0, none⟩ = some (.int .i64 y.s) := cell_of hg rfl
      have k1 : u2.cell? ⟨p, 1, none⟩ = some (.int .i64 y.v) := cell_of hg rfl
      have k2 : u2.cell? ⟨p, 2, none⟩ = some (.int .i64 y.r) := cell_of hg rfl
      have k3 : u2.cell? ⟨p, 3, none⟩ = some (.int .i64 y.e) := cell_of hg rfl
      have k4 : u2.cell? ⟨p, 4, none⟩ = some (.int .i64 y.c) := cell_of hg rfl
      have k5 : u2.cell? ⟨p, 5, none⟩ = some (.int .i64 y.t) := cell_of hg rfl
      have k6 : u2.cell? ⟨p, 6, none⟩ = some (.int .i64 y.a) := cell_of hg rfl
      have fz : ∀ j, u2.frozen? ⟨p, j, none⟩ = false := fun j => frozen_at hg
      clear hg HC HY HV HG HU2
      go_upto_region 6 with (fail)
      have HT : Hid (Tr p y2.cs u2 (((((((u2.setCell ⟨p, 0, none⟩ (.int .i64 y2.s)).setCell ⟨p, 1, none⟩ (.int .i64 y2.v)).setCell ⟨p, 2, none⟩ (.int .i64 y2.r)).setCell ⟨p, 3, none⟩ (.int .i64 y2.e)).setCell ⟨p, 4, none⟩ (.int .i64 y2.c)).setCell ⟨p, 5, none⟩ (.int .i64 y2.t)).setCell ⟨p, 6, none⟩ (.int .i64 y2.a))) := Lib.hid ((((((((Tr.refl HG2.out).set 0 (.int .i64 y2.s)).set 1 (.int .i64 y2.v)).set 2 (.int .i64 y2.r)).set 3 (.int .i64 y2.e)).set 4 (.int .i64 y2.c)).set 5 (.int .i64 y2.t)).set 6 (.int .i64 y2.a))
      clear fz k0 k1 k2 k3 k4 k5 k6 HG2
      generalize (((((((u2.setCell ⟨p, 0, none⟩ (.int .i64 y2.s)).setCell ⟨p, 1, none⟩ (.int .i64 y2.v)).setCell ⟨p, 2, none⟩ (.int .i64 y2.r)).setCell ⟨p, 3, none⟩ (.int .i64 y2.e)).setCell ⟨p, 4, none⟩ (.int .i64 y2.c)).setCell ⟨p, 5, none⟩ (.int .i64 y2.t)).setCell ⟨p, 6, none⟩ (.int .i64 y2.a)) = v1 at HT ⊢
      have HV3 : Hid (Up w v1) := Lib.hid (Below.out HV2.out HT.out.2 (fun k hk => by rw [hk]; exact hwp) HV2.out.size)
      have HG3 := Lib.hid HT.out.1
      clear HT HV2
      go_wp2_with fail
      go_roundw
      case rel => exact ⟨i + 1, y2, by go_num, by omega, HY2, HG3, HV3⟩
      case measure => simp [intOf]; omega
    · obtain rfl : i = 400 := by omega
      have d1 : decide (((400 : Nat) : Int) < 400) = false := by simp
      have hok2 := HY.out.ok
      have hs0 : 0 ≤ y.s ∧ y.s ≤ 1099511627776 := hok2.1
      have hv0 : y.v ≤ 24 := by have h1 := HY.out.v; rw [BV_end] at h1; omega
      have hs1 : y.s - n ≤ 7 ∧ n - y.s ≤ 7 := by have h1 := HY.out.s; rw [BS_end] at h1; omega
      have t1 : decide (y.v ≤ 24) = true := decide_eq_true hv0
      have t2 : (y.e == 0) = true := by simp [HY.out.e (by omega)]
      obtain ⟨s1, s2⟩ := hs0
      clear hok2 hlt hv0
      by_cases hneg : y.s - (n : Int) < 0
      · have t3 : decide (y.s - (n : Int) < 0) = true := decide_eq_true hneg
        have t4 : decide (-(y.s - (n : Int)) ≤ 8) = true := decide_eq_true (by omega)
        clear hneg hs1
        go_wp2_with fail
        go_ret
        exact ⟨rfl, HV⟩
      · have t3 : decide (y.s - (n : Int) < 0) = false := decide_eq_false hneg
        have t4 : decide (y.s - (n : Int) ≤ 8) = true := decide_eq_true (by omega)
        clear hneg hs1
        go_wp2_with fail
        go_ret
        exact ⟨rfl, HV⟩
theorem law_settles (x : Wy) (n : Nat) (hn : n ≤ 255) (w : World) : Calls Try.prog 8 #[.agg x.cs, .int .u8 (n : Int)] w (RetB true w) := by
  by_cases h : x.Ok
  · by_cases h1 : 100000 < x.s
    · exact settles_b x n hn w h h1
    · by_cases h2 : 100000 < x.v
      · exact settles_c x n hn w h h1 h2
      · exact settles_d x n hn w h h1 h2
  · exact settles_a x n hn w h
end Go.Proofs.Ytahpejcejbgcpaa
