import Derived.Test.YtdhkbpnhbbedmaaWt1
namespace Go.Proofs.Ytdhkbpnhbbedmaa
open Go Go.RowKit
set_option linter.unusedVariables false
set_option linter.unusedSimpArgs false
set_option maxRecDepth 100000 in
set_option maxHeartbeats 1000000 in
theorem gon_1 (x : Wt) (b : Nat) (w : World) (h : w.heap[b]? = some (.cells x.cs 23 (0, 0))) : Calls Try.prog 16 #[.pointer (some ⟨b, 0, none⟩), .int .i64 1] w (Dn b ⟨4, true, 0⟩ ⟨true, false, false, false, false, true⟩ w) := by
  have hb := lt_of_blk h
  have T0 := Lib.hid (Tw.start h)
  clear h
  go_enter Try.func16, Try.ntmps16
  go_upto_region 1 with (fail)
  generalize w.alloc (.cells #[.bool false, .bool false, .bool false, .bool false, .bool false, .bool false] 25) = w1 at T0 ⊢
  generalize w.heap.size = q at T0 hb ⊢
  have hne : ¬ b = q := by omega
  have hne2 : ¬ q = b := by omega
  have k0 : w1.cell? ⟨b, 0, none⟩ = some (.int .i64 x.s) := cell_of T0.out.hb rfl
  have k1 : w1.cell? ⟨b, 1, none⟩ = some (.bool x.p) := cell_of T0.out.hb rfl
  have k2 : w1.cell? ⟨b, 2, none⟩ = some (.int .i64 x.n) := cell_of T0.out.hb rfl
  have fz : ∀ j, w1.frozen? ⟨b, j, none⟩ = false := fun j => frozen_at T0.out.hb
  have fq : ∀ j, w1.frozen? ⟨q, j, none⟩ = false := fun j => frozen_at T0.out.hq
  have q0 : w1.cell? ⟨q, 0, none⟩ = some (.bool false) := cell_of T0.out.hq rfl
  have q1 : w1.cell? ⟨q, 1, none⟩ = some (.bool false) := cell_of T0.out.hq rfl
  have q2 : w1.cell? ⟨q, 2, none⟩ = some (.bool false) := cell_of T0.out.hq rfl
  have q3 : w1.cell? ⟨q, 3, none⟩ = some (.bool false) := cell_of T0.out.hq rfl
  have q4 : w1.cell? ⟨q, 4, none⟩ = some (.bool false) := cell_of T0.out.hq rfl
  have q5 : w1.cell? ⟨q, 5, none⟩ = some (.bool false) := cell_of T0.out.hq rfl
  go_wp2_with fail
  have HS := (T0.out.setb 0 (.int .i64 4)).setb 2 (.int .i64 0)
  refine (ask_any ⟨4, x.p, 0⟩ b _ HS.hb).mono ?_
  rintro e w2 ⟨rfl, HT⟩
  have T2 := Lib.hid (HS.call HT)
  clear k0 k1 k2 fz fq q0 q1 q2 q3 q4 q5
  clear HT HS
  have k0 : w2.cell? ⟨b, 0, none⟩ = some (.int .i64 4) := cell_of T2.out.hb rfl
  have k1 : w2.cell? ⟨b, 1, none⟩ = some (.bool true) := cell_of T2.out.hb rfl
  have k2 : w2.cell? ⟨b, 2, none⟩ = some (.int .i64 0) := cell_of T2.out.hb rfl
  have fz : ∀ j, w2.frozen? ⟨b, j, none⟩ = false := fun j => frozen_at T2.out.hb
  have fq : ∀ j, w2.frozen? ⟨q, j, none⟩ = false := fun j => frozen_at T2.out.hq
  have q0 : w2.cell? ⟨q, 0, none⟩ = some (.bool false) := cell_of T2.out.hq rfl
  have q1 : w2.cell? ⟨q, 1, none⟩ = some (.bool false) := cell_of T2.out.hq rfl
  have q2 : w2.cell? ⟨q, 2, none⟩ = some (.bool false) := cell_of T2.out.hq rfl
  have q3 : w2.cell? ⟨q, 3, none⟩ = some (.bool false) := cell_of T2.out.hq rfl
  have q4 : w2.cell? ⟨q, 4, none⟩ = some (.bool false) := cell_of T2.out.hq rfl
  have q5 : w2.cell? ⟨q, 5, none⟩ = some (.bool false) := cell_of T2.out.hq rfl
  go_wp2_with fail
  have HT := ((((((T2.out.setq 0 (.bool true)).setq 1 (.bool false)).setq 2 (.bool false)).setq 3 (.bool false)).setq 4 (.bool false)).setq 5 (.bool true))
  exact bodyPost_ret (results_cell_row (fn := Try.f16) (p := 4) (ty := 25) rfl _ _ q 25 (⟨true, false, false, false, false, true⟩ : Du).cs (0, 0) _ rfl HT.hq Try.underlying25 rfl rfl) rfl ⟨rfl, HT.hb, HT.out⟩
/-- Which of the five events. -/
def Ev (ev : Int) : Prop := ev = 1 ∨ ev = 2 ∨ ev = 3 ∨ ev = 4 ∨ ev = 5
def iniM (x : Wt) (ev : Int) : Wt × Du := if ev = 1 then (⟨1, false, x.n⟩, ⟨false, false, false, false, false, true⟩) else if ev = 5 then (x, ⟨false, false, false, false, true, true⟩) else (x, ⟨false, false, false, false, false, false⟩)
def okaM (x : Wt) (ev : Int) : Wt × Du := if ev = 3 then (⟨x.s, false, x.n⟩, ⟨false, false, false, false, false, true⟩) else if ev = 4 then (x, ⟨false, false, false, false, false, true⟩) else if ev = 2 then (⟨3, false, x.n⟩, ⟨false, true, false, false, false, true⟩) else if ev = 5 then (if x.p = true then (⟨2, x.p, x.n⟩, ⟨false, true, false, false, false, true⟩) else (⟨x.s, true, x.n⟩, ⟨true, false, false, false, false, true⟩)) else (x, ⟨false, false, false, false, false, false⟩)
def susM (x : Wt) (ev : Int) : Wt × Du := if ev = 3 then (⟨1, false, x.n⟩, ⟨false, false, true, false, false, true⟩) else if ev = 4 then (⟨1, x.p, x.n⟩, ⟨false, false, true, false, false, true⟩) else if ev = 5 then (⟨3, false, x.n⟩, ⟨false, false, false, true, false, true⟩) else if ev = 2 then (⟨3, false, x.n⟩, ⟨false, false, false, false, false, true⟩) else (x, ⟨false, false, false, false, false, false⟩)
def gonM (x : Wt) (ev : Int) : Wt × Du := if ev = 1 then (⟨4, true, 0⟩, ⟨true, false, false, false, false, true⟩) else if ev = 5 then (x, ⟨false, false, false, false, true, true⟩) else (x, ⟨false, false, false, false, false, false⟩)
def reoM (x : Wt) (ev : Int) : Wt × Du := if ev = 3 then (if x.n < 2 then (⟨x.s, false, x.n + 1⟩, ⟨false, false, false, false, false, false⟩) else (⟨1, false, 0⟩, ⟨false, false, true, false, false, true⟩)) else if ev = 5 then (if x.p = true then (if x.n = -1 then (⟨3, false, 0⟩, ⟨false, false, false, true, false, true⟩) else (⟨x.s, x.p, -1⟩, ⟨false, false, false, false, false, true⟩)) else (⟨x.s, true, x.n⟩, ⟨true, false, false, false, false, true⟩)) else if ev = 2 then (⟨3, false, 0⟩, ⟨false, false, false, false, false, true⟩) else (x, ⟨false, false, false, false, false, false⟩)
def stepM (x : Wt) (ev : Int) : Wt × Du := if x.s = 0 then iniM x ev else if x.s = 1 then okaM x ev else if x.s = 2 then susM x ev else if x.s = 3 then gonM x ev else reoM x ev
/-- It may be. -/
def Wt.Ok (x : Wt) : Prop := (0 ≤ x.s ∧ x.s ≤ 4) ∧ (-1 ≤ x.n ∧ x.n ≤ 3)
theorem ini_any (x : Wt) (ev : Int) (hev : Ev ev) (hx : -1 ≤ x.n ∧ x.n ≤ 3) (b : Nat) (w : World) (h : w.heap[b]? = some (.cells x.cs 23 (0, 0))) : Calls Try.prog 13 #[.pointer (some ⟨b, 0, none⟩), .int .i64 ev] w (Dn b (iniM x ev).1 (iniM x ev).2 w) := by
  rcases hev with rfl | rfl | rfl | rfl | rfl
  · exact ini_1 x b w h
  · exact ini_2 x b w h
  · exact ini_3 x b w h
  · exact ini_4 x b w h
  · exact ini_5 x b w h
theorem oka_any (x : Wt) (ev : Int) (hev : Ev ev) (hx : -1 ≤ x.n ∧ x.n ≤ 3) (b : Nat) (w : World) (h : w.heap[b]? = some (.cells x.cs 23 (0, 0))) : Calls Try.prog 14 #[.pointer (some ⟨b, 0, none⟩), .int .i64 ev] w (Dn b (okaM x ev).1 (okaM x ev).2 w) := by
  rcases hev with rfl | rfl | rfl | rfl | rfl
  · exact oka_1 x b w h
  · exact oka_2 x b w h
  · exact oka_3 x b w h
  · exact oka_4 x b w h
  · by_cases hp : x.p = true
    · rw [show okaM x 5 = (⟨2, x.p, x.n⟩, ⟨false, true, false, false, false, true⟩) by simp [okaM, hp]]; exact oka_5t x b w h hp
    · rw [show okaM x 5 = (⟨x.s, true, x.n⟩, ⟨true, false, false, false, false, true⟩) by simp [okaM, hp]]; exact oka_5f x b w h (by simpa using hp)
theorem sus_any (x : Wt) (ev : Int) (hev : Ev ev) (hx : -1 ≤ x.n ∧ x.n ≤ 3) (b : Nat) (w : World) (h : w.heap[b]? = some (.cells x.cs 23 (0, 0))) : Calls Try.prog 15 #[.pointer (some ⟨b, 0, none⟩), .int .i64 ev] w (Dn b (susM x ev).1 (susM x ev).2 w) := by
  rcases hev with rfl | rfl | rfl | rfl | rfl
  · exact sus_1 x b w h
  · exact sus_2 x b w h
  · exact sus_3 x b w h
  · exact sus_4 x b w h
  · exact sus_5 x b w h
theorem gon_any (x : Wt) (ev : Int) (hev : Ev ev) (hx : -1 ≤ x.n ∧ x.n ≤ 3) (b : Nat) (w : World) (h : w.heap[b]? = some (.cells x.cs 23 (0, 0))) : Calls Try.prog 16 #[.pointer (some ⟨b, 0, none⟩), .int .i64 ev] w (Dn b (gonM x ev).1 (gonM x ev).2 w) := by
  rcases hev with rfl | rfl | rfl | rfl | rfl
  · exact gon_1 x b w h
  · exact gon_2 x b w h
  · exact gon_3 x b w h
  · exact gon_4 x b w h
  · exact gon_5 x b w h
theorem reo_any (x : Wt) (ev : Int) (hev : Ev ev) (hx : -1 ≤ x.n ∧ x.n ≤ 3) (b : Nat) (w : World) (h : w.heap[b]? = some (.cells x.cs 23 (0, 0))) : Calls Try.prog 17 #[.pointer (some ⟨b, 0, none⟩), .int .i64 ev] w (Dn b (reoM x ev).1 (reoM x ev).2 w) := by
  rcases hev with rfl | rfl | rfl | rfl | rfl
  · exact reo_1 x b w h
  · exact reo_2 x b w h
  · by_cases hn : x.n < 2
    · rw [show reoM x 3 = (⟨x.s, false, x.n + 1⟩, ⟨false, false, false, false, false, false⟩) by simp [reoM, hn]]; exact reo_3lo x b w h hx.1 hx.2 (decide_eq_true hn)
    · rw [show reoM x 3 = (⟨1, false, 0⟩, ⟨false, false, true, false, false, true⟩) by simp [reoM, hn]]; exact reo_3hi x b w h hx.1 hx.2 (decide_eq_false hn)
  · exact reo_4 x b w h
  · by_cases hp : x.p = true
    · by_cases hn : x.n = -1
      · rw [show reoM x 5 = (⟨3, false, 0⟩, ⟨false, false, false, true, false, true⟩) by simp [reoM, hp, hn]]; exact reo_5m x b w h hp (by simp [hn])
      · rw [show reoM x 5 = (⟨x.s, x.p, -1⟩, ⟨false, false, false, false, false, true⟩) by simp [reoM, hp, hn]]; exact reo_5t x b w h hp (by simp [hn])
    · rw [show reoM x 5 = (⟨x.s, true, x.n⟩, ⟨true, false, false, false, false, true⟩) by simp [reoM, hp]]; exact reo_5f x b w h (by simpa using hp)
set_option maxRecDepth 100000 in
set_option maxHeartbeats 1000000 in
theorem step_0 (x y : Wt) (d : Du) (ev : Int) (hr : iniM x ev = (y, d)) (hev : Ev ev) (hx : -1 ≤ x.n ∧ x.n ≤ 3) (hs : x.s = 0) (b : Nat) (w : World) (h : w.heap[b]? = some (.cells x.cs 23 (0, 0))) : Calls Try.prog 12 #[.pointer (some ⟨b, 0, none⟩), .int .i64 ev] w (Dn b y d w) := by
  obtain ⟨s, p, n⟩ := x
  obtain rfl : s = 0 := hs
  have HC : Hid (∀ (wx : World) (hx1 : wx.heap[b]? = some (.cells (⟨0, p, n⟩ : Wt).cs 23 (0, 0))), Calls Try.prog 13 #[.pointer (some ⟨b, 0, none⟩), .int .i64 ev] wx (Dn b y d wx)) := Lib.hid fun wx hx1 => by
    have := ini_any ⟨0, p, n⟩ ev hev hx b wx hx1
    rw [hr] at this
    exact this
  clear hr
  have hb := lt_of_blk h
  have T0 := Lib.hid (Tw.start h)
  clear h
  go_enter Try.func12, Try.ntmps12
  go_upto_region 1 with (fail)
  generalize w.alloc (.cells #[.bool false, .bool false, .bool false, .bool false, .bool false, .bool false] 25) = w1 at T0 ⊢
  generalize w.heap.size = q at T0 hb ⊢
  have hne : ¬ b = q := by omega
  have hne2 : ¬ q = b := by omega
  have k0 : w1.cell? ⟨b, 0, none⟩ = some (.int .i64 0) := cell_of T0.out.hb rfl
  have k1 : w1.cell? ⟨b, 1, none⟩ = some (.bool p) := cell_of T0.out.hb rfl
  have k2 : w1.cell? ⟨b, 2, none⟩ = some (.int .i64 n) := cell_of T0.out.hb rfl
  have fz : ∀ j, w1.frozen? ⟨b, j, none⟩ = false := fun j => frozen_at T0.out.hb
  have fq : ∀ j, w1.frozen? ⟨q, j, none⟩ = false := fun j => frozen_at T0.out.hq
  have q0 : w1.cell? ⟨q, 0, none⟩ = some (.bool false) := cell_of T0.out.hq rfl
  have q1 : w1.cell? ⟨q, 1, none⟩ = some (.bool false) := cell_of T0.out.hq rfl
  have q2 : w1.cell? ⟨q, 2, none⟩ = some (.bool false) := cell_of T0.out.hq rfl
  have q3 : w1.cell? ⟨q, 3, none⟩ = some (.bool false) := cell_of T0.out.hq rfl
  have q4 : w1.cell? ⟨q, 4, none⟩ = some (.bool false) := cell_of T0.out.hq rfl
  have q5 : w1.cell? ⟨q, 5, none⟩ = some (.bool false) := cell_of T0.out.hq rfl
  go_wp2_with fail
  refine (HC.out _ T0.out.hb).mono ?_
  rintro e w2 ⟨rfl, HT⟩
  have T2 := Lib.hid (T0.out.call HT)
  clear k0 k1 k2 fz fq q0 q1 q2 q3 q4 q5
  clear HT
  have k0 : w2.cell? ⟨b, 0, none⟩ = some (.int .i64 y.s) := cell_of T2.out.hb rfl
  have k1 : w2.cell? ⟨b, 1, none⟩ = some (.bool y.p) := cell_of T2.out.hb rfl
  have k2 : w2.cell? ⟨b, 2, none⟩ = some (.int .i64 y.n) := cell_of T2.out.hb rfl
  have fz : ∀ j, w2.frozen? ⟨b, j, none⟩ = false := fun j => frozen_at T2.out.hb
  have fq : ∀ j, w2.frozen? ⟨q, j, none⟩ = false := fun j => frozen_at T2.out.hq
  have q0 : w2.cell? ⟨q, 0, none⟩ = some (.bool false) := cell_of T2.out.hq rfl
  have q1 : w2.cell? ⟨q, 1, none⟩ = some (.bool false) := cell_of T2.out.hq rfl
  have q2 : w2.cell? ⟨q, 2, none⟩ = some (.bool false) := cell_of T2.out.hq rfl
  have q3 : w2.cell? ⟨q, 3, none⟩ = some (.bool false) := cell_of T2.out.hq rfl
  have q4 : w2.cell? ⟨q, 4, none⟩ = some (.bool false) := cell_of T2.out.hq rfl
  have q5 : w2.cell? ⟨q, 5, none⟩ = some (.bool false) := cell_of T2.out.hq rfl
  go_wp2_with fail
  have HT := ((((((T2.out.setq 0 (.bool d.a)).setq 1 (.bool d.f)).setq 2 (.bool d.b)).setq 3 (.bool d.c)).setq 4 (.bool d.t)).setq 5 (.bool d.w))
  exact bodyPost_ret (results_cell_row (fn := Try.f12) (p := 4) (ty := 25) rfl _ _ q 25 d.cs (0, 0) _ rfl HT.hq Try.underlying25 rfl rfl) rfl ⟨rfl, HT.hb, HT.out⟩
set_option maxRecDepth 100000 in
set_option maxHeartbeats 1000000 in
theorem step_1 (x y : Wt) (d : Du) (ev : Int) (hr : okaM x ev = (y, d)) (hev : Ev ev) (hx : -1 ≤ x.n ∧ x.n ≤ 3) (hs : x.s = 1) (b : Nat) (w : World) (h : w.heap[b]? = some (.cells x.cs 23 (0, 0))) : Calls Try.prog 12 #[.pointer (some ⟨b, 0, none⟩), .int .i64 ev] w (Dn b y d w) := by
  obtain ⟨s, p, n⟩ := x
  obtain rfl : s = 1 := hs
  have HC : Hid (∀ (wx : World) (hx1 : wx.heap[b]? = some (.cells (⟨1, p, n⟩ : Wt).cs 23 (0, 0))), Calls Try.prog 14 #[.pointer (some ⟨b, 0, none⟩), .int .i64 ev] wx (Dn b y d wx)) := Lib.hid fun wx hx1 => by
    have := oka_any ⟨1, p, n⟩ ev hev hx b wx hx1
    rw [hr] at this
    exact this
  clear hr
  have hb := lt_of_blk h
  have T0 := Lib.hid (Tw.start h)
  clear h
  go_enter Try.func12, Try.ntmps12
  go_upto_region 1 with (fail)
  generalize w.alloc (.cells #[.bool false, .bool false, .bool false, .bool false, .bool false, .bool false] 25) = w1 at T0 ⊢
  generalize w.heap.size = q at T0 hb ⊢
  have hne : ¬ b = q := by omega
  have hne2 : ¬ q = b := by omega
  have k0 : w1.cell? ⟨b, 0, none⟩ = some (.int .i64 1) := cell_of T0.out.hb rfl
  have k1 : w1.cell? ⟨b, 1, none⟩ = some (.bool p) := cell_of T0.out.hb rfl
  have k2 : w1.cell? ⟨b, 2, none⟩ = some (.int .i64 n) := cell_of T0.out.hb rfl
  have fz : ∀ j, w1.frozen? ⟨b, j, none⟩ = false := fun j => frozen_at T0.out.hb
  have fq : ∀ j, w1.frozen? ⟨q, j, none⟩ = false := fun j => frozen_at T0.out.hq
  have q0 : w1.cell? ⟨q, 0, none⟩ = some (.bool false) := cell_of T0.out.hq rfl
  have q1 : w1.cell? ⟨q, 1, none⟩ = some (.bool false) := cell_of T0.out.hq rfl
  have q2 : w1.cell? ⟨q, 2, none⟩ = some (.bool false) := cell_of T0.out.hq rfl
  have q3 : w1.cell? ⟨q, 3, none⟩ = some (.bool false) := cell_of T0.out.hq rfl
  have q4 : w1.cell? ⟨q, 4, none⟩ = some (.bool false) := cell_of T0.out.hq rfl
  have q5 : w1.cell? ⟨q, 5, none⟩ = some (.bool false) := cell_of T0.out.hq rfl
  go_wp2_with fail
  refine (HC.out _ T0.out.hb).mono ?_
  rintro e w2 ⟨rfl, HT⟩
  have T2 := Lib.hid (T0.out.call HT)
  clear k0 k1 k2 fz fq q0 q1 q2 q3 q4 q5
  clear HT
  have k0 : w2.cell? ⟨b, 0, none⟩ = some (.int .i64 y.s) := cell_of T2.out.hb rfl
  have k1 : w2.cell? ⟨b, 1, none⟩ = some (.bool y.p) := cell_of T2.out.hb rfl
  have k2 : w2.cell? ⟨b, 2, none⟩ = some (.int .i64 y.n) := cell_of T2.out.hb rfl
  have fz : ∀ j, w2.frozen? ⟨b, j, none⟩ = false := fun j => frozen_at T2.out.hb
  have fq : ∀ j, w2.frozen? ⟨q, j, none⟩ = false := fun j => frozen_at T2.out.hq
  have q0 : w2.cell? ⟨q, 0, none⟩ = some (.bool false) := cell_of T2.out.hq rfl
  have q1 : w2.cell? ⟨q, 1, none⟩ = some (.bool false) := cell_of T2.out.hq rfl
  have q2 : w2.cell? ⟨q, 2, none⟩ = some (.bool false) := cell_of T2.out.hq rfl
  have q3 : w2.cell? ⟨q, 3, none⟩ = some (.bool false) := cell_of T2.out.hq rfl
  have q4 : w2.cell? ⟨q, 4, none⟩ = some (.bool false) := cell_of T2.out.hq rfl
  have q5 : w2.cell? ⟨q, 5, none⟩ = some (.bool false) := cell_of T2.out.hq rfl
  go_wp2_with fail
  have HT := ((((((T2.out.setq 0 (.bool d.a)).setq 1 (.bool d.f)).setq 2 (.bool d.b)).setq 3 (.bool d.c)).setq 4 (.bool d.t)).setq 5 (.bool d.w))
  exact bodyPost_ret (results_cell_row (fn := Try.f12) (p := 4) (ty := 25) rfl _ _ q 25 d.cs (0, 0) _ rfl HT.hq Try.underlying25 rfl rfl) rfl ⟨rfl, HT.hb, HT.out⟩
set_option maxRecDepth 100000 in
set_option maxHeartbeats 1000000 in
theorem step_2 (x y : Wt) (d : Du) (ev : Int) (hr : susM x ev = (y, d)) (hev : Ev ev) (hx : -1 ≤ x.n ∧ x.n ≤ 3) (hs : x.s = 2) (b : Nat) (w : World) (h : w.heap[b]? = some (.cells x.cs 23 (0, 0))) : Calls Try.prog 12 #[.pointer (some ⟨b, 0, none⟩), .int .i64 ev] w (Dn b y d w) := by
  obtain ⟨s, p, n⟩ := x
  obtain rfl : s = 2 := hs
  have HC : Hid (∀ (wx : World) (hx1 : wx.heap[b]? = some (.cells (⟨2, p, n⟩ : Wt).cs 23 (0, 0))), Calls Try.prog 15 #[.pointer (some ⟨b, 0, none⟩), .int .i64 ev] wx (Dn b y d wx)) := Lib.hid fun wx hx1 => by
    have := sus_any ⟨2, p, n⟩ ev hev hx b wx hx1
    rw [hr] at this
    exact this
  clear hr
  have hb := lt_of_blk h
  have T0 := Lib.hid (Tw.start h)
  clear h
  go_enter Try.func12, Try.ntmps12
  go_upto_region 1 with (fail)
  generalize w.alloc (.cells #[.bool false, .bool false, .bool false, .bool false, .bool false, .bool false] 25) = w1 at T0 ⊢
  generalize w.heap.size = q at T0 hb ⊢
  have hne : ¬ b = q := by omega
  have hne2 : ¬ q = b := by omega
  have k0 : w1.cell? ⟨b, 0, none⟩ = some (.int .i64 2) := cell_of T0.out.hb rfl
  have k1 : w1.cell? ⟨b, 1, none⟩ = some (.bool p) := cell_of T0.out.hb rfl
  have k2 : w1.cell? ⟨b, 2, none⟩ = some (.int .i64 n) := cell_of T0.out.hb rfl
  have fz : ∀ j, w1.frozen? ⟨b, j, none⟩ = false := fun j => frozen_at T0.out.hb
  have fq : ∀ j, w1.frozen? ⟨q, j, none⟩ = false := fun j => frozen_at T0.out.hq
  have q0 : w1.cell? ⟨q, 0, none⟩ = some (.bool false) := cell_of T0.out.hq rfl
  have q1 : w1.cell? ⟨q, 1, none⟩ = some (.bool false) := cell_of T0.out.hq rfl
  have q2 : w1.cell? ⟨q, 2, none⟩ = some (.bool false) := cell_of T0.out.hq rfl
  have q3 : w1.cell? ⟨q, 3, none⟩ = some (.bool false) := cell_of T0.out.hq rfl
  have q4 : w1.cell? ⟨q, 4, none⟩ = some (.bool false) := cell_of T0.out.hq rfl
  have q5 : w1.cell? ⟨q, 5, none⟩ = some (.bool false) := cell_of T0.out.hq rfl
  go_wp2_with fail
  refine (HC.out _ T0.out.hb).mono ?_
  rintro e w2 ⟨rfl, HT⟩
  have T2 := Lib.hid (T0.out.call HT)
  clear k0 k1 k2 fz fq q0 q1 q2 q3 q4 q5
  clear HT
  have k0 : w2.cell? ⟨b, 0, none⟩ = some (.int .i64 y.s) := cell_of T2.out.hb rfl
  have k1 : w2.cell? ⟨b, 1, none⟩ = some (.bool y.p) := cell_of T2.out.hb rfl
  have k2 : w2.cell? ⟨b, 2, none⟩ = some (.int .i64 y.n) := cell_of T2.out.hb rfl
  have fz : ∀ j, w2.frozen? ⟨b, j, none⟩ = false := fun j => frozen_at T2.out.hb
  have fq : ∀ j, w2.frozen? ⟨q, j, none⟩ = false := fun j => frozen_at T2.out.hq
  have q0 : w2.cell? ⟨q, 0, none⟩ = some (.bool false) := cell_of T2.out.hq rfl
  have q1 : w2.cell? ⟨q, 1, none⟩ = some (.bool false) := cell_of T2.out.hq rfl
  have q2 : w2.cell? ⟨q, 2, none⟩ = some (.bool false) := cell_of T2.out.hq rfl
  have q3 : w2.cell? ⟨q, 3, none⟩ = some (.bool false) := cell_of T2.out.hq rfl
  have q4 : w2.cell? ⟨q, 4, none⟩ = some (.bool false) := cell_of T2.out.hq rfl
  have q5 : w2.cell? ⟨q, 5, none⟩ = some (.bool false) := cell_of T2.out.hq rfl
  go_wp2_with fail
  have HT := ((((((T2.out.setq 0 (.bool d.a)).setq 1 (.bool d.f)).setq 2 (.bool d.b)).setq 3 (.bool d.c)).setq 4 (.bool d.t)).setq 5 (.bool d.w))
  exact bodyPost_ret (results_cell_row (fn := Try.f12) (p := 4) (ty := 25) rfl _ _ q 25 d.cs (0, 0) _ rfl HT.hq Try.underlying25 rfl rfl) rfl ⟨rfl, HT.hb, HT.out⟩
set_option maxRecDepth 100000 in
set_option maxHeartbeats 1000000 in
theorem step_3 (x y : Wt) (d : Du) (ev : Int) (hr : gonM x ev = (y, d)) (hev : Ev ev) (hx : -1 ≤ x.n ∧ x.n ≤ 3) (hs : x.s = 3) (b : Nat) (w : World) (h : w.heap[b]? = some (.cells x.cs 23 (0, 0))) : Calls Try.prog 12 #[.pointer (some ⟨b, 0, none⟩), .int .i64 ev] w (Dn b y d w) := by
  obtain ⟨s, p, n⟩ := x
  obtain rfl : s = 3 := hs
  have HC : Hid (∀ (wx : World) (hx1 : wx.heap[b]? = some (.cells (⟨3, p, n⟩ : Wt).cs 23 (0, 0))), Calls Try.prog 16 #[.pointer (some ⟨b, 0, none⟩), .int .i64 ev] wx (Dn b y d wx)) := Lib.hid fun wx hx1 => by
    have := gon_any ⟨3, p, n⟩ ev hev hx b wx hx1
    rw [hr] at this
    exact this
  clear hr
  have hb := lt_of_blk h
  have T0 := Lib.hid (Tw.start h)
  clear h
  go_enter Try.func12, Try.ntmps12
  go_upto_region 1 with (fail)
  generalize w.alloc (.cells #[.bool false, .bool false, .bool false, .bool false, .bool false, .bool false] 25) = w1 at T0 ⊢
  generalize w.heap.size = q at T0 hb ⊢
  have hne : ¬ b = q := by omega
  have hne2 : ¬ q = b := by omega
  have k0 : w1.cell? ⟨b, 0, none⟩ = some (.int .i64 3) := cell_of T0.out.hb rfl
  have k1 : w1.cell? ⟨b, 1, none⟩ = some (.bool p) := cell_of T0.out.hb rfl
  have k2 : w1.cell? ⟨b, 2, none⟩ = some (.int .i64 n) := cell_of T0.out.hb rfl
  have fz : ∀ j, w1.frozen? ⟨b, j, none⟩ = false := fun j => frozen_at T0.out.hb
  have fq : ∀ j, w1.frozen? ⟨q, j, none⟩ = false := fun j => frozen_at T0.out.hq
  have q0 : w1.cell? ⟨q, 0, none⟩ = some (.bool false) := cell_of T0.out.hq rfl
  have q1 : w1.cell? ⟨q, 1, none⟩ = some (.bool false) := cell_of T0.out.hq rfl
  have q2 : w1.cell? ⟨q, 2, none⟩ = some (.bool false) := cell_of T0.out.hq rfl
  have q3 : w1.cell? ⟨q, 3, none⟩ = some (.bool false) := cell_of T0.out.hq rfl
  have q4 : w1.cell? ⟨q, 4, none⟩ = some (.bool false) := cell_of T0.out.hq rfl
  have q5 : w1.cell? ⟨q, 5, none⟩ = some (.bool false) := cell_of T0.out.hq rfl
  go_wp2_with fail
  refine (HC.out _ T0.out.hb).mono ?_
  rintro e w2 ⟨rfl, HT⟩
  have T2 := Lib.hid (T0.out.call HT)
  clear k0 k1 k2 fz fq q0 q1 q2 q3 q4 q5
  clear HT
  have k0 : w2.cell? ⟨b, 0, none⟩ = some (.int .i64 y.s) := cell_of T2.out.hb rfl
  have k1 : w2.cell? ⟨b, 1, none⟩ = some (.bool y.p) := cell_of T2.out.hb rfl
  have k2 : w2.cell? ⟨b, 2, none⟩ = some (.int .i64 y.n) := cell_of T2.out.hb rfl
  have fz : ∀ j, w2.frozen? ⟨b, j, none⟩ = false := fun j => frozen_at T2.out.hb
  have fq : ∀ j, w2.frozen? ⟨q, j, none⟩ = false := fun j => frozen_at T2.out.hq
  have q0 : w2.cell? ⟨q, 0, none⟩ = some (.bool false) := cell_of T2.out.hq rfl
  have q1 : w2.cell? ⟨q, 1, none⟩ = some (.bool false) := cell_of T2.out.hq rfl
  have q2 : w2.cell? ⟨q, 2, none⟩ = some (.bool false) := cell_of T2.out.hq rfl
  have q3 : w2.cell? ⟨q, 3, none⟩ = some (.bool false) := cell_of T2.out.hq rfl
  have q4 : w2.cell? ⟨q, 4, none⟩ = some (.bool false) := cell_of T2.out.hq rfl
  have q5 : w2.cell? ⟨q, 5, none⟩ = some (.bool false) := cell_of T2.out.hq rfl
  go_wp2_with fail
  have HT := ((((((T2.out.setq 0 (.bool d.a)).setq 1 (.bool d.f)).setq 2 (.bool d.b)).setq 3 (.bool d.c)).setq 4 (.bool d.t)).setq 5 (.bool d.w))
  exact bodyPost_ret (results_cell_row (fn := Try.f12) (p := 4) (ty := 25) rfl _ _ q 25 d.cs (0, 0) _ rfl HT.hq Try.underlying25 rfl rfl) rfl ⟨rfl, HT.hb, HT.out⟩
set_option maxRecDepth 100000 in
set_option maxHeartbeats 1000000 in
theorem step_4 (x y : Wt) (d : Du) (ev : Int) (hr : reoM x ev = (y, d)) (hev : Ev ev) (hx : -1 ≤ x.n ∧ x.n ≤ 3) (hs : x.s = 4) (b : Nat) (w : World) (h : w.heap[b]? = some (.cells x.cs 23 (0, 0))) : Calls Try.prog 12 #[.pointer (some ⟨b, 0, none⟩), .int .i64 ev] w (Dn b y d w) := by
  obtain ⟨s, p, n⟩ := x
  obtain rfl : s = 4 := hs
  have HC : Hid (∀ (wx : World) (hx1 : wx.heap[b]? = some (.cells (⟨4, p, n⟩ : Wt).cs 23 (0, 0))), Calls Try.prog 17 #[.pointer (some ⟨b, 0, none⟩), .int .i64 ev] wx (Dn b y d wx)) := Lib.hid fun wx hx1 => by
    have := reo_any ⟨4, p, n⟩ ev hev hx b wx hx1
    rw [hr] at this
    exact this
  clear hr
  have hb := lt_of_blk h
  have T0 := Lib.hid (Tw.start h)
  clear h
  go_enter Try.func12, Try.ntmps12
  go_upto_region 1 with (fail)
  generalize w.alloc (.cells #[.bool false, .bool false, .bool false, .bool false, .bool false, .bool false] 25) = w1 at T0 ⊢
  generalize w.heap.size = q at T0 hb ⊢
  have hne : ¬ b = q := by omega
  have hne2 : ¬ q = b := by omega
  have k0 : w1.cell? ⟨b, 0, none⟩ = some (.int .i64 4) := cell_of T0.out.hb rfl
  have k1 : w1.cell? ⟨b, 1, none⟩ = some (.bool p) := cell_of T0.out.hb rfl
  have k2 : w1.cell? ⟨b, 2, none⟩ = some (.int .i64 n) := cell_of T0.out.hb rfl
  have fz : ∀ j, w1.frozen? ⟨b, j, none⟩ = false := fun j => frozen_at T0.out.hb
  have fq : ∀ j, w1.frozen? ⟨q, j, none⟩ = false := fun j => frozen_at T0.out.hq
  have q0 : w1.cell? ⟨q, 0, none⟩ = some (.bool false) := cell_of T0.out.hq rfl
  have q1 : w1.cell? ⟨q, 1, none⟩ = some (.bool false) := cell_of T0.out.hq rfl
  have q2 : w1.cell? ⟨q, 2, none⟩ = some (.bool false) := cell_of T0.out.hq rfl
  have q3 : w1.cell? ⟨q, 3, none⟩ = some (.bool false) := cell_of T0.out.hq rfl
  have q4 : w1.cell? ⟨q, 4, none⟩ = some (.bool false) := cell_of T0.out.hq rfl
  have q5 : w1.cell? ⟨q, 5, none⟩ = some (.bool false) := cell_of T0.out.hq rfl
  go_wp2_with fail
  refine (HC.out _ T0.out.hb).mono ?_
  rintro e w2 ⟨rfl, HT⟩
  have T2 := Lib.hid (T0.out.call HT)
  clear k0 k1 k2 fz fq q0 q1 q2 q3 q4 q5
  clear HT
  have k0 : w2.cell? ⟨b, 0, none⟩ = some (.int .i64 y.s) := cell_of T2.out.hb rfl
  have k1 : w2.cell? ⟨b, 1, none⟩ = some (.bool y.p) := cell_of T2.out.hb rfl
  have k2 : w2.cell? ⟨b, 2, none⟩ = some (.int .i64 y.n) := cell_of T2.out.hb rfl
  have fz : ∀ j, w2.frozen? ⟨b, j, none⟩ = false := fun j => frozen_at T2.out.hb
  have fq : ∀ j, w2.frozen? ⟨q, j, none⟩ = false := fun j => frozen_at T2.out.hq
  have q0 : w2.cell? ⟨q, 0, none⟩ = some (.bool false) := cell_of T2.out.hq rfl
  have q1 : w2.cell? ⟨q, 1, none⟩ = some (.bool false) := cell_of T2.out.hq rfl
  have q2 : w2.cell? ⟨q, 2, none⟩ = some (.bool false) := cell_of T2.out.hq rfl
  have q3 : w2.cell? ⟨q, 3, none⟩ = some (.bool false) := cell_of T2.out.hq rfl
  have q4 : w2.cell? ⟨q, 4, none⟩ = some (.bool false) := cell_of T2.out.hq rfl
  have q5 : w2.cell? ⟨q, 5, none⟩ = some (.bool false) := cell_of T2.out.hq rfl
  go_wp2_with fail
  have HT := ((((((T2.out.setq 0 (.bool d.a)).setq 1 (.bool d.f)).setq 2 (.bool d.b)).setq 3 (.bool d.c)).setq 4 (.bool d.t)).setq 5 (.bool d.w))
  exact bodyPost_ret (results_cell_row (fn := Try.f12) (p := 4) (ty := 25) rfl _ _ q 25 d.cs (0, 0) _ rfl HT.hq Try.underlying25 rfl rfl) rfl ⟨rfl, HT.hb, HT.out⟩
theorem step_any (x : Wt) (ev : Int) (hev : Ev ev) (hx : x.Ok) (b : Nat) (w : World) (h : w.heap[b]? = some (.cells x.cs 23 (0, 0))) : Calls Try.prog 12 #[.pointer (some ⟨b, 0, none⟩), .int .i64 ev] w (Dn b (stepM x ev).1 (stepM x ev).2 w) := by
  obtain ⟨⟨h1, h2⟩, hn⟩ := hx
  unfold stepM
  by_cases e0 : x.s = 0
  · rw [if_pos e0]; exact step_0 x _ _ ev rfl hev hn e0 b w h
  rw [if_neg e0]
  by_cases e1 : x.s = 1
  · rw [if_pos e1]; exact step_1 x _ _ ev rfl hev hn e1 b w h
  rw [if_neg e1]
  by_cases e2 : x.s = 2
  · rw [if_pos e2]; exact step_2 x _ _ ev rfl hev hn e2 b w h
  rw [if_neg e2]
  by_cases e3 : x.s = 3
  · rw [if_pos e3]; exact step_3 x _ _ ev rfl hev hn e3 b w h
  rw [if_neg e3]
  exact step_4 x _ _ ev rfl hev hn (by omega) b w h
end Go.Proofs.Ytdhkbpnhbbedmaa
