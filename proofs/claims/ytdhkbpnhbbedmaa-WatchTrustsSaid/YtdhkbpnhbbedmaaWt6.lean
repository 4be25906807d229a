import Derived.Test.YtdhkbpnhbbedmaaWt5
namespace Go.Proofs.Ytdhkbpnhbbedmaa
open Go Go.RowKit
set_option linter.unusedVariables false
set_option linter.unusedSimpArgs false
theorem two_new (w : World) (c1 c2 : Array Value) (t1 t2 : TypeId) : ((w.alloc (.cells c1 t1)).alloc (.cells c2 t2)).heap[w.heap.size]? = some (.cells c1 t1 (0, 0)) ∧ ((w.alloc (.cells c1 t1)).alloc (.cells c2 t2)).heap[w.heap.size + 1]? = some (.cells c2 t2 (0, 0)) ∧ Up w ((w.alloc (.cells c1 t1)).alloc (.cells c2 t2)) := by
  have a := new_at w (.cells c1 t1)
  have b := new_at (w.alloc (.cells c1 t1)) (.cells c2 t2)
  have s1 : (w.alloc (.cells c1 t1)).heap.size = w.heap.size + 1 := by simp
  have u2 := up_alloc (w.alloc (.cells c1 t1)) (.cells c2 t2)
  rw [s1] at b
  exact ⟨(u2.block _ (lt_at a)).trans a, b, (up_alloc w _).trans u2⟩
theorem kept {w w' : World} {b : Nat} {o : Obj} (h : w.heap[b]? = some o) (u : Up w w') : w'.heap[b]? = some o := (u.block _ (lt_at h)).trans h
def RetB (b : Bool) (w : World) (e : Ending) (w' : World) : Prop := e = .returned (.bool b) ∧ Hid (Up w w')
set_option maxRecDepth 100000 in
set_option maxHeartbeats 1000000 in
theorem law_steps' (s n ev : Int) (p : Bool) (y : Wt) (d : Du) (k : Int) (w : World) (hs : ∀ wx, Calls Try.prog 7 #[.agg #[.int .i64 s, .bool p, .int .i64 n], .int .i64 ev] wx (Rs y d k wx)) (hr : ∀ wx, Calls Try.prog 8 #[.agg #[.int .i64 s, .bool p, .int .i64 n], .int .i64 ev] wx (Rw y d.bits k wx)) :
    Calls Try.prog 3 #[.int .i64 s, .int .i64 n, .int .i64 ev, .bool p] w (RetB true w) := by
  have HS := Lib.hid hs
  have HR := Lib.hid hr
  have HA := Lib.hid (fun wx => answers_ok wx)
  have HB := Lib.hid (fun wx => bits_any d wx)
  clear hs hr
  go_enter Try.func3, Try.ntmps3
  go_wp2_with fail
  refine (HS.out _).mono ?_
  rintro e w1 ⟨rfl, HU1⟩
  clear HS
  go_upto_region 2 with (fail)
  obtain ⟨ha, hb, hu⟩ := two_new w1 #[.int .i64 y.s, .bool y.p, .int .i64 y.n] #[.bool d.a, .bool d.f, .bool d.b, .bool d.c, .bool d.t, .bool d.w] 23 25
  have HU2 := Lib.hid (HU1.out.trans hu)
  have Ha := Lib.hid ha
  have Hb := Lib.hid hb
  clear ha hb hu HU1
  generalize (w1.alloc (.cells #[.int .i64 y.s, .bool y.p, .int .i64 y.n] 23)).alloc (.cells #[.bool d.a, .bool d.f, .bool d.b, .bool d.c, .bool d.t, .bool d.w] 25) = w2 at Ha Hb HU2 ⊢
  generalize w1.heap.size = a at Ha Hb ⊢
  go_wp2_with fail
  refine (HR.out _).mono ?_
  rintro e w3 ⟨rfl, HU3⟩
  clear HR
  have HU3 := HU3
  go_upto_region 3 with (fail)
  have hc := new_at w3 (.cells #[.int .i64 y.s, .bool y.p, .int .i64 y.n] 29)
  have hu := up_alloc w3 (.cells #[.int .i64 y.s, .bool y.p, .int .i64 y.n] 29)
  have HU4 := Lib.hid (HU2.out.trans (HU3.out.trans hu))
  have Ha4 := Lib.hid (kept Ha.out (HU3.out.trans hu))
  have Hb4 := Lib.hid (kept Hb.out (HU3.out.trans hu))
  have Hc4 := Lib.hid hc
  clear hc hu HU2 HU3 Ha Hb
  generalize w3.alloc (.cells #[.int .i64 y.s, .bool y.p, .int .i64 y.n] 29) = w4 at Ha4 Hb4 Hc4 HU4 ⊢
  generalize w3.heap.size = c at Hc4 ⊢
  go_wp2_with fail
  refine (HA.out _).mono ?_
  rintro e w5 ⟨rfl, HU5⟩
  have HU6 := Lib.hid (HU4.out.trans HU5.out)
  have Ha6 := Lib.hid (kept Ha4.out HU5.out)
  have Hb6 := Lib.hid (kept Hb4.out HU5.out)
  have Hc6 := Lib.hid (kept Hc4.out HU5.out)
  clear HA HU4 HU5 Ha4 Hb4 Hc4
  have k0 : w5.cell? ⟨a, 0, none⟩ = some (.int .i64 y.s) := cell_of Ha6.out rfl
  have k1 : w5.cell? ⟨a, 1, none⟩ = some (.bool y.p) := cell_of Ha6.out rfl
  have k2 : w5.cell? ⟨a, 2, none⟩ = some (.int .i64 y.n) := cell_of Ha6.out rfl
  have s0 : w5.cell? ⟨(a + 1), 0, none⟩ = some (.bool d.a) := cell_of Hb6.out rfl
  have s1 : w5.cell? ⟨(a + 1), 1, none⟩ = some (.bool d.f) := cell_of Hb6.out rfl
  have s2 : w5.cell? ⟨(a + 1), 2, none⟩ = some (.bool d.b) := cell_of Hb6.out rfl
  have s3 : w5.cell? ⟨(a + 1), 3, none⟩ = some (.bool d.c) := cell_of Hb6.out rfl
  have s4 : w5.cell? ⟨(a + 1), 4, none⟩ = some (.bool d.t) := cell_of Hb6.out rfl
  have s5 : w5.cell? ⟨(a + 1), 5, none⟩ = some (.bool d.w) := cell_of Hb6.out rfl
  have m0 : w5.cell? ⟨c, 0, none⟩ = some (.int .i64 y.s) := cell_of Hc6.out rfl
  have m1 : w5.cell? ⟨c, 1, none⟩ = some (.bool y.p) := cell_of Hc6.out rfl
  have m2 : w5.cell? ⟨c, 2, none⟩ = some (.int .i64 y.n) := cell_of Hc6.out rfl
  go_wp2_with fail
  refine (HB.out _).mono ?_
  rintro e w7 ⟨rfl, HU7⟩
  have HU8 := Lib.hid (HU6.out.trans HU7.out)
  clear HB HU7 HU6
  go_wp2_with fail
  go_ret
  exact ⟨rfl, HU8⟩
theorem law_steps (s n ev : Int) (p : Bool) (w : World) : Calls Try.prog 3 #[.int .i64 s, .int .i64 n, .int .i64 ev, .bool p] w (RetB true w) := by
  by_cases h : (⟨s, p, n⟩ : Wt).Ok ∧ Ev ev
  · exact law_steps' s n ev p _ _ 0 w (fun wx => stepE_any ⟨s, p, n⟩ ev h.1 h.2 wx) (fun wx => watched_any ⟨s, p, n⟩ ev h.1 h.2 wx)
  · exact law_steps' s n ev p W0 D0 1 w (fun wx => stepE_bad ⟨s, p, n⟩ ev h wx) (fun wx => watched_bad ⟨s, p, n⟩ ev h wx)
end Go.Proofs.Ytdhkbpnhbbedmaa
