import Derived.Test.YtahpejcejbgcpaaRt13
import Derived.Test.YtahpejcejbgcpaaRt2
namespace Go.Proofs.Ytahpejcejbgcpaa
open Go Go.RowKit
set_option linter.unusedVariables false
set_option linter.unusedSimpArgs false
def roomOf (x : Wy) (f : Int) : Int := if x.Ok ∧ 0 ≤ f ∧ f ≤ x.c then x.c - f else 0
def RI (n : Int) (w : World) (e : Ending) (w' : World) : Prop := e = .returned (.int .i64 n) ∧ Hid (Up w w')
def RM (x : Wy) (f : Int) (w : World) (e : Ending) (w' : World) : Prop := RI (roomOf x f) w e w'
theorem soundc (x : Wy) (w : World) : Calls Try.prog 12 #[.agg x.cs] w fun e w' => e = .returned (.bool x.okB) ∧ Hid (Up w w') := (sound_any x w).mono fun e w' ⟨h1, h2⟩ => ⟨h1, Lib.hid h2⟩
theorem rsoundc (x : Wy) (w : World) : Calls Try.prog 13 #[.agg x.cs] w fun e w' => e = .returned (.bool x.okB) ∧ Hid (Up w w') := (wayok_any x w).mono fun e w' ⟨h1, h2⟩ => ⟨h1, Lib.hid h2⟩
set_option maxRecDepth 100000 in
set_option maxHeartbeats 1000000 in
theorem room_any (x : Wy) (f : Int) (w : World) (hf : f ≤ 9223372036854775807) : Calls Try.prog 20 #[.agg x.cs, .int .i64 f] w (RM x f w) := by
  have HU0 := Lib.hid (up_alloc w (.cells x.cs 23))
  have HM0 := Lib.hid (new_at w (.cells x.cs 23))
  unfold RM
  by_cases h : x.Ok
  · have HS : ∀ wx, Calls Try.prog 12 #[.agg x.cs] wx fun e w' => e = .returned (.bool true) ∧ Hid (Up wx w') := fun wx => (sound_any x wx).mono fun e w' ⟨h1, h2⟩ => ⟨by rw [h1, okB_t h], Lib.hid h2⟩
    by_cases h2 : f < 0
    · have d1 : decide (f < 0) = true := decide_eq_true h2
      rw [show roomOf x f = 0 from if_neg (fun h => by omega)]
      clear h h2
      go_enter Try.func20, Try.ntmps20
      go_upto_region 1 with (fail)
      generalize w.alloc (.cells x.cs 23) = w2 at HU0 HM0 ⊢
      generalize w.heap.size = p at HM0 ⊢
      have k0 : w2.cell? ⟨p, 0, none⟩ = some (.int .i64 x.s) := cell_of HM0.out rfl
      have k1 : w2.cell? ⟨p, 1, none⟩ = some (.int .i64 x.v) := cell_of HM0.out rfl
      have k2 : w2.cell? ⟨p, 2, none⟩ = some (.int .i64 x.r) := cell_of HM0.out rfl
      have k3 : w2.cell? ⟨p, 3, none⟩ = some (.int .i64 x.e) := cell_of HM0.out rfl
      have k4 : w2.cell? ⟨p, 4, none⟩ = some (.int .i64 x.c) := cell_of HM0.out rfl
      have k5 : w2.cell? ⟨p, 5, none⟩ = some (.int .i64 x.t) := cell_of HM0.out rfl
      have k6 : w2.cell? ⟨p, 6, none⟩ = some (.int .i64 x.a) := cell_of HM0.out rfl
      go_wp2_with fail
      refine (HS _).mono ?_
      rintro e w3 ⟨rfl, HU3⟩
      clear k0 k1 k2 k3 k4 k5 k6
      go_wp2_with fail
      go_ret
      exact ⟨rfl, Lib.hid (HU0.out.trans HU3.out)⟩
    · have d1 : decide (f < 0) = false := decide_eq_false h2
      have hf0 : 0 ≤ f := by omega
      have e1 : roomOf x f = max (x.c - f) 0 := by
        unfold roomOf
        obtain ⟨⟨a1, a2⟩, ⟨b1, b2⟩, ⟨c1, c2⟩, ⟨d1, d2⟩, ⟨e1, e2⟩, ⟨f1, f2⟩, ⟨g1, g2⟩⟩ := id h
        by_cases h3 : f ≤ x.c
        · rw [if_pos ⟨h, by omega, h3⟩]; omega
        · rw [if_neg (fun h => h3 h.2.2)]; omega
      have E1 := Lib.hid e1
      have hc : 512 ≤ x.c ∧ x.c ≤ 65536 := h.2.2.2.2.1
      obtain ⟨hc1, hc2⟩ := hc
      clear h e1
      go_enter Try.func20, Try.ntmps20
      go_upto_region 1 with (fail)
      generalize w.alloc (.cells x.cs 23) = w2 at HU0 HM0 ⊢
      generalize w.heap.size = p at HM0 ⊢
      have k0 : w2.cell? ⟨p, 0, none⟩ = some (.int .i64 x.s) := cell_of HM0.out rfl
      have k1 : w2.cell? ⟨p, 1, none⟩ = some (.int .i64 x.v) := cell_of HM0.out rfl
      have k2 : w2.cell? ⟨p, 2, none⟩ = some (.int .i64 x.r) := cell_of HM0.out rfl
      have k3 : w2.cell? ⟨p, 3, none⟩ = some (.int .i64 x.e) := cell_of HM0.out rfl
      have k4 : w2.cell? ⟨p, 4, none⟩ = some (.int .i64 x.c) := cell_of HM0.out rfl
      have k5 : w2.cell? ⟨p, 5, none⟩ = some (.int .i64 x.t) := cell_of HM0.out rfl
      have k6 : w2.cell? ⟨p, 6, none⟩ = some (.int .i64 x.a) := cell_of HM0.out rfl
      go_wp2_with fail
      refine (HS _).mono ?_
      rintro e w3 ⟨rfl, HU3⟩
      have k4 : w3.cell? ⟨p, 4, none⟩ = some (.int .i64 x.c) := cell_up k4 HU3.out
      clear k0 k1 k2 k3 k5 k6
      go_wp2_with fail
      all_goals
        go_ret
        refine ⟨?_, Lib.hid (HU0.out.trans HU3.out)⟩
        rw [E1.out]
        exact ret_i (by omega)
  · have HS : ∀ wx, Calls Try.prog 12 #[.agg x.cs] wx fun e w' => e = .returned (.bool false) ∧ Hid (Up wx w') := fun wx => (sound_any x wx).mono fun e w' ⟨h1, h2⟩ => ⟨by rw [h1, okB_f h], Lib.hid h2⟩
    rw [show roomOf x f = 0 from if_neg (fun h2 => h h2.1)]
    clear h
    go_enter Try.func20, Try.ntmps20
    go_upto_region 1 with (fail)
    generalize w.alloc (.cells x.cs 23) = w2 at HU0 HM0 ⊢
    generalize w.heap.size = p at HM0 ⊢
    have k0 : w2.cell? ⟨p, 0, none⟩ = some (.int .i64 x.s) := cell_of HM0.out rfl
    have k1 : w2.cell? ⟨p, 1, none⟩ = some (.int .i64 x.v) := cell_of HM0.out rfl
    have k2 : w2.cell? ⟨p, 2, none⟩ = some (.int .i64 x.r) := cell_of HM0.out rfl
    have k3 : w2.cell? ⟨p, 3, none⟩ = some (.int .i64 x.e) := cell_of HM0.out rfl
    have k4 : w2.cell? ⟨p, 4, none⟩ = some (.int .i64 x.c) := cell_of HM0.out rfl
    have k5 : w2.cell? ⟨p, 5, none⟩ = some (.int .i64 x.t) := cell_of HM0.out rfl
    have k6 : w2.cell? ⟨p, 6, none⟩ = some (.int .i64 x.a) := cell_of HM0.out rfl
    go_wp2_with fail
    refine (HS _).mono ?_
    rintro e w3 ⟨rfl, HU3⟩
    clear k0 k1 k2 k3 k4 k5 k6
    go_wp2_with fail
    go_ret
    exact ⟨rfl, Lib.hid (HU0.out.trans HU3.out)⟩
set_option maxRecDepth 100000 in
set_option maxHeartbeats 1000000 in
theorem rroom_any (x : Wy) (f : Int) (w : World) (hf : f ≤ 9223372036854775807) : Calls Try.prog 21 #[.agg x.cs, .int .i64 f] w (RM x f w) := by
  have HU0 := Lib.hid (up_alloc w (.cells x.cs 23))
  have HM0 := Lib.hid (new_at w (.cells x.cs 23))
  unfold RM
  by_cases h : x.Ok
  · have HS : ∀ wx, Calls Try.prog 13 #[.agg x.cs] wx fun e w' => e = .returned (.bool true) ∧ Hid (Up wx w') := okc_t x h
    have hc : 512 ≤ x.c ∧ x.c ≤ 65536 := h.2.2.2.2.1
    obtain ⟨hc1, hc2⟩ := hc
    by_cases h2 : f < 0
    · have d1 : decide (f < 0) = true := decide_eq_true h2
      rw [show roomOf x f = 0 from if_neg (fun h => by omega)]
      clear h h2
      go_enter Try.func21, Try.ntmps21
      go_upto_region 1 with (fail)
      generalize w.alloc (.cells x.cs 23) = w2 at HU0 HM0 ⊢
      generalize w.heap.size = p at HM0 ⊢
      have k0 : w2.cell? ⟨p, 0, none⟩ = some (.int .i64 x.s) := cell_of HM0.out rfl
      have k1 : w2.cell? ⟨p, 1, none⟩ = some (.int .i64 x.v) := cell_of HM0.out rfl
      have k2 : w2.cell? ⟨p, 2, none⟩ = some (.int .i64 x.r) := cell_of HM0.out rfl
      have k3 : w2.cell? ⟨p, 3, none⟩ = some (.int .i64 x.e) := cell_of HM0.out rfl
      have k4 : w2.cell? ⟨p, 4, none⟩ = some (.int .i64 x.c) := cell_of HM0.out rfl
      have k5 : w2.cell? ⟨p, 5, none⟩ = some (.int .i64 x.t) := cell_of HM0.out rfl
      have k6 : w2.cell? ⟨p, 6, none⟩ = some (.int .i64 x.a) := cell_of HM0.out rfl
      go_wp2_with fail
      refine (HS _).mono ?_
      rintro e w3 ⟨rfl, HU3⟩
      clear k0 k1 k2 k3 k4 k5 k6
      go_wp2_with fail
      go_ret
      exact ⟨rfl, Lib.hid (HU0.out.trans HU3.out)⟩
    · have d1 : decide (f < 0) = false := decide_eq_false h2
      have hf0 : 0 ≤ f := by omega
      by_cases h3 : x.c < f
      · have d2 : decide (f > x.c) = true := decide_eq_true h3
        rw [show roomOf x f = 0 from if_neg (fun h => by omega)]
        clear h
        go_enter Try.func21, Try.ntmps21
        go_upto_region 1 with (fail)
        generalize w.alloc (.cells x.cs 23) = w2 at HU0 HM0 ⊢
        generalize w.heap.size = p at HM0 ⊢
        have k0 : w2.cell? ⟨p, 0, none⟩ = some (.int .i64 x.s) := cell_of HM0.out rfl
        have k1 : w2.cell? ⟨p, 1, none⟩ = some (.int .i64 x.v) := cell_of HM0.out rfl
        have k2 : w2.cell? ⟨p, 2, none⟩ = some (.int .i64 x.r) := cell_of HM0.out rfl
        have k3 : w2.cell? ⟨p, 3, none⟩ = some (.int .i64 x.e) := cell_of HM0.out rfl
        have k4 : w2.cell? ⟨p, 4, none⟩ = some (.int .i64 x.c) := cell_of HM0.out rfl
        have k5 : w2.cell? ⟨p, 5, none⟩ = some (.int .i64 x.t) := cell_of HM0.out rfl
        have k6 : w2.cell? ⟨p, 6, none⟩ = some (.int .i64 x.a) := cell_of HM0.out rfl
        go_wp2_with fail
        refine (HS _).mono ?_
        rintro e w3 ⟨rfl, HU3⟩
        have k4 : w3.cell? ⟨p, 4, none⟩ = some (.int .i64 x.c) := cell_up k4 HU3.out
        clear k0 k1 k2 k3 k5 k6
        go_wp2_with fail
        go_ret
        exact ⟨rfl, Lib.hid (HU0.out.trans HU3.out)⟩
      · have d2 : decide (f > x.c) = false := decide_eq_false h3
        rw [show roomOf x f = x.c - f from if_pos ⟨h, hf0, by omega⟩]
        clear h
        go_enter Try.func21, Try.ntmps21
        go_upto_region 1 with (fail)
        generalize w.alloc (.cells x.cs 23) = w2 at HU0 HM0 ⊢
        generalize w.heap.size = p at HM0 ⊢
        have k0 : w2.cell? ⟨p, 0, none⟩ = some (.int .i64 x.s) := cell_of HM0.out rfl
        have k1 : w2.cell? ⟨p, 1, none⟩ = some (.int .i64 x.v) := cell_of HM0.out rfl
        have k2 : w2.cell? ⟨p, 2, none⟩ = some (.int .i64 x.r) := cell_of HM0.out rfl
        have k3 : w2.cell? ⟨p, 3, none⟩ = some (.int .i64 x.e) := cell_of HM0.out rfl
        have k4 : w2.cell? ⟨p, 4, none⟩ = some (.int .i64 x.c) := cell_of HM0.out rfl
        have k5 : w2.cell? ⟨p, 5, none⟩ = some (.int .i64 x.t) := cell_of HM0.out rfl
        have k6 : w2.cell? ⟨p, 6, none⟩ = some (.int .i64 x.a) := cell_of HM0.out rfl
        go_wp2_with fail
        refine (HS _).mono ?_
        rintro e w3 ⟨rfl, HU3⟩
        have k4 : w3.cell? ⟨p, 4, none⟩ = some (.int .i64 x.c) := cell_up k4 HU3.out
        clear k0 k1 k2 k3 k5 k6
        go_wp2_with fail
        go_ret
        exact ⟨rfl, Lib.hid (HU0.out.trans HU3.out)⟩
  · have HS : ∀ wx, Calls Try.prog 13 #[.agg x.cs] wx fun e w' => e = .returned (.bool false) ∧ Hid (Up wx w') := okc_f x h
    rw [show roomOf x f = 0 from if_neg (fun h2 => h h2.1)]
    clear h
    go_enter Try.func21, Try.ntmps21
    go_upto_region 1 with (fail)
    generalize w.alloc (.cells x.cs 23) = w2 at HU0 HM0 ⊢
    generalize w.heap.size = p at HM0 ⊢
    have k0 : w2.cell? ⟨p, 0, none⟩ = some (.int .i64 x.s) := cell_of HM0.out rfl
    have k1 : w2.cell? ⟨p, 1, none⟩ = some (.int .i64 x.v) := cell_of HM0.out rfl
    have k2 : w2.cell? ⟨p, 2, none⟩ = some (.int .i64 x.r) := cell_of HM0.out rfl
    have k3 : w2.cell? ⟨p, 3, none⟩ = some (.int .i64 x.e) := cell_of HM0.out rfl
    have k4 : w2.cell? ⟨p, 4, none⟩ = some (.int .i64 x.c) := cell_of HM0.out rfl
    have k5 : w2.cell? ⟨p, 5, none⟩ = some (.int .i64 x.t) := cell_of HM0.out rfl
    have k6 : w2.cell? ⟨p, 6, none⟩ = some (.int .i64 x.a) := cell_of HM0.out rfl
    go_wp2_with fail
    refine (HS _).mono ?_
    rintro e w3 ⟨rfl, HU3⟩
    clear k0 k1 k2 k3 k4 k5 k6
    go_wp2_with fail
    go_ret
    exact ⟨rfl, Lib.hid (HU0.out.trans HU3.out)⟩
end Go.Proofs.Ytahpejcejbgcpaa
