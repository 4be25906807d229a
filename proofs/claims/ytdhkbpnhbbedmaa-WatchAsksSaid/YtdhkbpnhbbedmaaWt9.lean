import Derived.Test.YtdhkbpnhbbedmaaWt8
import Derived.Deep.DeepCutAuto
namespace Go.Proofs.Ytdhkbpnhbbedmaa
open Go Go.RowKit
set_option linter.unusedVariables false
set_option linter.unusedSimpArgs false
set_option maxRecDepth 100000 in
set_option maxHeartbeats 8000000 in
theorem law_asks (A : Option Addr) (n c : Nat) (xs : List Int) (w : World) (hin : InB w A n c xs) : Calls Try.prog 6 #[.slice A n c] w (RetB true w) := by
  have HIn := Lib.hid hin
  clear hin
  have HE := Lib.hid (fun wx => stepE_bad ⟨5, false, 0⟩ 1 (fun h => by have := h.1.1.2; revert this; decide) wx)
  have HA := Lib.hid (fun wx => answers_ok wx)
  have HS1 := Lib.hid (fun (pd : Bool) => (st_of ⟨1, pd, 0⟩ ⟨1, false, 0⟩ 3 ⟨false, false, false, false, false, true⟩ rfl ⟨⟨by dsimp only; omega, by dsimp only; omega⟩, by dsimp only; omega, by dsimp only; omega⟩ (by unfold Ev; omega)).out)
  have HS2 := st_of ⟨1, false, 0⟩ ⟨1, true, 0⟩ 5 ⟨true, false, false, false, false, true⟩ rfl ⟨⟨by decide, by decide⟩, by decide, by decide⟩ (by unfold Ev; omega)
  go_enter Try.func6, Try.ntmps6
  go_upto_region 2 with (fail)
  have Ls := Lib.hid (L1.start w #[.int .i64 1, .bool false, .int .i64 0])
  generalize w.alloc (.cells #[.int .i64 1, .bool false, .int .i64 0] 23) = w1 at Ls ⊢
  generalize w.heap.size = a at Ls ⊢
  go_upto_region 3 with (fail)
  go_loopw [4] (fun iv wr => ∃ (i : Nat) (pd : Bool), iv = .int .i64 (i : Int) ∧ i ≤ n ∧ i ≤ 200 ∧ Hid (L1 a #[.int .i64 1, .bool pd, .int .i64 0] w wr)) (fun iv _ => 200 - (intOf iv).toNat)
  case atStart => exact ⟨0, false, rfl, by omega, by omega, Ls⟩
  case round =>
    clear Ls
    obtain ⟨i, pd, rfl, hin, hi2, Lr⟩ := hrel
    by_cases hlt : i < n ∧ i < 200
    · obtain ⟨h1, h2⟩ := hlt
      have d1 : decide ((i : Int) < (n : Int)) = true := by simp; omega
      have d2 : decide ((i : Int) < 200) = true := by simp; omega
      have hiI : (i : Int) < (n : Int) := by omega
      have k0 : wr.cell? ⟨a, 0, none⟩ = some (.int .i64 1) := cell_of Lr.out.ha rfl
      have k1 : wr.cell? ⟨a, 1, none⟩ = some (.bool pd) := cell_of Lr.out.ha rfl
      have k2 : wr.cell? ⟨a, 2, none⟩ = some (.int .i64 0) := cell_of Lr.out.ha rfl
      go_wp2_with fail
      refine (HS1.out pd _).mono ?_
      rintro e w4 ⟨rfl, HU4⟩
      clear k0 k1 k2
      have Lq := Lib.hid (Lr.out.more HU4.out)
      clear Lr HU4
      go_upto_region 6 with (fail)
      have L5 := Lib.hid (L3.start Lq.out #[.int .i64 1, .bool false, .int .i64 0] #[.bool false, .bool false, .bool false, .bool false, .bool false, .bool true])
      clear Lq
      generalize (w4.alloc (.cells #[.int .i64 1, .bool false, .int .i64 0] 23)).alloc (.cells #[.bool false, .bool false, .bool false, .bool false, .bool false, .bool true] 25) = w5 at L5 ⊢
      generalize w4.heap.size = b at L5 ⊢
      have hab : a < b := L5.out.ab
      have k0 : w5.cell? ⟨a, 0, none⟩ = some (.int .i64 1) := cell_of L5.out.ha rfl
      have k1 : w5.cell? ⟨a, 1, none⟩ = some (.bool pd) := cell_of L5.out.ha rfl
      have k2 : w5.cell? ⟨a, 2, none⟩ = some (.int .i64 0) := cell_of L5.out.ha rfl
      have fa : ∀ j, w5.frozen? ⟨a, j, none⟩ = false := fun j => frozen_at L5.out.ha
      have m0 : w5.cell? ⟨b, 0, none⟩ = some (.int .i64 1) := cell_of L5.out.hb rfl
      have m1 : w5.cell? ⟨b, 1, none⟩ = some (.bool false) := cell_of L5.out.hb rfl
      have m2 : w5.cell? ⟨b, 2, none⟩ = some (.int .i64 0) := cell_of L5.out.hb rfl
      have s0 : w5.cell? ⟨(b + 1), 0, none⟩ = some (.bool false) := cell_of L5.out.hc rfl
      have s1 : w5.cell? ⟨(b + 1), 1, none⟩ = some (.bool false) := cell_of L5.out.hc rfl
      have s2 : w5.cell? ⟨(b + 1), 2, none⟩ = some (.bool false) := cell_of L5.out.hc rfl
      have s3 : w5.cell? ⟨(b + 1), 3, none⟩ = some (.bool false) := cell_of L5.out.hc rfl
      have s4 : w5.cell? ⟨(b + 1), 4, none⟩ = some (.bool false) := cell_of L5.out.hc rfl
      have s5 : w5.cell? ⟨(b + 1), 5, none⟩ = some (.bool true) := cell_of L5.out.hc rfl
      go_upto_region 9 with (fail)
      have L6 := Lib.hid (((L5.out.seta 0 (.int .i64 1)).seta 1 (.bool false)).seta 2 (.int .i64 0))
      clear L5 fa
      clear k0 k1 k2
      clear m0 m1 m2
      clear s0 s1 s2 s3 s4 s5
      generalize (((w5.setCell ⟨a, 0, none⟩ (.int .i64 1)).setCell ⟨a, 1, none⟩ (.bool false)).setCell ⟨a, 2, none⟩ (.int .i64 0)) = w6 at L6 ⊢
      obtain ⟨gb, go, xb, rfl, hcx, hx0, hx1⟩ := byte_at (HIn.out.up L6.out.up) h1
      have k0 : w6.cell? ⟨a, 0, none⟩ = some (.int .i64 1) := cell_of L6.out.ha rfl
      have k1 : w6.cell? ⟨a, 1, none⟩ = some (.bool false) := cell_of L6.out.ha rfl
      have k2 : w6.cell? ⟨a, 2, none⟩ = some (.int .i64 0) := cell_of L6.out.ha rfl
      have fa : ∀ j, w6.frozen? ⟨a, j, none⟩ = false := fun j => frozen_at L6.out.ha
      have m0 : w6.cell? ⟨b, 0, none⟩ = some (.int .i64 1) := cell_of L6.out.hb rfl
      have m1 : w6.cell? ⟨b, 1, none⟩ = some (.bool false) := cell_of L6.out.hb rfl
      have m2 : w6.cell? ⟨b, 2, none⟩ = some (.int .i64 0) := cell_of L6.out.hb rfl
      have fb : ∀ j, w6.frozen? ⟨b, j, none⟩ = false := fun j => frozen_at L6.out.hb
      have s0 : w6.cell? ⟨(b + 1), 0, none⟩ = some (.bool false) := cell_of L6.out.hc rfl
      have s1 : w6.cell? ⟨(b + 1), 1, none⟩ = some (.bool false) := cell_of L6.out.hc rfl
      have s2 : w6.cell? ⟨(b + 1), 2, none⟩ = some (.bool false) := cell_of L6.out.hc rfl
      have s3 : w6.cell? ⟨(b + 1), 3, none⟩ = some (.bool false) := cell_of L6.out.hc rfl
      have s4 : w6.cell? ⟨(b + 1), 4, none⟩ = some (.bool false) := cell_of L6.out.hc rfl
      have s5 : w6.cell? ⟨(b + 1), 5, none⟩ = some (.bool true) := cell_of L6.out.hc rfl
      have fc : ∀ j, w6.frozen? ⟨(b + 1), j, none⟩ = false := fun j => frozen_at L6.out.hc
      by_cases hev : xb % 2 = 0
      · have e1 : (xb % 2 == 0) = true := by simp [hev]
        go_wp2_with fail
        refine (HS2.out _).mono ?_
        rintro e w7 ⟨rfl, HU7⟩
        clear k0 k1 k2 m0 m1 m2 s0 s1 s2 s3 s4 s5 fa fb fc hcx
        have L7 := Lib.hid (L6.out.more HU7.out)
        clear L6 HU7
        have k0 : w7.cell? ⟨a, 0, none⟩ = some (.int .i64 1) := cell_of L7.out.ha rfl
        have k1 : w7.cell? ⟨a, 1, none⟩ = some (.bool false) := cell_of L7.out.ha rfl
        have k2 : w7.cell? ⟨a, 2, none⟩ = some (.int .i64 0) := cell_of L7.out.ha rfl
        have fa : ∀ j, w7.frozen? ⟨a, j, none⟩ = false := fun j => frozen_at L7.out.ha
        have m0 : w7.cell? ⟨b, 0, none⟩ = some (.int .i64 1) := cell_of L7.out.hb rfl
        have m1 : w7.cell? ⟨b, 1, none⟩ = some (.bool false) := cell_of L7.out.hb rfl
        have m2 : w7.cell? ⟨b, 2, none⟩ = some (.int .i64 0) := cell_of L7.out.hb rfl
        have fb : ∀ j, w7.frozen? ⟨b, j, none⟩ = false := fun j => frozen_at L7.out.hb
        have s0 : w7.cell? ⟨(b + 1), 0, none⟩ = some (.bool false) := cell_of L7.out.hc rfl
        have s1 : w7.cell? ⟨(b + 1), 1, none⟩ = some (.bool false) := cell_of L7.out.hc rfl
        have s2 : w7.cell? ⟨(b + 1), 2, none⟩ = some (.bool false) := cell_of L7.out.hc rfl
        have s3 : w7.cell? ⟨(b + 1), 3, none⟩ = some (.bool false) := cell_of L7.out.hc rfl
        have s4 : w7.cell? ⟨(b + 1), 4, none⟩ = some (.bool false) := cell_of L7.out.hc rfl
        have s5 : w7.cell? ⟨(b + 1), 5, none⟩ = some (.bool true) := cell_of L7.out.hc rfl
        have fc : ∀ j, w7.frozen? ⟨(b + 1), j, none⟩ = false := fun j => frozen_at L7.out.hc
        go_upto_region 11 with (fail)
        have L8 := Lib.hid (((((((((L7.out.setb 0 (.int .i64 1)).setb 1 (.bool true)).setb 2 (.int .i64 0)).setc 0 (.bool true)).setc 1 (.bool false)).setc 2 (.bool false)).setc 3 (.bool false)).setc 4 (.bool false)).setc 5 (.bool true))
        clear k0 k1 k2 m0 m1 m2 s0 s1 s2 s3 s4 s5 fa fb fc L7
        generalize (((((((((w7.setCell ⟨b, 0, none⟩ (.int .i64 1)).setCell ⟨b, 1, none⟩ (.bool true)).setCell ⟨b, 2, none⟩ (.int .i64 0)).setCell ⟨b + 1, 0, none⟩ (.bool true)).setCell ⟨b + 1, 1, none⟩ (.bool false)).setCell ⟨b + 1, 2, none⟩ (.bool false)).setCell ⟨b + 1, 3, none⟩ (.bool false)).setCell ⟨b + 1, 4, none⟩ (.bool false)).setCell ⟨b + 1, 5, none⟩ (.bool true)) = w8 at L8 ⊢
        have k0 : w8.cell? ⟨a, 0, none⟩ = some (.int .i64 1) := cell_of L8.out.ha rfl
        have k1 : w8.cell? ⟨a, 1, none⟩ = some (.bool false) := cell_of L8.out.ha rfl
        have k2 : w8.cell? ⟨a, 2, none⟩ = some (.int .i64 0) := cell_of L8.out.ha rfl
        have fa : ∀ j, w8.frozen? ⟨a, j, none⟩ = false := fun j => frozen_at L8.out.ha
        have m0 : w8.cell? ⟨b, 0, none⟩ = some (.int .i64 1) := cell_of L8.out.hb rfl
        have m1 : w8.cell? ⟨b, 1, none⟩ = some (.bool true) := cell_of L8.out.hb rfl
        have m2 : w8.cell? ⟨b, 2, none⟩ = some (.int .i64 0) := cell_of L8.out.hb rfl
        have s0 : w8.cell? ⟨(b + 1), 0, none⟩ = some (.bool true) := cell_of L8.out.hc rfl
        have s1 : w8.cell? ⟨(b + 1), 1, none⟩ = some (.bool false) := cell_of L8.out.hc rfl
        have s2 : w8.cell? ⟨(b + 1), 2, none⟩ = some (.bool false) := cell_of L8.out.hc rfl
        have s3 : w8.cell? ⟨(b + 1), 3, none⟩ = some (.bool false) := cell_of L8.out.hc rfl
        have s4 : w8.cell? ⟨(b + 1), 4, none⟩ = some (.bool false) := cell_of L8.out.hc rfl
        have s5 : w8.cell? ⟨(b + 1), 5, none⟩ = some (.bool true) := cell_of L8.out.hc rfl
        go_wp2_with fail
        go_roundw
        case rel => exact ⟨i + 1, true, by go_num, by omega, by omega, Lib.hid ((((L8.out.seta 0 (.int .i64 1)).seta 1 (.bool true)).seta 2 (.int .i64 0))).one⟩
        case measure => simp [intOf]; omega
      · have e1 : (xb % 2 == 0) = false := by simp [hev]
        go_wp2_with fail
        go_roundw
        case rel => exact ⟨i + 1, false, by go_num, by omega, by omega, Lib.hid (L6.out).one⟩
        case measure => simp [intOf]; omega
    · go_upto_region 3 with (fail)
      go_cut [19] (fun v wx => v = .bool false ∧ wx = wr)
      case first =>
        by_cases h1 : i < n
        · have d1 : decide ((i : Int) < (n : Int)) = true := by simp; omega
          have d2 : decide ((i : Int) < 200) = false := by simp; omega
          go_wp2_with fail
          go_meet
          exact ⟨rfl, rfl⟩
        · have d1 : decide ((i : Int) < (n : Int)) = false := by simp; omega
          go_wp2_with fail
          go_meet
          exact ⟨rfl, rfl⟩
      case rest =>
      obtain ⟨rfl, hwr⟩ := hcut
      subst hwr
      clear hlt
      go_wp2_with fail
      refine (HE.out _).mono ?_
      rintro e w4 ⟨rfl, HU4⟩
      have Lq := Lib.hid (Lr.out.more HU4.out)
      clear Lr HU4
      go_upto_region 15 with (fail)
      have L5 := Lib.hid (L3.start Lq.out #[.int .i64 0, .bool false, .int .i64 0] #[.bool false, .bool false, .bool false, .bool false, .bool false, .bool false])
      clear Lq
      generalize (w4.alloc (.cells #[.int .i64 0, .bool false, .int .i64 0] 23)).alloc (.cells #[.bool false, .bool false, .bool false, .bool false, .bool false, .bool false] 25) = w5 at L5 ⊢
      generalize w4.heap.size = b at L5 ⊢
      go_wp2_with fail
      refine (HA.out _).mono ?_
      rintro e w6 ⟨rfl, HU6⟩
      have HU7 := Lib.hid (L5.out.up.trans HU6.out)
      clear L5 HU6
      go_wp2_with fail
      go_ret
      exact ⟨rfl, HU7⟩
end Go.Proofs.Ytdhkbpnhbbedmaa
