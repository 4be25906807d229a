import Derived.Test.YtdhkbpnhbbedmaaWt7a
import Derived.Deep.DeepCutAuto
namespace Go.Proofs.Ytdhkbpnhbbedmaa
open Go Go.RowKit
set_option linter.unusedVariables false
set_option linter.unusedSimpArgs false
set_option maxRecDepth 100000 in
set_option maxHeartbeats 8000000 in
theorem law_trusts (nn : Nat) (hnn : nn < 256) (w : World) : Calls Try.prog 5 #[.int .u8 (nn : Int)] w (RetB true w) := by
  have HS0 := st_of ⟨3, false, 0⟩ ⟨4, true, 0⟩ 1 ⟨true, false, false, false, false, true⟩ rfl ⟨⟨by decide, by decide⟩, by decide, by decide⟩ (.inl rfl)
  have HA := Lib.hid (fun wx => answers_ok wx)
  go_enter Try.func5, Try.ntmps5
  go_wp2_with fail
  refine (HS0.out _).mono ?_
  rintro e w1 ⟨rfl, HU1⟩
  clear HS0
  go_upto_region 2 with (fail)
  have L1 := Lib.hid (L2.start HU1.out #[.int .i64 4, .bool true, .int .i64 0] #[.bool true, .bool false, .bool false, .bool false, .bool false, .bool true])
  clear HU1
  generalize (w1.alloc (.cells #[.int .i64 4, .bool true, .int .i64 0] 23)).alloc (.cells #[.bool true, .bool false, .bool false, .bool false, .bool false, .bool true] 25) = w2 at L1 ⊢
  generalize w1.heap.size = a at L1 ⊢
  go_wp2_with fail
  refine (HA.out _).mono ?_
  rintro e w3 ⟨rfl, HU3⟩
  have L3 := Lib.hid (L1.out.more HU3.out)
  clear L1 HU3 HA
  have k0 : w3.cell? ⟨a, 0, none⟩ = some (.int .i64 4) := cell_of L3.out.ha rfl
  have k1 : w3.cell? ⟨a, 1, none⟩ = some (.bool true) := cell_of L3.out.ha rfl
  have k2 : w3.cell? ⟨a, 2, none⟩ = some (.int .i64 0) := cell_of L3.out.ha rfl
  have s0 : w3.cell? ⟨(a + 1), 0, none⟩ = some (.bool true) := cell_of L3.out.hb rfl
  have s1 : w3.cell? ⟨(a + 1), 1, none⟩ = some (.bool false) := cell_of L3.out.hb rfl
  have s2 : w3.cell? ⟨(a + 1), 2, none⟩ = some (.bool false) := cell_of L3.out.hb rfl
  have s3 : w3.cell? ⟨(a + 1), 3, none⟩ = some (.bool false) := cell_of L3.out.hb rfl
  have s4 : w3.cell? ⟨(a + 1), 4, none⟩ = some (.bool false) := cell_of L3.out.hb rfl
  have s5 : w3.cell? ⟨(a + 1), 5, none⟩ = some (.bool true) := cell_of L3.out.hb rfl
  go_upto_region 5 with (fail)
  clear k0 k1 k2
  clear s0 s1 s2 s3 s4 s5
  go_loopw [6] (fun iv wr => ∃ (i : Nat) (y : Wt) (d : Du), iv = .int .i64 (i : Int) ∧ i ≤ 3 ∧ y = (if i = 3 then ⟨1, false, 0⟩ else ⟨4, true, (i : Int)⟩) ∧ (i = 3 → d = ⟨false, false, true, false, false, true⟩) ∧ Hid (L2 a (a + 1) y.cs #[.bool d.a, .bool d.f, .bool d.b, .bool d.c, .bool d.t, .bool d.w] w wr)) (fun iv _ => 3 - (intOf iv).toNat)
  case atStart => exact ⟨0, ⟨4, true, 0⟩, ⟨true, false, false, false, false, true⟩, rfl, by omega, rfl, by omega, L3⟩
  case round =>
    clear L3
    obtain ⟨i, y, d, hiv, hi, hy, hd, L4⟩ := hrel
    by_cases h3 : i = 3
    · subst h3
      replace hiv : _ = Value.int .i64 3 := hiv
      subst hiv
      obtain rfl := hd rfl
      obtain rfl : y = ⟨1, false, 0⟩ := hy
      clear hd hi
      have k0 : wr.cell? ⟨a, 0, none⟩ = some (.int .i64 1) := cell_of L4.out.ha rfl
      have k1 : wr.cell? ⟨a, 1, none⟩ = some (.bool false) := cell_of L4.out.ha rfl
      have k2 : wr.cell? ⟨a, 2, none⟩ = some (.int .i64 0) := cell_of L4.out.ha rfl
      have s0 : wr.cell? ⟨(a + 1), 0, none⟩ = some (.bool false) := cell_of L4.out.hb rfl
      have s1 : wr.cell? ⟨(a + 1), 1, none⟩ = some (.bool false) := cell_of L4.out.hb rfl
      have s2 : wr.cell? ⟨(a + 1), 2, none⟩ = some (.bool true) := cell_of L4.out.hb rfl
      have s3 : wr.cell? ⟨(a + 1), 3, none⟩ = some (.bool false) := cell_of L4.out.hb rfl
      have s4 : wr.cell? ⟨(a + 1), 4, none⟩ = some (.bool false) := cell_of L4.out.hb rfl
      have s5 : wr.cell? ⟨(a + 1), 5, none⟩ = some (.bool true) := cell_of L4.out.hb rfl
      go_wp2_with fail
      go_ret
      exact ⟨rfl, Lib.hid L4.out.up⟩
    · have hi' : i = 0 ∨ i = 1 ∨ i = 2 := by omega
      clear hd hi h3
      rcases hi' with rfl | rfl | rfl
      · obtain rfl : y = ⟨4, true, 0⟩ := hy
        replace hiv : _ = Value.int .i64 0 := hiv
        subst hiv
        
        have HO := st_of ⟨4, true, 0⟩ ⟨4, true, 0⟩ 4 ⟨false, false, false, false, false, false⟩ rfl ⟨⟨by decide, by decide⟩, by decide, by decide⟩ (by unfold Ev; omega)
        go_upto_region 8 with (fail)
        go_loopw [7] (fun kv wr => ∃ k : Nat, kv = .int .i64 (k : Int) ∧ k ≤ nn % 4 ∧ Hid (L2 a (a + 1) #[.int .i64 4, .bool true, .int .i64 0] #[.bool d.a, .bool d.f, .bool d.b, .bool d.c, .bool d.t, .bool d.w] w wr)) (fun kv _ => nn % 4 - (intOf kv).toNat)
        case atStart => exact ⟨0, rfl, by omega, L4⟩
        case round =>
          clear L4
          obtain ⟨k, rfl, hk, L5⟩ := hrel
          by_cases hlt : k < nn % 4
          · have d1 : decide ((k : Int) < (nn : Int) % 4) = true := by simp; omega
            have k0 : wr.cell? ⟨a, 0, none⟩ = some (.int .i64 4) := cell_of L5.out.ha rfl
            have k1 : wr.cell? ⟨a, 1, none⟩ = some (.bool true) := cell_of L5.out.ha rfl
            have k2 : wr.cell? ⟨a, 2, none⟩ = some (.int .i64 0) := cell_of L5.out.ha rfl
            have fa : ∀ j, wr.frozen? ⟨a, j, none⟩ = false := fun j => frozen_at L5.out.ha
            go_wp2_with fail
            refine (HO.out _).mono ?_
            rintro e w4 ⟨rfl, HU4⟩
            have L6 := Lib.hid (L5.out.more HU4.out)
            clear L5 HU4 fa
            clear k0 k1 k2
            have k0 : w4.cell? ⟨a, 0, none⟩ = some (.int .i64 4) := cell_of L6.out.ha rfl
            have k1 : w4.cell? ⟨a, 1, none⟩ = some (.bool true) := cell_of L6.out.ha rfl
            have k2 : w4.cell? ⟨a, 2, none⟩ = some (.int .i64 0) := cell_of L6.out.ha rfl
            have fa : ∀ j, w4.frozen? ⟨a, j, none⟩ = false := fun j => frozen_at L6.out.ha
            go_wp2_with fail
            go_roundw
            case rel => exact ⟨k + 1, by go_num, by omega, Lib.hid (((L6.out.seta 0 (.int .i64 4)).seta 1 (.bool true)).seta 2 (.int .i64 0))⟩
            case measure => simp [intOf]; omega
          · have d1 : decide ((k : Int) < (nn : Int) % 4) = false := by simp; omega
            clear hlt HO
            have HN := st_of ⟨4, true, 0⟩ ⟨4, false, 1⟩ 3 ⟨false, false, false, false, false, false⟩ rfl ⟨⟨by decide, by decide⟩, by decide, by decide⟩ (by unfold Ev; omega)
            have k0 : wr.cell? ⟨a, 0, none⟩ = some (.int .i64 4) := cell_of L5.out.ha rfl
            have k1 : wr.cell? ⟨a, 1, none⟩ = some (.bool true) := cell_of L5.out.ha rfl
            have k2 : wr.cell? ⟨a, 2, none⟩ = some (.int .i64 0) := cell_of L5.out.ha rfl
            have fa : ∀ j, wr.frozen? ⟨a, j, none⟩ = false := fun j => frozen_at L5.out.ha
            have fb : ∀ j, wr.frozen? ⟨a + 1, j, none⟩ = false := fun j => frozen_at L5.out.hb
            have s0 : wr.cell? ⟨(a + 1), 0, none⟩ = some (.bool d.a) := cell_of L5.out.hb rfl
            have s1 : wr.cell? ⟨(a + 1), 1, none⟩ = some (.bool d.f) := cell_of L5.out.hb rfl
            have s2 : wr.cell? ⟨(a + 1), 2, none⟩ = some (.bool d.b) := cell_of L5.out.hb rfl
            have s3 : wr.cell? ⟨(a + 1), 3, none⟩ = some (.bool d.c) := cell_of L5.out.hb rfl
            have s4 : wr.cell? ⟨(a + 1), 4, none⟩ = some (.bool d.t) := cell_of L5.out.hb rfl
            have s5 : wr.cell? ⟨(a + 1), 5, none⟩ = some (.bool d.w) := cell_of L5.out.hb rfl
            go_wp2_with fail
            refine (HN.out _).mono ?_
            rintro e w4 ⟨rfl, HU4⟩
            have L6 := Lib.hid (L5.out.more HU4.out)
            clear L5 HU4 fa fb HN
            clear k0 k1 k2
            clear s0 s1 s2 s3 s4 s5
            have k0 : w4.cell? ⟨a, 0, none⟩ = some (.int .i64 4) := cell_of L6.out.ha rfl
            have k1 : w4.cell? ⟨a, 1, none⟩ = some (.bool true) := cell_of L6.out.ha rfl
            have k2 : w4.cell? ⟨a, 2, none⟩ = some (.int .i64 0) := cell_of L6.out.ha rfl
            have s0 : w4.cell? ⟨(a + 1), 0, none⟩ = some (.bool d.a) := cell_of L6.out.hb rfl
            have s1 : w4.cell? ⟨(a + 1), 1, none⟩ = some (.bool d.f) := cell_of L6.out.hb rfl
            have s2 : w4.cell? ⟨(a + 1), 2, none⟩ = some (.bool d.b) := cell_of L6.out.hb rfl
            have s3 : w4.cell? ⟨(a + 1), 3, none⟩ = some (.bool d.c) := cell_of L6.out.hb rfl
            have s4 : w4.cell? ⟨(a + 1), 4, none⟩ = some (.bool d.t) := cell_of L6.out.hb rfl
            have s5 : w4.cell? ⟨(a + 1), 5, none⟩ = some (.bool d.w) := cell_of L6.out.hb rfl
            have fa : ∀ j, w4.frozen? ⟨a, j, none⟩ = false := fun j => frozen_at L6.out.ha
            have fb : ∀ j, w4.frozen? ⟨a + 1, j, none⟩ = false := fun j => frozen_at L6.out.hb
            go_upto_region 14 with (fail)
            have L7 := Lib.hid ((((L6.out.seta 0 (.int .i64 4)).seta 1 (.bool false)).seta 2 (.int .i64 1)).set6 (.bool false) (.bool false) (.bool false) (.bool false) (.bool false) (.bool false))
            clear fa fb L6
            clear k0 k1 k2
            clear s0 s1 s2 s3 s4 s5
            generalize (((((((((w4.setCell ⟨a, 0, none⟩ (.int .i64 4)).setCell ⟨a, 1, none⟩ (.bool false)).setCell ⟨a, 2, none⟩ (.int .i64 1)).setCell ⟨a + 1, 0, none⟩ (.bool false)).setCell ⟨a + 1, 1, none⟩ (.bool false)).setCell ⟨a + 1, 2, none⟩ (.bool false)).setCell ⟨a + 1, 3, none⟩ (.bool false)).setCell ⟨a + 1, 4, none⟩ (.bool false)).setCell ⟨a + 1, 5, none⟩ (.bool false)) = w5 at L7 ⊢
            have HM := st_of ⟨4, false, 1⟩ ⟨4, true, 1⟩ 5 ⟨true, false, false, false, false, true⟩ rfl ⟨⟨by decide, by decide⟩, by decide, by decide⟩ (by unfold Ev; omega)
            have k0 : w5.cell? ⟨a, 0, none⟩ = some (.int .i64 4) := cell_of L7.out.ha rfl
            have k1 : w5.cell? ⟨a, 1, none⟩ = some (.bool false) := cell_of L7.out.ha rfl
            have k2 : w5.cell? ⟨a, 2, none⟩ = some (.int .i64 1) := cell_of L7.out.ha rfl
            have fa : ∀ j, w5.frozen? ⟨a, j, none⟩ = false := fun j => frozen_at L7.out.ha
            have fb : ∀ j, w5.frozen? ⟨a + 1, j, none⟩ = false := fun j => frozen_at L7.out.hb
            have s0 : w5.cell? ⟨(a + 1), 0, none⟩ = some (.bool false) := cell_of L7.out.hb rfl
            have s1 : w5.cell? ⟨(a + 1), 1, none⟩ = some (.bool false) := cell_of L7.out.hb rfl
            have s2 : w5.cell? ⟨(a + 1), 2, none⟩ = some (.bool false) := cell_of L7.out.hb rfl
            have s3 : w5.cell? ⟨(a + 1), 3, none⟩ = some (.bool false) := cell_of L7.out.hb rfl
            have s4 : w5.cell? ⟨(a + 1), 4, none⟩ = some (.bool false) := cell_of L7.out.hb rfl
            have s5 : w5.cell? ⟨(a + 1), 5, none⟩ = some (.bool false) := cell_of L7.out.hb rfl
            go_wp2_with fail
            refine (HM.out _).mono ?_
            rintro e w6 ⟨rfl, HU6⟩
            have L8 := Lib.hid (L7.out.more HU6.out)
            clear L7 HU6 fa fb HM
            clear k0 k1 k2
            clear s0 s1 s2 s3 s4 s5
            have k0 : w6.cell? ⟨a, 0, none⟩ = some (.int .i64 4) := cell_of L8.out.ha rfl
            have k1 : w6.cell? ⟨a, 1, none⟩ = some (.bool false) := cell_of L8.out.ha rfl
            have k2 : w6.cell? ⟨a, 2, none⟩ = some (.int .i64 1) := cell_of L8.out.ha rfl
            have s0 : w6.cell? ⟨(a + 1), 0, none⟩ = some (.bool false) := cell_of L8.out.hb rfl
            have s1 : w6.cell? ⟨(a + 1), 1, none⟩ = some (.bool false) := cell_of L8.out.hb rfl
            have s2 : w6.cell? ⟨(a + 1), 2, none⟩ = some (.bool false) := cell_of L8.out.hb rfl
            have s3 : w6.cell? ⟨(a + 1), 3, none⟩ = some (.bool false) := cell_of L8.out.hb rfl
            have s4 : w6.cell? ⟨(a + 1), 4, none⟩ = some (.bool false) := cell_of L8.out.hb rfl
            have s5 : w6.cell? ⟨(a + 1), 5, none⟩ = some (.bool false) := cell_of L8.out.hb rfl
            have fa : ∀ j, w6.frozen? ⟨a, j, none⟩ = false := fun j => frozen_at L8.out.ha
            have fb : ∀ j, w6.frozen? ⟨a + 1, j, none⟩ = false := fun j => frozen_at L8.out.hb
            go_upto_region 18 with (fail)
            have L9 := Lib.hid ((((L8.out.seta 0 (.int .i64 4)).seta 1 (.bool true)).seta 2 (.int .i64 1)).set6 (.bool true) (.bool false) (.bool false) (.bool false) (.bool false) (.bool true))
            clear fa fb L8
            clear k0 k1 k2
            clear s0 s1 s2 s3 s4 s5
            generalize (((((((((w6.setCell ⟨a, 0, none⟩ (.int .i64 4)).setCell ⟨a, 1, none⟩ (.bool true)).setCell ⟨a, 2, none⟩ (.int .i64 1)).setCell ⟨a + 1, 0, none⟩ (.bool true)).setCell ⟨a + 1, 1, none⟩ (.bool false)).setCell ⟨a + 1, 2, none⟩ (.bool false)).setCell ⟨a + 1, 3, none⟩ (.bool false)).setCell ⟨a + 1, 4, none⟩ (.bool false)).setCell ⟨a + 1, 5, none⟩ (.bool true)) = w7 at L9 ⊢
            have k0 : w7.cell? ⟨a, 0, none⟩ = some (.int .i64 4) := cell_of L9.out.ha rfl
            have k1 : w7.cell? ⟨a, 1, none⟩ = some (.bool true) := cell_of L9.out.ha rfl
            have k2 : w7.cell? ⟨a, 2, none⟩ = some (.int .i64 1) := cell_of L9.out.ha rfl
            have s0 : w7.cell? ⟨(a + 1), 0, none⟩ = some (.bool true) := cell_of L9.out.hb rfl
            have s1 : w7.cell? ⟨(a + 1), 1, none⟩ = some (.bool false) := cell_of L9.out.hb rfl
            have s2 : w7.cell? ⟨(a + 1), 2, none⟩ = some (.bool false) := cell_of L9.out.hb rfl
            have s3 : w7.cell? ⟨(a + 1), 3, none⟩ = some (.bool false) := cell_of L9.out.hb rfl
            have s4 : w7.cell? ⟨(a + 1), 4, none⟩ = some (.bool false) := cell_of L9.out.hb rfl
            have s5 : w7.cell? ⟨(a + 1), 5, none⟩ = some (.bool true) := cell_of L9.out.hb rfl
            go_wp2_with fail
            go_roundw
            case rel => exact ⟨1, ⟨4, true, 1⟩, ⟨true, false, false, false, false, true⟩, rfl, by omega, rfl, by omega, L9⟩
            case measure => simp [intOf]
      · obtain rfl : y = ⟨4, true, 1⟩ := hy
        replace hiv : _ = Value.int .i64 1 := hiv
        subst hiv
        
        have HO := st_of ⟨4, true, 1⟩ ⟨4, true, 1⟩ 4 ⟨false, false, false, false, false, false⟩ rfl ⟨⟨by decide, by decide⟩, by decide, by decide⟩ (by unfold Ev; omega)
        go_upto_region 8 with (fail)
        go_loopw [7] (fun kv wr => ∃ k : Nat, kv = .int .i64 (k : Int) ∧ k ≤ nn % 4 ∧ Hid (L2 a (a + 1) #[.int .i64 4, .bool true, .int .i64 1] #[.bool d.a, .bool d.f, .bool d.b, .bool d.c, .bool d.t, .bool d.w] w wr)) (fun kv _ => nn % 4 - (intOf kv).toNat)
        case atStart => exact ⟨0, rfl, by omega, L4⟩
        case round =>
          clear L4
          obtain ⟨k, rfl, hk, L5⟩ := hrel
          by_cases hlt : k < nn % 4
          · have d1 : decide ((k : Int) < (nn : Int) % 4) = true := by simp; omega
            have k0 : wr.cell? ⟨a, 0, none⟩ = some (.int .i64 4) := cell_of L5.out.ha rfl
            have k1 : wr.cell? ⟨a, 1, none⟩ = some (.bool true) := cell_of L5.out.ha rfl
            have k2 : wr.cell? ⟨a, 2, none⟩ = some (.int .i64 1) := cell_of L5.out.ha rfl
            have fa : ∀ j, wr.frozen? ⟨a, j, none⟩ = false := fun j => frozen_at L5.out.ha
            go_wp2_with fail
            refine (HO.out _).mono ?_
            rintro e w4 ⟨rfl, HU4⟩
            have L6 := Lib.hid (L5.out.more HU4.out)
            clear L5 HU4 fa
            clear k0 k1 k2
            have k0 : w4.cell? ⟨a, 0, none⟩ = some (.int .i64 4) := cell_of L6.out.ha rfl
            have k1 : w4.cell? ⟨a, 1, none⟩ = some (.bool true) := cell_of L6.out.ha rfl
            have k2 : w4.cell? ⟨a, 2, none⟩ = some (.int .i64 1) := cell_of L6.out.ha rfl
            have fa : ∀ j, w4.frozen? ⟨a, j, none⟩ = false := fun j => frozen_at L6.out.ha
            go_wp2_with fail
            go_roundw
            case rel => exact ⟨k + 1, by go_num, by omega, Lib.hid (((L6.out.seta 0 (.int .i64 4)).seta 1 (.bool true)).seta 2 (.int .i64 1))⟩
            case measure => simp [intOf]; omega
          · have d1 : decide ((k : Int) < (nn : Int) % 4) = false := by simp; omega
            clear hlt HO
            have HN := st_of ⟨4, true, 1⟩ ⟨4, false, 2⟩ 3 ⟨false, false, false, false, false, false⟩ rfl ⟨⟨by decide, by decide⟩, by decide, by decide⟩ (by unfold Ev; omega)
            have k0 : wr.cell? ⟨a, 0, none⟩ = some (.int .i64 4) := cell_of L5.out.ha rfl
            have k1 : wr.cell? ⟨a, 1, none⟩ = some (.bool true) := cell_of L5.out.ha rfl
            have k2 : wr.cell? ⟨a, 2, none⟩ = some (.int .i64 1) := cell_of L5.out.ha rfl
            have fa : ∀ j, wr.frozen? ⟨a, j, none⟩ = false := fun j => frozen_at L5.out.ha
            have fb : ∀ j, wr.frozen? ⟨a + 1, j, none⟩ = false := fun j => frozen_at L5.out.hb
            have s0 : wr.cell? ⟨(a + 1), 0, none⟩ = some (.bool d.a) := cell_of L5.out.hb rfl
            have s1 : wr.cell? ⟨(a + 1), 1, none⟩ = some (.bool d.f) := cell_of L5.out.hb rfl
            have s2 : wr.cell? ⟨(a + 1), 2, none⟩ = some (.bool d.b) := cell_of L5.out.hb rfl
            have s3 : wr.cell? ⟨(a + 1), 3, none⟩ = some (.bool d.c) := cell_of L5.out.hb rfl
            have s4 : wr.cell? ⟨(a + 1), 4, none⟩ = some (.bool d.t) := cell_of L5.out.hb rfl
            have s5 : wr.cell? ⟨(a + 1), 5, none⟩ = some (.bool d.w) := cell_of L5.out.hb rfl
            go_wp2_with fail
            refine (HN.out _).mono ?_
            rintro e w4 ⟨rfl, HU4⟩
            have L6 := Lib.hid (L5.out.more HU4.out)
            clear L5 HU4 fa fb HN
            clear k0 k1 k2
            clear s0 s1 s2 s3 s4 s5
            have k0 : w4.cell? ⟨a, 0, none⟩ = some (.int .i64 4) := cell_of L6.out.ha rfl
            have k1 : w4.cell? ⟨a, 1, none⟩ = some (.bool true) := cell_of L6.out.ha rfl
            have k2 : w4.cell? ⟨a, 2, none⟩ = some (.int .i64 1) := cell_of L6.out.ha rfl
            have s0 : w4.cell? ⟨(a + 1), 0, none⟩ = some (.bool d.a) := cell_of L6.out.hb rfl
            have s1 : w4.cell? ⟨(a + 1), 1, none⟩ = some (.bool d.f) := cell_of L6.out.hb rfl
            have s2 : w4.cell? ⟨(a + 1), 2, none⟩ = some (.bool d.b) := cell_of L6.out.hb rfl
            have s3 : w4.cell? ⟨(a + 1), 3, none⟩ = some (.bool d.c) := cell_of L6.out.hb rfl
            have s4 : w4.cell? ⟨(a + 1), 4, none⟩ = some (.bool d.t) := cell_of L6.out.hb rfl
            have s5 : w4.cell? ⟨(a + 1), 5, none⟩ = some (.bool d.w) := cell_of L6.out.hb rfl
            have fa : ∀ j, w4.frozen? ⟨a, j, none⟩ = false := fun j => frozen_at L6.out.ha
            have fb : ∀ j, w4.frozen? ⟨a + 1, j, none⟩ = false := fun j => frozen_at L6.out.hb
            go_upto_region 14 with (fail)
            have L7 := Lib.hid ((((L6.out.seta 0 (.int .i64 4)).seta 1 (.bool false)).seta 2 (.int .i64 2)).set6 (.bool false) (.bool false) (.bool false) (.bool false) (.bool false) (.bool false))
            clear fa fb L6
            clear k0 k1 k2
            clear s0 s1 s2 s3 s4 s5
            generalize (((((((((w4.setCell ⟨a, 0, none⟩ (.int .i64 4)).setCell ⟨a, 1, none⟩ (.bool false)).setCell ⟨a, 2, none⟩ (.int .i64 2)).setCell ⟨a + 1, 0, none⟩ (.bool false)).setCell ⟨a + 1, 1, none⟩ (.bool false)).setCell ⟨a + 1, 2, none⟩ (.bool false)).setCell ⟨a + 1, 3, none⟩ (.bool false)).setCell ⟨a + 1, 4, none⟩ (.bool false)).setCell ⟨a + 1, 5, none⟩ (.bool false)) = w5 at L7 ⊢
            have HM := st_of ⟨4, false, 2⟩ ⟨4, true, 2⟩ 5 ⟨true, false, false, false, false, true⟩ rfl ⟨⟨by decide, by decide⟩, by decide, by decide⟩ (by unfold Ev; omega)
            have k0 : w5.cell? ⟨a, 0, none⟩ = some (.int .i64 4) := cell_of L7.out.ha rfl
            have k1 : w5.cell? ⟨a, 1, none⟩ = some (.bool false) := cell_of L7.out.ha rfl
            have k2 : w5.cell? ⟨a, 2, none⟩ = some (.int .i64 2) := cell_of L7.out.ha rfl
            have fa : ∀ j, w5.frozen? ⟨a, j, none⟩ = false := fun j => frozen_at L7.out.ha
            have fb : ∀ j, w5.frozen? ⟨a + 1, j, none⟩ = false := fun j => frozen_at L7.out.hb
            have s0 : w5.cell? ⟨(a + 1), 0, none⟩ = some (.bool false) := cell_of L7.out.hb rfl
            have s1 : w5.cell? ⟨(a + 1), 1, none⟩ = some (.bool false) := cell_of L7.out.hb rfl
            have s2 : w5.cell? ⟨(a + 1), 2, none⟩ = some (.bool false) := cell_of L7.out.hb rfl
            have s3 : w5.cell? ⟨(a + 1), 3, none⟩ = some (.bool false) := cell_of L7.out.hb rfl
            have s4 : w5.cell? ⟨(a + 1), 4, none⟩ = some (.bool false) := cell_of L7.out.hb rfl
            have s5 : w5.cell? ⟨(a + 1), 5, none⟩ = some (.bool false) := cell_of L7.out.hb rfl
            go_wp2_with fail
            refine (HM.out _).mono ?_
            rintro e w6 ⟨rfl, HU6⟩
            have L8 := Lib.hid (L7.out.more HU6.out)
            clear L7 HU6 fa fb HM
            clear k0 k1 k2
            clear s0 s1 s2 s3 s4 s5
            have k0 : w6.cell? ⟨a, 0, none⟩ = some (.int .i64 4) := cell_of L8.out.ha rfl
            have k1 : w6.cell? ⟨a, 1, none⟩ = some (.bool false) := cell_of L8.out.ha rfl
            have k2 : w6.cell? ⟨a, 2, none⟩ = some (.int .i64 2) := cell_of L8.out.ha rfl
            have s0 : w6.cell? ⟨(a + 1), 0, none⟩ = some (.bool false) := cell_of L8.out.hb rfl
            have s1 : w6.cell? ⟨(a + 1), 1, none⟩ = some (.bool false) := cell_of L8.out.hb rfl
            have s2 : w6.cell? ⟨(a + 1), 2, none⟩ = some (.bool false) := cell_of L8.out.hb rfl
            have s3 : w6.cell? ⟨(a + 1), 3, none⟩ = some (.bool false) := cell_of L8.out.hb rfl
            have s4 : w6.cell? ⟨(a + 1), 4, none⟩ = some (.bool false) := cell_of L8.out.hb rfl
            have s5 : w6.cell? ⟨(a + 1), 5, none⟩ = some (.bool false) := cell_of L8.out.hb rfl
            have fa : ∀ j, w6.frozen? ⟨a, j, none⟩ = false := fun j => frozen_at L8.out.ha
            have fb : ∀ j, w6.frozen? ⟨a + 1, j, none⟩ = false := fun j => frozen_at L8.out.hb
            go_upto_region 18 with (fail)
            have L9 := Lib.hid ((((L8.out.seta 0 (.int .i64 4)).seta 1 (.bool true)).seta 2 (.int .i64 2)).set6 (.bool true) (.bool false) (.bool false) (.bool false) (.bool false) (.bool true))
            clear fa fb L8
            clear k0 k1 k2
            clear s0 s1 s2 s3 s4 s5
            generalize (((((((((w6.setCell ⟨a, 0, none⟩ (.int .i64 4)).setCell ⟨a, 1, none⟩ (.bool true)).setCell ⟨a, 2, none⟩ (.int .i64 2)).setCell ⟨a + 1, 0, none⟩ (.bool true)).setCell ⟨a + 1, 1, none⟩ (.bool false)).setCell ⟨a + 1, 2, none⟩ (.bool false)).setCell ⟨a + 1, 3, none⟩ (.bool false)).setCell ⟨a + 1, 4, none⟩ (.bool false)).setCell ⟨a + 1, 5, none⟩ (.bool true)) = w7 at L9 ⊢
            have k0 : w7.cell? ⟨a, 0, none⟩ = some (.int .i64 4) := cell_of L9.out.ha rfl
            have k1 : w7.cell? ⟨a, 1, none⟩ = some (.bool true) := cell_of L9.out.ha rfl
            have k2 : w7.cell? ⟨a, 2, none⟩ = some (.int .i64 2) := cell_of L9.out.ha rfl
            have s0 : w7.cell? ⟨(a + 1), 0, none⟩ = some (.bool true) := cell_of L9.out.hb rfl
            have s1 : w7.cell? ⟨(a + 1), 1, none⟩ = some (.bool false) := cell_of L9.out.hb rfl
            have s2 : w7.cell? ⟨(a + 1), 2, none⟩ = some (.bool false) := cell_of L9.out.hb rfl
            have s3 : w7.cell? ⟨(a + 1), 3, none⟩ = some (.bool false) := cell_of L9.out.hb rfl
            have s4 : w7.cell? ⟨(a + 1), 4, none⟩ = some (.bool false) := cell_of L9.out.hb rfl
            have s5 : w7.cell? ⟨(a + 1), 5, none⟩ = some (.bool true) := cell_of L9.out.hb rfl
            go_wp2_with fail
            go_roundw
            case rel => exact ⟨2, ⟨4, true, 2⟩, ⟨true, false, false, false, false, true⟩, rfl, by omega, rfl, by omega, L9⟩
            case measure => simp [intOf]
      · obtain rfl : y = ⟨4, true, 2⟩ := hy
        replace hiv : _ = Value.int .i64 2 := hiv
        subst hiv
        
        have HO := st_of ⟨4, true, 2⟩ ⟨4, true, 2⟩ 4 ⟨false, false, false, false, false, false⟩ rfl ⟨⟨by decide, by decide⟩, by decide, by decide⟩ (by unfold Ev; omega)
        go_upto_region 8 with (fail)
        go_loopw [7] (fun kv wr => ∃ k : Nat, kv = .int .i64 (k : Int) ∧ k ≤ nn % 4 ∧ Hid (L2 a (a + 1) #[.int .i64 4, .bool true, .int .i64 2] #[.bool d.a, .bool d.f, .bool d.b, .bool d.c, .bool d.t, .bool d.w] w wr)) (fun kv _ => nn % 4 - (intOf kv).toNat)
        case atStart => exact ⟨0, rfl, by omega, L4⟩
        case round =>
          clear L4
          obtain ⟨k, rfl, hk, L5⟩ := hrel
          by_cases hlt : k < nn % 4
          · have d1 : decide ((k : Int) < (nn : Int) % 4) = true := by simp; omega
            have k0 : wr.cell? ⟨a, 0, none⟩ = some (.int .i64 4) := cell_of L5.out.ha rfl
            have k1 : wr.cell? ⟨a, 1, none⟩ = some (.bool true) := cell_of L5.out.ha rfl
            have k2 : wr.cell? ⟨a, 2, none⟩ = some (.int .i64 2) := cell_of L5.out.ha rfl
            have fa : ∀ j, wr.frozen? ⟨a, j, none⟩ = false := fun j => frozen_at L5.out.ha
            go_wp2_with fail
            refine (HO.out _).mono ?_
            rintro e w4 ⟨rfl, HU4⟩
            have L6 := Lib.hid (L5.out.more HU4.out)
            clear L5 HU4 fa
            clear k0 k1 k2
            have k0 : w4.cell? ⟨a, 0, none⟩ = some (.int .i64 4) := cell_of L6.out.ha rfl
            have k1 : w4.cell? ⟨a, 1, none⟩ = some (.bool true) := cell_of L6.out.ha rfl
            have k2 : w4.cell? ⟨a, 2, none⟩ = some (.int .i64 2) := cell_of L6.out.ha rfl
            have fa : ∀ j, w4.frozen? ⟨a, j, none⟩ = false := fun j => frozen_at L6.out.ha
            go_wp2_with fail
            go_roundw
            case rel => exact ⟨k + 1, by go_num, by omega, Lib.hid (((L6.out.seta 0 (.int .i64 4)).seta 1 (.bool true)).seta 2 (.int .i64 2))⟩
            case measure => simp [intOf]; omega
          · have d1 : decide ((k : Int) < (nn : Int) % 4) = false := by simp; omega
            clear hlt HO
            have HN := st_of ⟨4, true, 2⟩ ⟨1, false, 0⟩ 3 ⟨false, false, true, false, false, true⟩ rfl ⟨⟨by decide, by decide⟩, by decide, by decide⟩ (by unfold Ev; omega)
            have k0 : wr.cell? ⟨a, 0, none⟩ = some (.int .i64 4) := cell_of L5.out.ha rfl
            have k1 : wr.cell? ⟨a, 1, none⟩ = some (.bool true) := cell_of L5.out.ha rfl
            have k2 : wr.cell? ⟨a, 2, none⟩ = some (.int .i64 2) := cell_of L5.out.ha rfl
            have fa : ∀ j, wr.frozen? ⟨a, j, none⟩ = false := fun j => frozen_at L5.out.ha
            have fb : ∀ j, wr.frozen? ⟨a + 1, j, none⟩ = false := fun j => frozen_at L5.out.hb
            have s0 : wr.cell? ⟨(a + 1), 0, none⟩ = some (.bool d.a) := cell_of L5.out.hb rfl
            have s1 : wr.cell? ⟨(a + 1), 1, none⟩ = some (.bool d.f) := cell_of L5.out.hb rfl
            have s2 : wr.cell? ⟨(a + 1), 2, none⟩ = some (.bool d.b) := cell_of L5.out.hb rfl
            have s3 : wr.cell? ⟨(a + 1), 3, none⟩ = some (.bool d.c) := cell_of L5.out.hb rfl
            have s4 : wr.cell? ⟨(a + 1), 4, none⟩ = some (.bool d.t) := cell_of L5.out.hb rfl
            have s5 : wr.cell? ⟨(a + 1), 5, none⟩ = some (.bool d.w) := cell_of L5.out.hb rfl
            go_wp2_with fail
            refine (HN.out _).mono ?_
            rintro e w4 ⟨rfl, HU4⟩
            have L6 := Lib.hid (L5.out.more HU4.out)
            clear L5 HU4 fa fb HN
            clear k0 k1 k2
            clear s0 s1 s2 s3 s4 s5
            have k0 : w4.cell? ⟨a, 0, none⟩ = some (.int .i64 4) := cell_of L6.out.ha rfl
            have k1 : w4.cell? ⟨a, 1, none⟩ = some (.bool true) := cell_of L6.out.ha rfl
            have k2 : w4.cell? ⟨a, 2, none⟩ = some (.int .i64 2) := cell_of L6.out.ha rfl
            have s0 : w4.cell? ⟨(a + 1), 0, none⟩ = some (.bool d.a) := cell_of L6.out.hb rfl
            have s1 : w4.cell? ⟨(a + 1), 1, none⟩ = some (.bool d.f) := cell_of L6.out.hb rfl
            have s2 : w4.cell? ⟨(a + 1), 2, none⟩ = some (.bool d.b) := cell_of L6.out.hb rfl
            have s3 : w4.cell? ⟨(a + 1), 3, none⟩ = some (.bool d.c) := cell_of L6.out.hb rfl
            have s4 : w4.cell? ⟨(a + 1), 4, none⟩ = some (.bool d.t) := cell_of L6.out.hb rfl
            have s5 : w4.cell? ⟨(a + 1), 5, none⟩ = some (.bool d.w) := cell_of L6.out.hb rfl
            have fa : ∀ j, w4.frozen? ⟨a, j, none⟩ = false := fun j => frozen_at L6.out.ha
            have fb : ∀ j, w4.frozen? ⟨a + 1, j, none⟩ = false := fun j => frozen_at L6.out.hb
            go_wp2_with fail
            go_roundw
            case rel => exact ⟨3, ⟨1, false, 0⟩, ⟨false, false, true, false, false, true⟩, rfl, by omega, rfl, fun _ => rfl, Lib.hid ((((L6.out.seta 0 (.int .i64 1)).seta 1 (.bool false)).seta 2 (.int .i64 0)).set6 (.bool false) (.bool false) (.bool true) (.bool false) (.bool false) (.bool true))⟩
            case measure => simp [intOf]
end Go.Proofs.Ytdhkbpnhbbedmaa
