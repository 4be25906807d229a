import Derived.Test.YtdhkbpnhbbedmaaWt8
import Derived.Deep.DeepCutAuto
namespace Go.Proofs.Ytdhkbpnhbbedmaa
open Go Go.RowKit
set_option linter.unusedVariables false
set_option linter.unusedSimpArgs false
/-- What a step keeps. -/
theorem step_facts (y : Wt) (ev : Int) (hy : y.Ok) (hev : Ev ev) : (stepM y ev).1.Ok ∧ ((stepM y ev).2.b = true → (stepM y ev).1.s = 1 ∧ y.s ≠ 0 ∧ (stepM y ev).2.f = false) ∧ ((stepM y ev).2.f = true → (stepM y ev).1.s ≠ 1 ∧ (stepM y ev).1.s ≠ 0 ∧ y.s = 1) ∧
    ((stepM y ev).2.b = false → (stepM y ev).1.s = 1 → y.s = 0 ∨ y.s = 1) ∧ ((stepM y ev).1.s = 0 → y.s = 0) := by
  obtain ⟨s, p, n⟩ := y
  obtain ⟨⟨hs1, hs2⟩, hn1, hn2⟩ := hy
  dsimp only at hs1 hs2 hn1 hn2
  have hs : s = 0 ∨ s = 1 ∨ s = 2 ∨ s = 3 ∨ s = 4 := by omega
  rcases hs with rfl | rfl | rfl | rfl | rfl <;> rcases hev with rfl | rfl | rfl | rfl | rfl <;> cases p <;> simp [stepM, iniM, okaM, susM, gonM, reoM, Wt.Ok] <;> (try split) <;> (try simp) <;> (try omega)
/-- How many alarms until it is given up. -/
def leftA (y : Wt) : Nat := if y.s = 2 then 1 else if y.s = 1 then (if y.p = true then 2 else 3) else if y.s = 4 then (if y.p = true then (if y.n = -1 then 1 else 2) else 3) else 0
theorem left_le (y : Wt) : leftA y ≤ 3 := by
  unfold leftA
  split
  · omega
  split
  · split <;> omega
  split
  · split
    · split <;> omega
    · omega
  · omega
theorem left_zero {y : Wt} (hy : y.Ok) (h : leftA y = 0) : y.s = 3 ∨ y.s = 0 := by
  obtain ⟨⟨h1, h2⟩, _⟩ := hy
  unfold leftA at h
  by_cases e2 : y.s = 2
  · rw [if_pos e2] at h; omega
  rw [if_neg e2] at h
  by_cases e1 : y.s = 1
  · rw [if_pos e1] at h; split at h <;> omega
  rw [if_neg e1] at h
  by_cases e4 : y.s = 4
  · rw [if_pos e4] at h
    split at h
    · split at h <;> omega
    · omega
  omega
theorem left_step {y : Wt} (hy : y.Ok) (h3 : y.s ≠ 3) (h0 : y.s ≠ 0) : leftA (stepM y 5).1 + 1 ≤ leftA y := by
  obtain ⟨s, p, n⟩ := y
  obtain ⟨⟨hs1, hs2⟩, hn1, hn2⟩ := hy
  dsimp only at hs1 hs2 hn1 hn2 h3 h0
  have hs : s = 1 ∨ s = 2 ∨ s = 4 := by omega
  rcases hs with rfl | rfl | rfl <;> cases p <;> simp [stepM, iniM, okaM, susM, gonM, reoM, leftA]
  all_goals (by_cases hn : n = -1 <;> simp [hn])
/-- What the walk knows of the watch and of the flag. -/
def Inv (y : Wt) (fl : Bool) : Prop := y.Ok ∧ (y.s = 0 ∨ y.s = 1 → fl = false)
set_option maxRecDepth 100000 in
set_option maxHeartbeats 16000000 in
theorem law_walks (A : Option Addr) (n c : Nat) (xs : List Int) (w : World) (hin : InB w A n c xs) : Calls Try.prog 4 #[.slice A n c] w (RetB true w) := by
  have HIn := Lib.hid hin
  clear hin
  have HA := Lib.hid (fun wx => answers_ok wx)
  go_enter Try.func4, Try.ntmps4
  go_upto_region 2 with (fail)
  have Ls := Lib.hid (L1.start w #[.int .i64 0, .bool false, .int .i64 0])
  generalize w.alloc (.cells #[.int .i64 0, .bool false, .int .i64 0] 23) = w1 at Ls ⊢
  generalize w.heap.size = a at Ls ⊢
  go_upto_region 4 with (fail)
  go_loopw [4, 5] (fun fv iv wr => ∃ (i : Nat) (y : Wt) (fl : Bool), fv = .bool fl ∧ iv = .int .i64 (i : Int) ∧ i ≤ n ∧ i ≤ 300 ∧ Hid (Inv y fl) ∧ Hid (L1 a y.cs w wr)) (fun _ iv _ => 300 - (intOf iv).toNat)
  case atStart => exact ⟨0, W0, false, rfl, rfl, by omega, by omega, Lib.hid ⟨⟨⟨by decide, by decide⟩, by decide, by decide⟩, fun _ => rfl⟩, Ls⟩
  case round =>
    clear Ls
    obtain ⟨i, y, fl, rfl, rfl, hin, hi3, HI, Lr⟩ := hrel
    by_cases hlt : i < n ∧ i < 300
    · obtain ⟨h1, h2⟩ := hlt
      have d1 : decide ((i : Int) < (n : Int)) = true := by simp; omega
      have d2 : decide ((i : Int) < 300) = true := by simp; omega
      have hiI : (i : Int) < (n : Int) := by omega
      obtain ⟨gb, go, xb, rfl, hcx, hx0, hx1⟩ := byte_at (HIn.out.up Lr.out.up) h1
      have hev : Ev (xb % 5 + 1) := ev_of (by omega)
      have HS := Lib.hid (stepE_any y (xb % 5 + 1) HI.out.1 hev)
      have HF := Lib.hid (step_facts y (xb % 5 + 1) HI.out.1 hev)
      have k0 : wr.cell? ⟨a, 0, none⟩ = some (.int .i64 y.s) := cell_of Lr.out.ha rfl
      have k1 : wr.cell? ⟨a, 1, none⟩ = some (.bool y.p) := cell_of Lr.out.ha rfl
      have k2 : wr.cell? ⟨a, 2, none⟩ = some (.int .i64 y.n) := cell_of Lr.out.ha rfl
      go_upto_region 7 with (fail)
      clear hcx hev hx0 hx1
      go_wp2_with fail
      refine (HS.out _).mono ?_
      rintro e w4 ⟨rfl, HU4⟩
      clear HS
      generalize stepM y (xb % 5 + 1) = r at HF ⊢
      obtain ⟨⟨zs, zp, zn⟩, ⟨da, df, db, dc, dt, dw⟩⟩ := r
      clear k0 k1 k2
      have Lq := Lib.hid (Lr.out.more HU4.out)
      clear Lr HU4
      go_upto_region 8 with (fail)
      have L5 := Lib.hid (L3.start Lq.out #[.int .i64 zs, .bool zp, .int .i64 zn] #[.bool da, .bool df, .bool db, .bool dc, .bool dt, .bool dw])
      clear Lq
      generalize (w4.alloc (.cells #[.int .i64 zs, .bool zp, .int .i64 zn] 23)).alloc (.cells #[.bool da, .bool df, .bool db, .bool dc, .bool dt, .bool dw] 25) = w5 at L5 ⊢
      generalize w4.heap.size = b at L5 ⊢
      have hab : a < b := L5.out.ab
      obtain ⟨⟨⟨z1, z2⟩, z3, z4⟩, zB, zF, zN, z0⟩ := HF.out
      obtain ⟨⟨⟨y1, y2⟩, y3, y4⟩, yI⟩ := HI.out
      dsimp only at z1 z2 z3 z4 zB zF zN z0
      have t1 : decide (zs < 0) = false := decide_eq_false (by omega)
      have t2 : decide (zs > 4) = false := decide_eq_false (by omega)
      have t3 : decide (zn < -1) = false := decide_eq_false (by omega)
      have t4 : decide (zn > 3) = false := decide_eq_false (by omega)
      have HK := Lib.hid (⟨⟨z1, z2⟩, z3, z4⟩ : (⟨zs, zp, zn⟩ : Wt).Ok)
      clear HF HI z1 z2 z3 z4 y1 y2 y3 y4
      cases db
      · cases df
        · by_cases hz : zs = 1
          · by_cases hy : y.s = 0
            · have HJ : Hid (Inv ⟨zs, zp, zn⟩ false) := Lib.hid ⟨HK.out, fun _ => rfl⟩
              have k0 : w5.cell? ⟨a, 0, none⟩ = some (.int .i64 y.s) := cell_of L5.out.ha rfl
              have k1 : w5.cell? ⟨a, 1, none⟩ = some (.bool y.p) := cell_of L5.out.ha rfl
              have k2 : w5.cell? ⟨a, 2, none⟩ = some (.int .i64 y.n) := cell_of L5.out.ha rfl
              have fa : ∀ j, w5.frozen? ⟨a, j, none⟩ = false := fun j => frozen_at L5.out.ha
              have m0 : w5.cell? ⟨b, 0, none⟩ = some (.int .i64 zs) := cell_of L5.out.hb rfl
              have m1 : w5.cell? ⟨b, 1, none⟩ = some (.bool zp) := cell_of L5.out.hb rfl
              have m2 : w5.cell? ⟨b, 2, none⟩ = some (.int .i64 zn) := cell_of L5.out.hb rfl
              have s0 : w5.cell? ⟨(b + 1), 0, none⟩ = some (.bool da) := cell_of L5.out.hc rfl
              have s1 : w5.cell? ⟨(b + 1), 1, none⟩ = some (.bool false) := cell_of L5.out.hc rfl
              have s2 : w5.cell? ⟨(b + 1), 2, none⟩ = some (.bool false) := cell_of L5.out.hc rfl
              have s3 : w5.cell? ⟨(b + 1), 3, none⟩ = some (.bool dc) := cell_of L5.out.hc rfl
              have s4 : w5.cell? ⟨(b + 1), 4, none⟩ = some (.bool dt) := cell_of L5.out.hc rfl
              have s5 : w5.cell? ⟨(b + 1), 5, none⟩ = some (.bool dw) := cell_of L5.out.hc rfl
              have u1 : (zs != 1) = false := by simp [hz]
              have u2 : (zs == 1) = true := by simp [hz]
              have u3 : (y.s == 0) = true := by simp [hy]
              clear zB zF zN z0 yI hz hy
              go_wp2_with fail
              go_roundw
              case rel => exact ⟨i + 1, ⟨zs, zp, zn⟩, false, rfl, by go_num, by omega, by omega, HJ, Lib.hid ((((L5.out.seta 0 (.int .i64 zs)).seta 1 (.bool zp)).seta 2 (.int .i64 zn))).one⟩
              case measure => simp [intOf]; omega
              
            · have HJ : Hid (Inv ⟨zs, zp, zn⟩ fl) := Lib.hid ⟨HK.out, fun _ => yI (zN rfl hz)⟩
              have k0 : w5.cell? ⟨a, 0, none⟩ = some (.int .i64 y.s) := cell_of L5.out.ha rfl
              have k1 : w5.cell? ⟨a, 1, none⟩ = some (.bool y.p) := cell_of L5.out.ha rfl
              have k2 : w5.cell? ⟨a, 2, none⟩ = some (.int .i64 y.n) := cell_of L5.out.ha rfl
              have fa : ∀ j, w5.frozen? ⟨a, j, none⟩ = false := fun j => frozen_at L5.out.ha
              have m0 : w5.cell? ⟨b, 0, none⟩ = some (.int .i64 zs) := cell_of L5.out.hb rfl
              have m1 : w5.cell? ⟨b, 1, none⟩ = some (.bool zp) := cell_of L5.out.hb rfl
              have m2 : w5.cell? ⟨b, 2, none⟩ = some (.int .i64 zn) := cell_of L5.out.hb rfl
              have s0 : w5.cell? ⟨(b + 1), 0, none⟩ = some (.bool da) := cell_of L5.out.hc rfl
              have s1 : w5.cell? ⟨(b + 1), 1, none⟩ = some (.bool false) := cell_of L5.out.hc rfl
              have s2 : w5.cell? ⟨(b + 1), 2, none⟩ = some (.bool false) := cell_of L5.out.hc rfl
              have s3 : w5.cell? ⟨(b + 1), 3, none⟩ = some (.bool dc) := cell_of L5.out.hc rfl
              have s4 : w5.cell? ⟨(b + 1), 4, none⟩ = some (.bool dt) := cell_of L5.out.hc rfl
              have s5 : w5.cell? ⟨(b + 1), 5, none⟩ = some (.bool dw) := cell_of L5.out.hc rfl
              have u1 : (zs != 1) = false := by simp [hz]
              have u2 : (zs == 1) = true := by simp [hz]
              have u3 : (y.s == 0) = false := by simp [hy]
              clear zB zF zN z0 yI hz hy
              go_wp2_with fail
              go_roundw
              case rel => exact ⟨i + 1, ⟨zs, zp, zn⟩, fl, rfl, by go_num, by omega, by omega, HJ, Lib.hid ((((L5.out.seta 0 (.int .i64 zs)).seta 1 (.bool zp)).seta 2 (.int .i64 zn))).one⟩
              case measure => simp [intOf]; omega
              
          · have HJ : Hid (Inv ⟨zs, zp, zn⟩ fl) := Lib.hid ⟨HK.out, fun h => yI (.inl (z0 (h.resolve_right hz)))⟩
            have k0 : w5.cell? ⟨a, 0, none⟩ = some (.int .i64 y.s) := cell_of L5.out.ha rfl
            have k1 : w5.cell? ⟨a, 1, none⟩ = some (.bool y.p) := cell_of L5.out.ha rfl
            have k2 : w5.cell? ⟨a, 2, none⟩ = some (.int .i64 y.n) := cell_of L5.out.ha rfl
            have fa : ∀ j, w5.frozen? ⟨a, j, none⟩ = false := fun j => frozen_at L5.out.ha
            have m0 : w5.cell? ⟨b, 0, none⟩ = some (.int .i64 zs) := cell_of L5.out.hb rfl
            have m1 : w5.cell? ⟨b, 1, none⟩ = some (.bool zp) := cell_of L5.out.hb rfl
            have m2 : w5.cell? ⟨b, 2, none⟩ = some (.int .i64 zn) := cell_of L5.out.hb rfl
            have s0 : w5.cell? ⟨(b + 1), 0, none⟩ = some (.bool da) := cell_of L5.out.hc rfl
            have s1 : w5.cell? ⟨(b + 1), 1, none⟩ = some (.bool false) := cell_of L5.out.hc rfl
            have s2 : w5.cell? ⟨(b + 1), 2, none⟩ = some (.bool false) := cell_of L5.out.hc rfl
            have s3 : w5.cell? ⟨(b + 1), 3, none⟩ = some (.bool dc) := cell_of L5.out.hc rfl
            have s4 : w5.cell? ⟨(b + 1), 4, none⟩ = some (.bool dt) := cell_of L5.out.hc rfl
            have s5 : w5.cell? ⟨(b + 1), 5, none⟩ = some (.bool dw) := cell_of L5.out.hc rfl
            have u1 : (zs != 1) = true := by simp [hz]
            have u2 : (zs == 1) = false := by simp [hz]
            clear zB zF zN z0 yI hz
            go_wp2_with fail
            go_roundw
            case rel => exact ⟨i + 1, ⟨zs, zp, zn⟩, fl, rfl, by go_num, by omega, by omega, HJ, Lib.hid ((((L5.out.seta 0 (.int .i64 zs)).seta 1 (.bool zp)).seta 2 (.int .i64 zn))).one⟩
            case measure => simp [intOf]; omega
            
        · obtain ⟨hz, hz0, hy1⟩ := zF rfl
          obtain rfl : fl = false := yI (.inr hy1)
          have HJ : Hid (Inv ⟨zs, zp, zn⟩ true) := Lib.hid ⟨HK.out, fun h => absurd h (by simp only; omega)⟩
          clear hz0 hy1
          have k0 : w5.cell? ⟨a, 0, none⟩ = some (.int .i64 y.s) := cell_of L5.out.ha rfl
          have k1 : w5.cell? ⟨a, 1, none⟩ = some (.bool y.p) := cell_of L5.out.ha rfl
          have k2 : w5.cell? ⟨a, 2, none⟩ = some (.int .i64 y.n) := cell_of L5.out.ha rfl
          have fa : ∀ j, w5.frozen? ⟨a, j, none⟩ = false := fun j => frozen_at L5.out.ha
          have m0 : w5.cell? ⟨b, 0, none⟩ = some (.int .i64 zs) := cell_of L5.out.hb rfl
          have m1 : w5.cell? ⟨b, 1, none⟩ = some (.bool zp) := cell_of L5.out.hb rfl
          have m2 : w5.cell? ⟨b, 2, none⟩ = some (.int .i64 zn) := cell_of L5.out.hb rfl
          have s0 : w5.cell? ⟨(b + 1), 0, none⟩ = some (.bool da) := cell_of L5.out.hc rfl
          have s1 : w5.cell? ⟨(b + 1), 1, none⟩ = some (.bool true) := cell_of L5.out.hc rfl
          have s2 : w5.cell? ⟨(b + 1), 2, none⟩ = some (.bool false) := cell_of L5.out.hc rfl
          have s3 : w5.cell? ⟨(b + 1), 3, none⟩ = some (.bool dc) := cell_of L5.out.hc rfl
          have s4 : w5.cell? ⟨(b + 1), 4, none⟩ = some (.bool dt) := cell_of L5.out.hc rfl
          have s5 : w5.cell? ⟨(b + 1), 5, none⟩ = some (.bool dw) := cell_of L5.out.hc rfl
          have u1 : (zs != 1) = true := by simp [hz]
          have u2 : (zs == 1) = false := by simp [hz]
          clear zB zF zN z0 yI hz
          go_wp2_with fail
          go_roundw
          case rel => exact ⟨i + 1, ⟨zs, zp, zn⟩, true, rfl, by go_num, by omega, by omega, HJ, Lib.hid ((((L5.out.seta 0 (.int .i64 zs)).seta 1 (.bool zp)).seta 2 (.int .i64 zn))).one⟩
          case measure => simp [intOf]; omega
          
      · obtain ⟨hz, hy, hdf⟩ := zB rfl
        obtain rfl : df = false := hdf
        have HJ : Hid (Inv ⟨zs, zp, zn⟩ false) := Lib.hid ⟨HK.out, fun _ => rfl⟩
        have k0 : w5.cell? ⟨a, 0, none⟩ = some (.int .i64 y.s) := cell_of L5.out.ha rfl
        have k1 : w5.cell? ⟨a, 1, none⟩ = some (.bool y.p) := cell_of L5.out.ha rfl
        have k2 : w5.cell? ⟨a, 2, none⟩ = some (.int .i64 y.n) := cell_of L5.out.ha rfl
        have fa : ∀ j, w5.frozen? ⟨a, j, none⟩ = false := fun j => frozen_at L5.out.ha
        have m0 : w5.cell? ⟨b, 0, none⟩ = some (.int .i64 zs) := cell_of L5.out.hb rfl
        have m1 : w5.cell? ⟨b, 1, none⟩ = some (.bool zp) := cell_of L5.out.hb rfl
        have m2 : w5.cell? ⟨b, 2, none⟩ = some (.int .i64 zn) := cell_of L5.out.hb rfl
        have s0 : w5.cell? ⟨(b + 1), 0, none⟩ = some (.bool da) := cell_of L5.out.hc rfl
        have s1 : w5.cell? ⟨(b + 1), 1, none⟩ = some (.bool false) := cell_of L5.out.hc rfl
        have s2 : w5.cell? ⟨(b + 1), 2, none⟩ = some (.bool true) := cell_of L5.out.hc rfl
        have s3 : w5.cell? ⟨(b + 1), 3, none⟩ = some (.bool dc) := cell_of L5.out.hc rfl
        have s4 : w5.cell? ⟨(b + 1), 4, none⟩ = some (.bool dt) := cell_of L5.out.hc rfl
        have s5 : w5.cell? ⟨(b + 1), 5, none⟩ = some (.bool dw) := cell_of L5.out.hc rfl
        have u1 : (zs != 1) = false := by simp [hz]
        have u2 : (zs == 1) = true := by simp [hz]
        have u3 : (y.s == 0) = false := by simp [hy]
        clear zB zF zN z0 yI hz hy
        go_wp2_with fail
        go_roundw
        case rel => exact ⟨i + 1, ⟨zs, zp, zn⟩, false, rfl, by go_num, by omega, by omega, HJ, Lib.hid ((((L5.out.seta 0 (.int .i64 zs)).seta 1 (.bool zp)).seta 2 (.int .i64 zn))).one⟩
        case measure => simp [intOf]; omega
        
    · go_upto_region 4 with (fail)
      go_cut [22] (fun v wx => v = .bool false ∧ wx = wr)
      case first =>
        by_cases h1 : i < n
        · have d1 : decide ((i : Int) < (n : Int)) = true := by simp; omega
          have d2 : decide ((i : Int) < 300) = false := by simp; omega
          go_wp2_with fail
          go_meet
          exact ⟨rfl, rfl⟩
        · have d1 : decide ((i : Int) < (n : Int)) = false := by simp; omega
          go_wp2_with fail
          go_meet
          exact ⟨rfl, rfl⟩
      case rest =>
      obtain ⟨rfl, hwr⟩ := hcut
      subst hwr
      clear hlt
      go_upto_region 20 with (fail)
      go_loopw [10] (fun jv wr => ∃ (j : Nat) (y : Wt), jv = .int .i64 (j : Int) ∧ j ≤ 6 ∧ Hid y.Ok ∧ Hid (j + leftA y ≤ 6) ∧ Hid (L1 a y.cs w wr)) (fun jv _ => 6 - (intOf jv).toNat)
      case atStart => exact ⟨0, y, rfl, by omega, Lib.hid HI.out.1, Lib.hid (by have := left_le y; omega), Lr⟩
      case round =>
        clear Lr HI
        obtain ⟨j, y, rfl, hj, HY, HLf, Lr⟩ := hrel
        by_cases hgo : j < 6 ∧ y.s ≠ 3 ∧ y.s ≠ 0
        · obtain ⟨hj6, hy3, hy0⟩ := hgo
          have d1 : decide ((j : Int) < 6) = true := by simp; omega
          have u1 : (y.s != 3) = true := by simp [hy3]
          have u2 : (y.s != 0) = true := by simp [hy0]
          have HS := Lib.hid (stepE_any y 5 HY.out (by unfold Ev; omega))
          have HO := Lib.hid (step_facts y 5 HY.out (by unfold Ev; omega)).1
          have HQ := Lib.hid (left_step HY.out hy3 hy0)
          clear hy3 hy0
          have k0 : wr.cell? ⟨a, 0, none⟩ = some (.int .i64 y.s) := cell_of Lr.out.ha rfl
          have k1 : wr.cell? ⟨a, 1, none⟩ = some (.bool y.p) := cell_of Lr.out.ha rfl
          have k2 : wr.cell? ⟨a, 2, none⟩ = some (.int .i64 y.n) := cell_of Lr.out.ha rfl
          go_wp2_with fail
          refine (HS.out _).mono ?_
          rintro e w4 ⟨rfl, HU4⟩
          clear HS
          generalize stepM y 5 = r at HO HQ ⊢
          obtain ⟨⟨zs, zp, zn⟩, ⟨da, df, db, dc, dt, dw⟩⟩ := r
          clear k0 k1 k2
          have Lq := Lib.hid (Lr.out.more HU4.out)
          clear Lr HU4
          go_upto_region 23 with (fail)
          have L5 := Lib.hid (L3.start Lq.out #[.int .i64 zs, .bool zp, .int .i64 zn] #[.bool da, .bool df, .bool db, .bool dc, .bool dt, .bool dw])
          clear Lq
          generalize (w4.alloc (.cells #[.int .i64 zs, .bool zp, .int .i64 zn] 23)).alloc (.cells #[.bool da, .bool df, .bool db, .bool dc, .bool dt, .bool dw] 25) = w5 at L5 ⊢
          generalize w4.heap.size = b at L5 ⊢
          have hab : a < b := L5.out.ab
          have k0 : w5.cell? ⟨a, 0, none⟩ = some (.int .i64 y.s) := cell_of L5.out.ha rfl
          have k1 : w5.cell? ⟨a, 1, none⟩ = some (.bool y.p) := cell_of L5.out.ha rfl
          have k2 : w5.cell? ⟨a, 2, none⟩ = some (.int .i64 y.n) := cell_of L5.out.ha rfl
          have fa : ∀ j, w5.frozen? ⟨a, j, none⟩ = false := fun j => frozen_at L5.out.ha
          have m0 : w5.cell? ⟨b, 0, none⟩ = some (.int .i64 zs) := cell_of L5.out.hb rfl
          have m1 : w5.cell? ⟨b, 1, none⟩ = some (.bool zp) := cell_of L5.out.hb rfl
          have m2 : w5.cell? ⟨b, 2, none⟩ = some (.int .i64 zn) := cell_of L5.out.hb rfl
          go_wp2_with fail
          go_roundw
          case rel => exact ⟨j + 1, ⟨zs, zp, zn⟩, by go_num, by omega, HO, Lib.hid (by have := HQ.out; have := HLf.out; omega), Lib.hid ((((L5.out.seta 0 (.int .i64 zs)).seta 1 (.bool zp)).seta 2 (.int .i64 zn))).one⟩
          case measure => simp [intOf]; omega
        · have hend : y.s = 3 ∨ y.s = 0 := by
            by_cases h6 : j < 6
            · by_cases h3 : y.s = 3
              · exact .inl h3
              · by_cases h0 : y.s = 0
                · exact .inr h0
                · exact absurd ⟨h6, h3, h0⟩ hgo
            · exact left_zero HY.out (by have := HLf.out; omega)
          clear hgo
          obtain ⟨ys, yp, yn⟩ := y
          dsimp only at hend
          clear HLf HY
          go_upto_region 20 with (fail)
          go_cut [104] (fun v wx => v = .bool false ∧ wx = wr)
          case first =>
            rcases hend with rfl | rfl
            · have k0 : wr.cell? ⟨a, 0, none⟩ = some (.int .i64 3) := cell_of Lr.out.ha rfl
              have k1 : wr.cell? ⟨a, 1, none⟩ = some (.bool yp) := cell_of Lr.out.ha rfl
              have k2 : wr.cell? ⟨a, 2, none⟩ = some (.int .i64 yn) := cell_of Lr.out.ha rfl
              by_cases h6 : j < 6
              · have d1 : decide ((j : Int) < 6) = true := by simp; omega
                go_wp2_with fail
                go_meet
                exact ⟨rfl, rfl⟩
              · have d1 : decide ((j : Int) < 6) = false := by simp; omega
                go_wp2_with fail
                go_meet
                exact ⟨rfl, rfl⟩
            · have k0 : wr.cell? ⟨a, 0, none⟩ = some (.int .i64 0) := cell_of Lr.out.ha rfl
              have k1 : wr.cell? ⟨a, 1, none⟩ = some (.bool yp) := cell_of Lr.out.ha rfl
              have k2 : wr.cell? ⟨a, 2, none⟩ = some (.int .i64 yn) := cell_of Lr.out.ha rfl
              by_cases h6 : j < 6
              · have d1 : decide ((j : Int) < 6) = true := by simp; omega
                go_wp2_with fail
                go_meet
                exact ⟨rfl, rfl⟩
              · have d1 : decide ((j : Int) < 6) = false := by simp; omega
                go_wp2_with fail
                go_meet
                exact ⟨rfl, rfl⟩
          case rest =>
          obtain ⟨rfl, hwr⟩ := hcut
          subst hwr
          go_wp2_with fail
          refine (HA.out _).mono ?_
          rintro e w4 ⟨rfl, HU4⟩
          have Lq := Lib.hid (Lr.out.more HU4.out)
          clear Lr HU4 HA
          rcases hend with rfl | rfl
          · have k0 : w4.cell? ⟨a, 0, none⟩ = some (.int .i64 3) := cell_of Lq.out.ha rfl
            have k1 : w4.cell? ⟨a, 1, none⟩ = some (.bool yp) := cell_of Lq.out.ha rfl
            have k2 : w4.cell? ⟨a, 2, none⟩ = some (.int .i64 yn) := cell_of Lq.out.ha rfl
            go_wp2_with fail
            go_ret
            exact ⟨rfl, Lib.hid Lq.out.up⟩
          · have k0 : w4.cell? ⟨a, 0, none⟩ = some (.int .i64 0) := cell_of Lq.out.ha rfl
            have k1 : w4.cell? ⟨a, 1, none⟩ = some (.bool yp) := cell_of Lq.out.ha rfl
            have k2 : w4.cell? ⟨a, 2, none⟩ = some (.int .i64 yn) := cell_of Lq.out.ha rfl
            go_wp2_with fail
            go_ret
            exact ⟨rfl, Lib.hid Lq.out.up⟩
end Go.Proofs.Ytdhkbpnhbbedmaa
