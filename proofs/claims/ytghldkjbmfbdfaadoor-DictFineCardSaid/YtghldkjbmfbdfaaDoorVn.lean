import Derived.Test.YtghldkjbmfbdfaaDoorVs
namespace Go.Proofs.YtghldkjbmfbdfaaDoor
open Go Go.RowKit
set_option linter.unusedVariables false
set_option linter.unusedSimpArgs false
/-! Names. -/
def nameB (x : Int) : Bool := decide ((97 ≤ x ∧ x ≤ 122) ∨ (48 ≤ x ∧ x ≤ 57) ∨ x = 46 ∨ x = 45)
def nameOk (xs : List Int) : Bool := xs.all nameB && decide (1 ≤ xs.length ∧ xs.length ≤ 32)
theorem all_drop {xs : List Int} {p : Nat} (h : p < xs.length) : (xs.drop p).all nameB = (nameB (byt xs p) && (xs.drop (p + 1)).all nameB) := by
  rw [drop_byt h, List.all_cons]
theorem name_bad {xs : List Int} {p : Nat} (h : p < xs.length) (hS : (xs.drop p).all nameB = xs.all nameB) (hb : nameB (byt xs p) = false) : nameOk xs = false := by
  unfold nameOk; rw [← hS, all_drop h, hb]; rfl
theorem name_end {xs : List Int} (hS : (xs.drop xs.length).all nameB = xs.all nameB) : nameOk xs = decide (1 ≤ xs.length ∧ xs.length ≤ 32) := by
  unfold nameOk; rw [← hS, List.drop_length]; rfl
set_option maxRecDepth 100000 in
set_option maxHeartbeats 4000000 in
theorem ofName_any (x : Int) (hx : 0 ≤ x ∧ x < 256) (w : World) : Calls Tryd.prog 52 #[.int .u8 x] w fun e w' => e = .returned (.bool (nameB x)) ∧ w' = w := by
  by_cases k0 : 97 ≤ x ∧ x ≤ 122
  · have q0 : decide (97 ≤ x) = true := decide_eq_true (by omega)
    have q1 : decide (x ≤ 122) = true := decide_eq_true (by omega)
    have q2 : decide (48 ≤ x) = true := decide_eq_true (by omega)
    have q3 : decide (x ≤ 57) = false := decide_eq_false (by omega)
    have q4 : (x == 46) = false := by rw [beq_eq_false_iff_ne]; omega
    have q5 : (x == 45) = false := by rw [beq_eq_false_iff_ne]; omega
    have HR := Lib.hid (show nameB x = true from decide_eq_true (by omega))
    go_enter Tryd.func52, Tryd.ntmps52
    go_wp2_with fail
    go_ret
    exact ⟨by first | (rw [HR.out]; rfl) | rfl, rfl⟩
  by_cases k1 : 122 < x
  · have q0 : decide (97 ≤ x) = true := decide_eq_true (by omega)
    have q1 : decide (x ≤ 122) = false := decide_eq_false (by omega)
    have q2 : decide (48 ≤ x) = true := decide_eq_true (by omega)
    have q3 : decide (x ≤ 57) = false := decide_eq_false (by omega)
    have q4 : (x == 46) = false := by rw [beq_eq_false_iff_ne]; omega
    have q5 : (x == 45) = false := by rw [beq_eq_false_iff_ne]; omega
    have HR := Lib.hid (show nameB x = false from decide_eq_false (by omega))
    go_enter Tryd.func52, Tryd.ntmps52
    go_wp2_with fail
    go_ret
    exact ⟨by first | (rw [HR.out]; rfl) | rfl, rfl⟩
  by_cases k2 : 57 < x ∧ x < 97
  · have q0 : decide (97 ≤ x) = false := decide_eq_false (by omega)
    have q1 : decide (x ≤ 122) = true := decide_eq_true (by omega)
    have q2 : decide (48 ≤ x) = true := decide_eq_true (by omega)
    have q3 : decide (x ≤ 57) = false := decide_eq_false (by omega)
    have q4 : (x == 46) = false := by rw [beq_eq_false_iff_ne]; omega
    have q5 : (x == 45) = false := by rw [beq_eq_false_iff_ne]; omega
    have HR := Lib.hid (show nameB x = false from decide_eq_false (by omega))
    go_enter Tryd.func52, Tryd.ntmps52
    go_wp2_with fail
    go_ret
    exact ⟨by first | (rw [HR.out]; rfl) | rfl, rfl⟩
  by_cases k3 : 48 ≤ x ∧ x ≤ 57
  · have q0 : decide (97 ≤ x) = false := decide_eq_false (by omega)
    have q1 : decide (x ≤ 122) = true := decide_eq_true (by omega)
    have q2 : decide (48 ≤ x) = true := decide_eq_true (by omega)
    have q3 : decide (x ≤ 57) = true := decide_eq_true (by omega)
    have q4 : (x == 46) = false := by rw [beq_eq_false_iff_ne]; omega
    have q5 : (x == 45) = false := by rw [beq_eq_false_iff_ne]; omega
    have HR := Lib.hid (show nameB x = true from decide_eq_true (by omega))
    go_enter Tryd.func52, Tryd.ntmps52
    go_wp2_with fail
    go_ret
    exact ⟨by first | (rw [HR.out]; rfl) | rfl, rfl⟩
  by_cases k4 : x = 46
  · have q0 : decide (97 ≤ x) = false := decide_eq_false (by omega)
    have q1 : decide (x ≤ 122) = true := decide_eq_true (by omega)
    have q2 : decide (48 ≤ x) = false := decide_eq_false (by omega)
    have q3 : decide (x ≤ 57) = true := decide_eq_true (by omega)
    have q4 : (x == 46) = true := by rw [beq_iff_eq]; omega
    have q5 : (x == 45) = false := by rw [beq_eq_false_iff_ne]; omega
    have HR := Lib.hid (show nameB x = true from decide_eq_true (by omega))
    go_enter Tryd.func52, Tryd.ntmps52
    go_wp2_with fail
    go_ret
    exact ⟨by first | (rw [HR.out]; rfl) | rfl, rfl⟩
  by_cases k5 : x = 45
  · have q0 : decide (97 ≤ x) = false := decide_eq_false (by omega)
    have q1 : decide (x ≤ 122) = true := decide_eq_true (by omega)
    have q2 : decide (48 ≤ x) = false := decide_eq_false (by omega)
    have q3 : decide (x ≤ 57) = true := decide_eq_true (by omega)
    have q4 : (x == 46) = false := by rw [beq_eq_false_iff_ne]; omega
    have q5 : (x == 45) = true := by rw [beq_iff_eq]; omega
    have HR := Lib.hid (show nameB x = true from decide_eq_true (by omega))
    go_enter Tryd.func52, Tryd.ntmps52
    go_wp2_with fail
    go_ret
    exact ⟨by first | (rw [HR.out]; rfl) | rfl, rfl⟩
  by_cases k6 : x = 47
  · have q0 : decide (97 ≤ x) = false := decide_eq_false (by omega)
    have q1 : decide (x ≤ 122) = true := decide_eq_true (by omega)
    have q2 : decide (48 ≤ x) = false := decide_eq_false (by omega)
    have q3 : decide (x ≤ 57) = true := decide_eq_true (by omega)
    have q4 : (x == 46) = false := by rw [beq_eq_false_iff_ne]; omega
    have q5 : (x == 45) = false := by rw [beq_eq_false_iff_ne]; omega
    have HR := Lib.hid (show nameB x = false from decide_eq_false (by omega))
    go_enter Tryd.func52, Tryd.ntmps52
    go_wp2_with fail
    go_ret
    exact ⟨by first | (rw [HR.out]; rfl) | rfl, rfl⟩
  have k7 : x < 45 := by omega
  have q0 : decide (97 ≤ x) = false := decide_eq_false (by omega)
  have q1 : decide (x ≤ 122) = true := decide_eq_true (by omega)
  have q2 : decide (48 ≤ x) = false := decide_eq_false (by omega)
  have q3 : decide (x ≤ 57) = true := decide_eq_true (by omega)
  have q4 : (x == 46) = false := by rw [beq_eq_false_iff_ne]; omega
  have q5 : (x == 45) = false := by rw [beq_eq_false_iff_ne]; omega
  have HR := Lib.hid (show nameB x = false from decide_eq_false (by omega))
  go_enter Tryd.func52, Tryd.ntmps52
  go_wp2_with fail
  go_ret
  exact ⟨by first | (rw [HR.out]; rfl) | rfl, rfl⟩
set_option maxRecDepth 100000 in
set_option maxHeartbeats 8000000 in
theorem ident_any (A : Option Addr) (m c : Nat) (xs : List Int) (w : World) (hin : InB w A m c xs) (hm : m ≤ 140737488355328) : Calls Tryd.prog 39 #[.slice A m c] w fun e w' => e = .returned (.bool (nameOk xs)) ∧ w' = w := by
  have H := Lib.hid hin
  have HL := Lib.hid hin.len
  have hcap := hin.cap
  clear hin
  go_enter Tryd.func39, Tryd.ntmps39
  go_wp2_with fail
  go_loopw [7] (fun i wr => ∃ p : Nat, p ≤ m ∧ i = .int .i64 (p : Int) ∧ Hid ((xs.drop p).all nameB = xs.all nameB) ∧ wr = w) (fun i _ => m - (intOf i).toNat)
  case atStart => exact ⟨0, by omega, by go_num, Lib.hid rfl, rfl⟩
  case round =>
    obtain ⟨p, hp, rfl, hS, rfl⟩ := hrel
    by_cases hpm : p < m
    · have e1 : decide ((p : Int) < (m : Int)) = true := decide_eq_true (by omega)
      obtain ⟨g, o, rfl, -, -⟩ := H.out.cells (fun e => by have h1 := congrArg List.length e; rw [ints_length, H.out.len, List.length_nil] at h1; omega)
      have hx := byt_cell H.out hpm
      have BX := byt_byt H.out.byt p
      obtain ⟨x, ex⟩ : ∃ x, byt xs p = x := ⟨_, rfl⟩
      rw [ex] at hx BX
      replace ex := Lib.hid ex
      cases hb : nameB x
      · have HR := Lib.hid hb
        clear hb
        go_wp2_with fail
        refine (ofName_any x BX _).mono ?_
        rintro e w1 ⟨rfl, rfl⟩
        rw [HR.out]
        go_wp2_with fail
        have HN := Lib.hid (name_bad (by rw [HL.out]; exact hpm) hS.out (by rw [ex.out]; exact HR.out))
        go_ret
        exact ⟨by rw [HN.out]; rfl, rfl⟩
      · have HR := Lib.hid hb
        clear hb
        go_wp2_with fail
        refine (ofName_any x BX _).mono ?_
        rintro e w1 ⟨rfl, rfl⟩
        rw [HR.out]
        go_wp2_with fail
        go_roundw
        case rel => exact ⟨p + 1, by omega, by go_num, Lib.hid (by have h := all_drop (xs := xs) (p := p) (by rw [HL.out]; exact hpm); rw [ex.out, HR.out, Bool.true_and] at h; rw [← h]; exact hS.out), by first | rfl | trivial⟩
        case measure => simp [intOf]; omega
    · obtain rfl : p = m := by omega
      have e1 : decide ((p : Int) < (p : Int)) = false := by simp
      have HN := Lib.hid (name_end (xs := xs) (by have := hS.out; rwa [← HL.out] at this))
      by_cases h1 : 1 ≤ p
      · by_cases h2 : p ≤ 32
        · have f1 : decide (1 ≤ (p : Int)) = true := decide_eq_true (by omega)
          have f2 : decide ((p : Int) ≤ 32) = true := decide_eq_true (by omega)
          go_wp2_with fail
          go_ret
          exact ⟨by rw [HN.out, HL.out, decide_eq_true ⟨h1, h2⟩]; rfl, rfl⟩
        · have f1 : decide (1 ≤ (p : Int)) = true := decide_eq_true (by omega)
          have f2 : decide ((p : Int) ≤ 32) = false := decide_eq_false (by omega)
          go_wp2_with fail
          go_ret
          exact ⟨by rw [HN.out, HL.out, decide_eq_false (by omega)]; rfl, rfl⟩
      · have f1 : decide (1 ≤ (p : Int)) = false := decide_eq_false (by omega)
        go_wp2_with fail
        go_ret
        exact ⟨by rw [HN.out, HL.out, decide_eq_false (by omega)]; rfl, rfl⟩
set_option maxRecDepth 100000 in
set_option maxHeartbeats 8000000 in
theorem rname_any (A : Option Addr) (m c : Nat) (xs : List Int) (w : World) (hin : InB w A m c xs) (hm : m ≤ 140737488355328) : Calls Tryd.prog 28 #[.slice A m c] w fun e w' => e = .returned (.bool (nameOk xs)) ∧ w' = w := by
  have H := Lib.hid hin
  have HL := Lib.hid hin.len
  have hcap := hin.cap
  clear hin
  go_enter Tryd.func28, Tryd.ntmps28
  go_wp2_with fail
  go_loopw [3] (fun i wr => ∃ p : Nat, p ≤ m ∧ i = .int .i64 (p : Int) ∧ Hid ((xs.drop p).all nameB = xs.all nameB) ∧ wr = w) (fun i _ => m - (intOf i).toNat)
  case atStart => exact ⟨0, by omega, by go_num, Lib.hid rfl, rfl⟩
  case round =>
    obtain ⟨p, hp, rfl, hS, rfl⟩ := hrel
    by_cases hpm : p < m
    · have e1 : decide ((p : Int) < (m : Int)) = true := decide_eq_true (by omega)
      obtain ⟨g, o, rfl, -, -⟩ := H.out.cells (fun e => by have h1 := congrArg List.length e; rw [ints_length, H.out.len, List.length_nil] at h1; omega)
      have hx := byt_cell H.out hpm
      have BX := byt_byt H.out.byt p
      obtain ⟨x, ex⟩ : ∃ x, byt xs p = x := ⟨_, rfl⟩
      rw [ex] at hx BX
      replace ex := Lib.hid ex
      by_cases k0 : 97 ≤ x ∧ x ≤ 122
      · have q0 : decide (97 ≤ x) = true := decide_eq_true (by omega)
        have q1 : decide (x ≤ 122) = true := decide_eq_true (by omega)
        have q2 : decide (48 ≤ x) = true := decide_eq_true (by omega)
        have q3 : decide (x ≤ 57) = false := decide_eq_false (by omega)
        have q4 : (x == 46) = false := by rw [beq_eq_false_iff_ne]; omega
        have q5 : (x == 45) = false := by rw [beq_eq_false_iff_ne]; omega
        have HR := Lib.hid (show nameB x = true from decide_eq_true (by omega))
        go_wp2_with fail
        go_roundw
        case rel => exact ⟨p + 1, by omega, by go_num, Lib.hid (by have h := all_drop (xs := xs) (p := p) (by rw [HL.out]; exact hpm); rw [ex.out, HR.out, Bool.true_and] at h; rw [← h]; exact hS.out), by first | rfl | trivial⟩
        case measure => simp [intOf]; omega
      by_cases k1 : 122 < x
      · have q0 : decide (97 ≤ x) = true := decide_eq_true (by omega)
        have q1 : decide (x ≤ 122) = false := decide_eq_false (by omega)
        have q2 : decide (48 ≤ x) = true := decide_eq_true (by omega)
        have q3 : decide (x ≤ 57) = false := decide_eq_false (by omega)
        have q4 : (x == 46) = false := by rw [beq_eq_false_iff_ne]; omega
        have q5 : (x == 45) = false := by rw [beq_eq_false_iff_ne]; omega
        have HR := Lib.hid (show nameB x = false from decide_eq_false (by omega))
        go_wp2_with fail
        have HN := Lib.hid (name_bad (by rw [HL.out]; exact hpm) hS.out (by rw [ex.out]; exact HR.out))
        go_ret
        exact ⟨by rw [HN.out]; rfl, rfl⟩
      by_cases k2 : 57 < x ∧ x < 97
      · have q0 : decide (97 ≤ x) = false := decide_eq_false (by omega)
        have q1 : decide (x ≤ 122) = true := decide_eq_true (by omega)
        have q2 : decide (48 ≤ x) = true := decide_eq_true (by omega)
        have q3 : decide (x ≤ 57) = false := decide_eq_false (by omega)
        have q4 : (x == 46) = false := by rw [beq_eq_false_iff_ne]; omega
        have q5 : (x == 45) = false := by rw [beq_eq_false_iff_ne]; omega
        have HR := Lib.hid (show nameB x = false from decide_eq_false (by omega))
        go_wp2_with fail
        have HN := Lib.hid (name_bad (by rw [HL.out]; exact hpm) hS.out (by rw [ex.out]; exact HR.out))
        go_ret
        exact ⟨by rw [HN.out]; rfl, rfl⟩
      by_cases k3 : 48 ≤ x ∧ x ≤ 57
      · have q0 : decide (97 ≤ x) = false := decide_eq_false (by omega)
        have q1 : decide (x ≤ 122) = true := decide_eq_true (by omega)
        have q2 : decide (48 ≤ x) = true := decide_eq_true (by omega)
        have q3 : decide (x ≤ 57) = true := decide_eq_true (by omega)
        have q4 : (x == 46) = false := by rw [beq_eq_false_iff_ne]; omega
        have q5 : (x == 45) = false := by rw [beq_eq_false_iff_ne]; omega
        have HR := Lib.hid (show nameB x = true from decide_eq_true (by omega))
        go_wp2_with fail
        go_roundw
        case rel => exact ⟨p + 1, by omega, by go_num, Lib.hid (by have h := all_drop (xs := xs) (p := p) (by rw [HL.out]; exact hpm); rw [ex.out, HR.out, Bool.true_and] at h; rw [← h]; exact hS.out), by first | rfl | trivial⟩
        case measure => simp [intOf]; omega
      by_cases k4 : x = 46
      · have q0 : decide (97 ≤ x) = false := decide_eq_false (by omega)
        have q1 : decide (x ≤ 122) = true := decide_eq_true (by omega)
        have q2 : decide (48 ≤ x) = false := decide_eq_false (by omega)
        have q3 : decide (x ≤ 57) = true := decide_eq_true (by omega)
        have q4 : (x == 46) = true := by rw [beq_iff_eq]; omega
        have q5 : (x == 45) = false := by rw [beq_eq_false_iff_ne]; omega
        have HR := Lib.hid (show nameB x = true from decide_eq_true (by omega))
        go_wp2_with fail
        go_roundw
        case rel => exact ⟨p + 1, by omega, by go_num, Lib.hid (by have h := all_drop (xs := xs) (p := p) (by rw [HL.out]; exact hpm); rw [ex.out, HR.out, Bool.true_and] at h; rw [← h]; exact hS.out), by first | rfl | trivial⟩
        case measure => simp [intOf]; omega
      by_cases k5 : x = 45
      · have q0 : decide (97 ≤ x) = false := decide_eq_false (by omega)
        have q1 : decide (x ≤ 122) = true := decide_eq_true (by omega)
        have q2 : decide (48 ≤ x) = false := decide_eq_false (by omega)
        have q3 : decide (x ≤ 57) = true := decide_eq_true (by omega)
        have q4 : (x == 46) = false := by rw [beq_eq_false_iff_ne]; omega
        have q5 : (x == 45) = true := by rw [beq_iff_eq]; omega
        have HR := Lib.hid (show nameB x = true from decide_eq_true (by omega))
        go_wp2_with fail
        go_roundw
        case rel => exact ⟨p + 1, by omega, by go_num, Lib.hid (by have h := all_drop (xs := xs) (p := p) (by rw [HL.out]; exact hpm); rw [ex.out, HR.out, Bool.true_and] at h; rw [← h]; exact hS.out), by first | rfl | trivial⟩
        case measure => simp [intOf]; omega
      by_cases k6 : x = 47
      · have q0 : decide (97 ≤ x) = false := decide_eq_false (by omega)
        have q1 : decide (x ≤ 122) = true := decide_eq_true (by omega)
        have q2 : decide (48 ≤ x) = false := decide_eq_false (by omega)
        have q3 : decide (x ≤ 57) = true := decide_eq_true (by omega)
        have q4 : (x == 46) = false := by rw [beq_eq_false_iff_ne]; omega
        have q5 : (x == 45) = false := by rw [beq_eq_false_iff_ne]; omega
        have HR := Lib.hid (show nameB x = false from decide_eq_false (by omega))
        go_wp2_with fail
        have HN := Lib.hid (name_bad (by rw [HL.out]; exact hpm) hS.out (by rw [ex.out]; exact HR.out))
        go_ret
        exact ⟨by rw [HN.out]; rfl, rfl⟩
      have k7 : x < 45 := by omega
      have q0 : decide (97 ≤ x) = false := decide_eq_false (by omega)
      have q1 : decide (x ≤ 122) = true := decide_eq_true (by omega)
      have q2 : decide (48 ≤ x) = false := decide_eq_false (by omega)
      have q3 : decide (x ≤ 57) = true := decide_eq_true (by omega)
      have q4 : (x == 46) = false := by rw [beq_eq_false_iff_ne]; omega
      have q5 : (x == 45) = false := by rw [beq_eq_false_iff_ne]; omega
      have HR := Lib.hid (show nameB x = false from decide_eq_false (by omega))
      go_wp2_with fail
      have HN := Lib.hid (name_bad (by rw [HL.out]; exact hpm) hS.out (by rw [ex.out]; exact HR.out))
      go_ret
      exact ⟨by rw [HN.out]; rfl, rfl⟩
    · obtain rfl : p = m := by omega
      have e1 : decide ((p : Int) < (p : Int)) = false := by simp
      have HN := Lib.hid (name_end (xs := xs) (by have := hS.out; rwa [← HL.out] at this))
      by_cases h1 : 1 ≤ p
      · by_cases h2 : p ≤ 32
        · have f1 : decide (1 ≤ (p : Int)) = true := decide_eq_true (by omega)
          have f2 : decide ((p : Int) ≤ 32) = true := decide_eq_true (by omega)
          go_wp2_with fail
          go_ret
          exact ⟨by rw [HN.out, HL.out, decide_eq_true ⟨h1, h2⟩]; rfl, rfl⟩
        · have f1 : decide (1 ≤ (p : Int)) = true := decide_eq_true (by omega)
          have f2 : decide ((p : Int) ≤ 32) = false := decide_eq_false (by omega)
          go_wp2_with fail
          go_ret
          exact ⟨by rw [HN.out, HL.out, decide_eq_false (by omega)]; rfl, rfl⟩
      · have f1 : decide (1 ≤ (p : Int)) = false := decide_eq_false (by omega)
        go_wp2_with fail
        go_ret
        exact ⟨by rw [HN.out, HL.out, decide_eq_false (by omega)]; rfl, rfl⟩
/-! Addresses. -/
def addrOk (xs : List Int) : Bool := decide ((xs.length = 6 ∧ byt xs 0 = 0 ∧ byt xs 1 = 1) ∨ (xs.length = 18 ∧ byt xs 0 = 0 ∧ byt xs 1 = 2))
set_option maxRecDepth 100000 in
set_option maxHeartbeats 4000000 in
theorem addr_any (A : Option Addr) (m c : Nat) (xs : List Int) (w : World) (hin : InB w A m c xs) (hm : m ≤ 140737488355328) : Calls Tryd.prog 40 #[.slice A m c] w fun e w' => e = .returned (.bool (addrOk xs)) ∧ w' = w := by
  have H := Lib.hid hin
  have HL := Lib.hid hin.len
  have hcap := hin.cap
  clear hin
  by_cases h6 : m = 6
  · subst h6
    obtain ⟨g, o, rfl, -, -⟩ := H.out.cells (fun e => by have h1 := congrArg List.length e; rw [ints_length, H.out.len, List.length_nil] at h1; omega)
    have hx := byt_cell H.out (j := 0) (by omega)
    have hy := byt_cell H.out (j := 1) (by omega)
    obtain ⟨x, ex⟩ : ∃ x, byt xs 0 = x := ⟨_, rfl⟩
    obtain ⟨y, ey⟩ : ∃ y, byt xs 1 = y := ⟨_, rfl⟩
    rw [ex, Nat.add_zero] at hx
    rw [ey] at hy
    have HR := Lib.hid (show addrOk xs = ((x == 0) && (y == 1)) by unfold addrOk; rw [HL.out, ex, ey]; by_cases a : x = 0 <;> by_cases b : y = 1 <;> simp [a, b])
    clear ex ey
    cases hb : (x == 0)
    · rw [hb] at HR
      go_enter Tryd.func40, Tryd.ntmps40
      go_wp2_with fail
      go_ret
      exact ⟨by rw [HR.out]; rfl, rfl⟩
    · cases hc : (y == 1)
      · rw [hb, hc] at HR
        go_enter Tryd.func40, Tryd.ntmps40
        go_wp2_with fail
        go_ret
        exact ⟨by rw [HR.out]; rfl, rfl⟩
      · rw [hb, hc] at HR
        go_enter Tryd.func40, Tryd.ntmps40
        go_wp2_with fail
        go_ret
        exact ⟨by rw [HR.out]; rfl, rfl⟩
  by_cases h18 : m = 18
  · subst h18
    obtain ⟨g, o, rfl, -, -⟩ := H.out.cells (fun e => by have h1 := congrArg List.length e; rw [ints_length, H.out.len, List.length_nil] at h1; omega)
    have hx := byt_cell H.out (j := 0) (by omega)
    have hy := byt_cell H.out (j := 1) (by omega)
    obtain ⟨x, ex⟩ : ∃ x, byt xs 0 = x := ⟨_, rfl⟩
    obtain ⟨y, ey⟩ : ∃ y, byt xs 1 = y := ⟨_, rfl⟩
    rw [ex, Nat.add_zero] at hx
    rw [ey] at hy
    have HR := Lib.hid (show addrOk xs = ((x == 0) && (y == 2)) by unfold addrOk; rw [HL.out, ex, ey]; by_cases a : x = 0 <;> by_cases b : y = 2 <;> simp [a, b])
    clear ex ey
    cases hb : (x == 0)
    · rw [hb] at HR
      go_enter Tryd.func40, Tryd.ntmps40
      go_wp2_with fail
      go_ret
      exact ⟨by rw [HR.out]; rfl, rfl⟩
    · cases hc : (y == 2)
      · rw [hb, hc] at HR
        go_enter Tryd.func40, Tryd.ntmps40
        go_wp2_with fail
        go_ret
        exact ⟨by rw [HR.out]; rfl, rfl⟩
      · rw [hb, hc] at HR
        go_enter Tryd.func40, Tryd.ntmps40
        go_wp2_with fail
        go_ret
        exact ⟨by rw [HR.out]; rfl, rfl⟩
  have f6 : ((m : Int) == 6) = false := by rw [beq_eq_false_iff_ne]; omega
  have f18 : ((m : Int) == 18) = false := by rw [beq_eq_false_iff_ne]; omega
  have HR := Lib.hid (show addrOk xs = false by unfold addrOk; rw [HL.out]; simp [h6, h18])
  go_enter Tryd.func40, Tryd.ntmps40
  go_wp2_with fail
  go_ret
  exact ⟨by rw [HR.out]; rfl, rfl⟩
end Go.Proofs.YtghldkjbmfbdfaaDoor
