import Derived.Test.YtghldkjbmfbdfaaDoorVw
namespace Go.Proofs.YtghldkjbmfbdfaaDoor
open Go Go.RowKit
set_option linter.unusedVariables false
set_option linter.unusedSimpArgs false
/-! The reference's UTF8. Written by g_ur.py. -/
theorem drop_byt {xs : List Int} {p : Nat} (h : p < xs.length) : xs.drop p = byt xs p :: xs.drop (p + 1) := by
  rw [List.drop_eq_getElem_cons h]; simp [byt, List.getElem?_eq_getElem h]
theorem step_bad {xs : List Int} {p : Nat} (h : p < xs.length) (hs : Ut.sz (byt xs p) = 0) : Ut.ok (xs.drop p) = false := by
  rw [drop_byt h]; exact Ut.ok_bad hs _
theorem step_go {xs : List Int} {p n : Nat} (h : p < xs.length) (hs : Ut.sz (byt xs p) = n + 1) : Ut.ok (xs.drop p) = Ut.U n (Ut.lo (byt xs p)) (Ut.hi (byt xs p)) (xs.drop (p + 1)) := by
  rw [drop_byt h, Ut.ok_cons (by omega), hs]; rfl
theorem u_bad {xs : List Int} {p k : Nat} {l h : Int} (hp : p < xs.length) (hc : byt xs p < l ∨ h < byt xs p) : Ut.U (k + 1) l h (xs.drop p) = false := by
  rw [drop_byt hp]; exact Ut.U_bad hc _
theorem u_go {xs : List Int} {p k : Nat} {l h : Int} (hp : p < xs.length) (hc : ¬(byt xs p < l ∨ h < byt xs p)) : Ut.U (k + 1) l h (xs.drop p) = Ut.U k 128 191 (xs.drop (p + 1)) := by
  rw [drop_byt hp]; exact Ut.U_go hc _
theorem u_short {xs : List Int} {p k : Nat} {l h : Int} (hp : xs.length - p < k) : Ut.U k l h (xs.drop p) = false := Ut.U_short _ _ _ _ (by simp; omega)
set_option maxRecDepth 100000 in
set_option maxHeartbeats 16000000 in
theorem rutf8_any (A : Option Addr) (m c : Nat) (xs : List Int) (w : World) (hin : InB w A m c xs) (hm : m ≤ 140737488355328) : Calls Tryd.prog 27 #[.slice A m c] w fun e w' => e = .returned (.bool (Ut.ok xs)) ∧ w' = w := by
  have H := Lib.hid hin
  have HL := Lib.hid hin.len
  have hcap := hin.cap
  clear hin
  go_enter Tryd.func27, Tryd.ntmps27
  go_wp2_with fail
  go_loopw [3] (fun i wr => ∃ p : Nat, p ≤ m ∧ i = .int .i64 (p : Int) ∧ Hid (Ut.ok (xs.drop p) = Ut.ok xs) ∧ wr = w) (fun i _ => ((m : Int) - intOf i).toNat)
  case atStart => exact ⟨0, by omega, by go_num, Lib.hid rfl, rfl⟩
  case round =>
    obtain ⟨p, hp, rfl, hS, rfl⟩ := hrel
    by_cases hpm : p < m
    · have e1 : decide ((p : Int) < (m : Int)) = true := by simp; omega
      obtain ⟨g, o, rfl, -, -⟩ := H.out.cells (fun e => by have h1 := congrArg List.length e; rw [ints_length, H.out.len, List.length_nil] at h1; omega)
      have hx := byt_cell H.out hpm
      have BX := byt_byt H.out.byt p
      have HX : Hid (∃ x, byt xs p = x) := Lib.hid ⟨_, rfl⟩
      obtain ⟨x, ex⟩ := HX.out
      rw [ex] at hx BX
      have HEX := Lib.hid ex
      clear ex HX
      by_cases kA : x < 128
      · have q0 : decide (128 ≤ x) = false := by simp; omega
        have HB := Lib.hid (show Ut.ok xs = Ut.U 0 128 191 (xs.drop (p + 1)) by rw [← hS.out, step_go (n := 0) (by rw [HL.out]; exact hpm) (by rw [HEX.out]; unfold Ut.sz; repeat (first | rw [if_pos (by omega)] | rw [if_neg (by omega)])), HEX.out]; exact (Ut.U_ok _ _ _).trans (Ut.U_ok _ _ _).symm)
        by_cases hr : m < p + 1
        · have t1 : decide ((m : Int) - (p : Int) < 1) = true := by simp; omega
          exact absurd hr (by omega)
        · have t1 : decide ((m : Int) - (p : Int) < 1) = false := by simp; omega
          go_wp2_with fail
          go_loopw [6, 7, 8] (fun lw hg k wq => ∃ (j : Nat) (l h : Int), 1 ≤ j ∧ j ≤ 1 ∧ lw = .int .u8 l ∧ hg = .int .u8 h ∧ k = .int .i64 (j : Int) ∧ Hid (Ut.ok xs = Ut.U (1 - j) l h (xs.drop (p + j))) ∧ wq = wr) (fun _ _ k _ => ((1 : Int) - intOf k).toNat)
          case atStart => exact ⟨1, 128, 191, by omega, by omega, rfl, rfl, by go_num, HB, rfl⟩
          case round =>
            obtain ⟨j, l, h, hj1, hjn, rfl, rfl, rfl, hU, rfl⟩ := hrel
            by_cases hjl : j < 1
            · have f1 : decide ((j : Int) < 1) = true := by simp; omega
              have HN := Lib.hid (show 1 - j = (1 - (j + 1)) + 1 by omega)
              have hpj : p + j < m := by omega
              have hy := byt_cell H.out hpj
              have BY := byt_byt H.out.byt (p + j)
              obtain ⟨y, ey⟩ : ∃ y, byt xs (p + j) = y := ⟨_, rfl⟩
              rw [ey] at hy BY
              replace ey := Lib.hid ey
              by_cases ca : y < l
              · have z0 : decide (y < l) = true := by simp; omega
                have HR := Lib.hid (show Ut.ok xs = false by rw [hU.out, HN.out]; exact u_bad (by rw [HL.out]; exact hpj) (by rw [ey.out]; omega))
                go_wp2_with fail
                go_ret
                exact ⟨by rw [HR.out]; rfl, rfl⟩
              by_cases cb : h < y
              · have z0 : decide (y < l) = false := by simp; omega
                have z1 : decide (h < y) = true := by simp; omega
                have HR := Lib.hid (show Ut.ok xs = false by rw [hU.out, HN.out]; exact u_bad (by rw [HL.out]; exact hpj) (by rw [ey.out]; omega))
                go_wp2_with fail
                go_ret
                exact ⟨by rw [HR.out]; rfl, rfl⟩
              have z0 : decide (y < l) = false := by simp; omega
              have z1 : decide (h < y) = false := by simp; omega
              have HR := Lib.hid (u_go (xs := xs) (p := p + j) (k := 1 - (j + 1)) (l := l) (h := h) (by rw [HL.out]; exact hpj) (by rw [ey.out]; omega))
              go_wp2_with fail
              go_roundw
              case rel => exact ⟨j + 1, 128, 191, by omega, by omega, rfl, rfl, by go_num, Lib.hid (by rw [hU.out, HN.out, HR.out, Nat.add_assoc]), by first | rfl | trivial⟩
              case measure => simp [intOf]; omega
            · obtain rfl : j = 1 := by omega
              have f1 : decide (((1 : Nat) : Int) < 1) = false := by simp
              have f2 : decide ((1 : Int) < 1) = false := by simp
              go_wp2_with fail
              go_roundw
              case rel => exact ⟨p + 1, by omega, by go_num, Lib.hid (by rw [hU.out, Nat.sub_self]; exact (Ut.U_ok _ _ _).symm), by first | rfl | trivial⟩
              case measure => simp [intOf]; omega
      by_cases kB : 128 ≤ x ∧ x < 194
      · have q0 : decide (128 ≤ x) = true := by simp; omega
        have q1 : decide (x < 194) = true := by simp; omega
        have HR := Lib.hid (show Ut.ok xs = false by rw [← hS.out]; exact step_bad (by rw [HL.out]; exact hpm) (by rw [HEX.out]; unfold Ut.sz; repeat (first | rw [if_pos (by omega)] | rw [if_neg (by omega)])))
        go_wp2_with fail
        go_ret
        exact ⟨by rw [HR.out]; rfl, rfl⟩
      by_cases kC : 244 < x ∧ x < 256
      · have q0 : decide (128 ≤ x) = true := by simp; omega
        have q1 : decide (x < 194) = false := by simp; omega
        have q2 : decide (244 < x) = true := by simp; omega
        have HR := Lib.hid (show Ut.ok xs = false by rw [← hS.out]; exact step_bad (by rw [HL.out]; exact hpm) (by rw [HEX.out]; unfold Ut.sz; repeat (first | rw [if_pos (by omega)] | rw [if_neg (by omega)])))
        go_wp2_with fail
        go_ret
        exact ⟨by rw [HR.out]; rfl, rfl⟩
      by_cases kD : 194 ≤ x ∧ x < 224
      · have q0 : decide (128 ≤ x) = true := by simp; omega
        have q1 : decide (x < 194) = false := by simp; omega
        have q2 : decide (244 < x) = false := by simp; omega
        have q3 : decide (224 ≤ x) = false := by simp; omega
        have q4 : decide (240 ≤ x) = false := by simp; omega
        have q5 : (x == 224) = false := by rw [beq_eq_false_iff_ne]; omega
        have q6 : (x == 237) = false := by rw [beq_eq_false_iff_ne]; omega
        have q7 : (x == 240) = false := by rw [beq_eq_false_iff_ne]; omega
        have q8 : (x == 244) = false := by rw [beq_eq_false_iff_ne]; omega
        have HB := Lib.hid (show Ut.ok xs = Ut.U 1 128 191 (xs.drop (p + 1)) by rw [← hS.out, step_go (n := 1) (by rw [HL.out]; exact hpm) (by rw [HEX.out]; unfold Ut.sz; repeat (first | rw [if_pos (by omega)] | rw [if_neg (by omega)])), HEX.out]; unfold Ut.lo Ut.hi; repeat (first | rw [if_pos (by omega)] | rw [if_neg (by omega)]))
        by_cases hr : m < p + 2
        · have t1 : decide ((m : Int) - (p : Int) < 2) = true := by simp; omega
          have HR := Lib.hid (show Ut.ok xs = false by rw [HB.out]; exact u_short (by rw [HL.out]; omega))
          go_wp2_with fail
          go_ret
          exact ⟨by rw [HR.out]; rfl, rfl⟩
        · have t1 : decide ((m : Int) - (p : Int) < 2) = false := by simp; omega
          go_wp2_with fail
          go_loopw [6, 7, 8] (fun lw hg k wq => ∃ (j : Nat) (l h : Int), 1 ≤ j ∧ j ≤ 2 ∧ lw = .int .u8 l ∧ hg = .int .u8 h ∧ k = .int .i64 (j : Int) ∧ Hid (Ut.ok xs = Ut.U (2 - j) l h (xs.drop (p + j))) ∧ wq = wr) (fun _ _ k _ => ((2 : Int) - intOf k).toNat)
          case atStart => exact ⟨1, 128, 191, by omega, by omega, rfl, rfl, by go_num, HB, rfl⟩
          case round =>
            obtain ⟨j, l, h, hj1, hjn, rfl, rfl, rfl, hU, rfl⟩ := hrel
            by_cases hjl : j < 2
            · have f1 : decide ((j : Int) < 2) = true := by simp; omega
              have HN := Lib.hid (show 2 - j = (2 - (j + 1)) + 1 by omega)
              have hpj : p + j < m := by omega
              have hy := byt_cell H.out hpj
              have BY := byt_byt H.out.byt (p + j)
              obtain ⟨y, ey⟩ : ∃ y, byt xs (p + j) = y := ⟨_, rfl⟩
              rw [ey] at hy BY
              replace ey := Lib.hid ey
              by_cases ca : y < l
              · have z0 : decide (y < l) = true := by simp; omega
                have HR := Lib.hid (show Ut.ok xs = false by rw [hU.out, HN.out]; exact u_bad (by rw [HL.out]; exact hpj) (by rw [ey.out]; omega))
                go_wp2_with fail
                go_ret
                exact ⟨by rw [HR.out]; rfl, rfl⟩
              by_cases cb : h < y
              · have z0 : decide (y < l) = false := by simp; omega
                have z1 : decide (h < y) = true := by simp; omega
                have HR := Lib.hid (show Ut.ok xs = false by rw [hU.out, HN.out]; exact u_bad (by rw [HL.out]; exact hpj) (by rw [ey.out]; omega))
                go_wp2_with fail
                go_ret
                exact ⟨by rw [HR.out]; rfl, rfl⟩
              have z0 : decide (y < l) = false := by simp; omega
              have z1 : decide (h < y) = false := by simp; omega
              have HR := Lib.hid (u_go (xs := xs) (p := p + j) (k := 2 - (j + 1)) (l := l) (h := h) (by rw [HL.out]; exact hpj) (by rw [ey.out]; omega))
              go_wp2_with fail
              go_roundw
              case rel => exact ⟨j + 1, 128, 191, by omega, by omega, rfl, rfl, by go_num, Lib.hid (by rw [hU.out, HN.out, HR.out, Nat.add_assoc]), by first | rfl | trivial⟩
              case measure => simp [intOf]; omega
            · obtain rfl : j = 2 := by omega
              have f1 : decide (((2 : Nat) : Int) < 2) = false := by simp
              have f2 : decide ((2 : Int) < 2) = false := by simp
              go_wp2_with fail
              go_roundw
              case rel => exact ⟨p + 2, by omega, by go_num, Lib.hid (by rw [hU.out, Nat.sub_self]; exact (Ut.U_ok _ _ _).symm), by first | rfl | trivial⟩
              case measure => simp [intOf]; omega
      by_cases kE : x = 224
      · have q0 : decide (128 ≤ x) = true := by simp; omega
        have q1 : decide (x < 194) = false := by simp; omega
        have q2 : decide (244 < x) = false := by simp; omega
        have q3 : decide (224 ≤ x) = true := by simp; omega
        have q4 : decide (240 ≤ x) = false := by simp; omega
        have q5 : (x == 224) = true := by rw [beq_iff_eq]; omega
        have q6 : (x == 237) = false := by rw [beq_eq_false_iff_ne]; omega
        have q7 : (x == 240) = false := by rw [beq_eq_false_iff_ne]; omega
        have q8 : (x == 244) = false := by rw [beq_eq_false_iff_ne]; omega
        have HB := Lib.hid (show Ut.ok xs = Ut.U 2 160 191 (xs.drop (p + 1)) by rw [← hS.out, step_go (n := 2) (by rw [HL.out]; exact hpm) (by rw [HEX.out]; unfold Ut.sz; repeat (first | rw [if_pos (by omega)] | rw [if_neg (by omega)])), HEX.out]; unfold Ut.lo Ut.hi; repeat (first | rw [if_pos (by omega)] | rw [if_neg (by omega)]))
        by_cases hr : m < p + 3
        · have t1 : decide ((m : Int) - (p : Int) < 3) = true := by simp; omega
          have HR := Lib.hid (show Ut.ok xs = false by rw [HB.out]; exact u_short (by rw [HL.out]; omega))
          go_wp2_with fail
          go_ret
          exact ⟨by rw [HR.out]; rfl, rfl⟩
        · have t1 : decide ((m : Int) - (p : Int) < 3) = false := by simp; omega
          go_wp2_with fail
          go_loopw [6, 7, 8] (fun lw hg k wq => ∃ (j : Nat) (l h : Int), 1 ≤ j ∧ j ≤ 3 ∧ lw = .int .u8 l ∧ hg = .int .u8 h ∧ k = .int .i64 (j : Int) ∧ Hid (Ut.ok xs = Ut.U (3 - j) l h (xs.drop (p + j))) ∧ wq = wr) (fun _ _ k _ => ((3 : Int) - intOf k).toNat)
          case atStart => exact ⟨1, 160, 191, by omega, by omega, rfl, rfl, by go_num, HB, rfl⟩
          case round =>
            obtain ⟨j, l, h, hj1, hjn, rfl, rfl, rfl, hU, rfl⟩ := hrel
            by_cases hjl : j < 3
            · have f1 : decide ((j : Int) < 3) = true := by simp; omega
              have HN := Lib.hid (show 3 - j = (3 - (j + 1)) + 1 by omega)
              have hpj : p + j < m := by omega
              have hy := byt_cell H.out hpj
              have BY := byt_byt H.out.byt (p + j)
              obtain ⟨y, ey⟩ : ∃ y, byt xs (p + j) = y := ⟨_, rfl⟩
              rw [ey] at hy BY
              replace ey := Lib.hid ey
              by_cases ca : y < l
              · have z0 : decide (y < l) = true := by simp; omega
                have HR := Lib.hid (show Ut.ok xs = false by rw [hU.out, HN.out]; exact u_bad (by rw [HL.out]; exact hpj) (by rw [ey.out]; omega))
                go_wp2_with fail
                go_ret
                exact ⟨by rw [HR.out]; rfl, rfl⟩
              by_cases cb : h < y
              · have z0 : decide (y < l) = false := by simp; omega
                have z1 : decide (h < y) = true := by simp; omega
                have HR := Lib.hid (show Ut.ok xs = false by rw [hU.out, HN.out]; exact u_bad (by rw [HL.out]; exact hpj) (by rw [ey.out]; omega))
                go_wp2_with fail
                go_ret
                exact ⟨by rw [HR.out]; rfl, rfl⟩
              have z0 : decide (y < l) = false := by simp; omega
              have z1 : decide (h < y) = false := by simp; omega
              have HR := Lib.hid (u_go (xs := xs) (p := p + j) (k := 3 - (j + 1)) (l := l) (h := h) (by rw [HL.out]; exact hpj) (by rw [ey.out]; omega))
              go_wp2_with fail
              go_roundw
              case rel => exact ⟨j + 1, 128, 191, by omega, by omega, rfl, rfl, by go_num, Lib.hid (by rw [hU.out, HN.out, HR.out, Nat.add_assoc]), by first | rfl | trivial⟩
              case measure => simp [intOf]; omega
            · obtain rfl : j = 3 := by omega
              have f1 : decide (((3 : Nat) : Int) < 3) = false := by simp
              have f2 : decide ((3 : Int) < 3) = false := by simp
              go_wp2_with fail
              go_roundw
              case rel => exact ⟨p + 3, by omega, by go_num, Lib.hid (by rw [hU.out, Nat.sub_self]; exact (Ut.U_ok _ _ _).symm), by first | rfl | trivial⟩
              case measure => simp [intOf]; omega
      by_cases kF : 225 ≤ x ∧ x < 240 ∧ x ≠ 237
      · have q0 : decide (128 ≤ x) = true := by simp; omega
        have q1 : decide (x < 194) = false := by simp; omega
        have q2 : decide (244 < x) = false := by simp; omega
        have q3 : decide (224 ≤ x) = true := by simp; omega
        have q4 : decide (240 ≤ x) = false := by simp; omega
        have q5 : (x == 224) = false := by rw [beq_eq_false_iff_ne]; omega
        have q6 : (x == 237) = false := by rw [beq_eq_false_iff_ne]; omega
        have q7 : (x == 240) = false := by rw [beq_eq_false_iff_ne]; omega
        have q8 : (x == 244) = false := by rw [beq_eq_false_iff_ne]; omega
        have HB := Lib.hid (show Ut.ok xs = Ut.U 2 128 191 (xs.drop (p + 1)) by rw [← hS.out, step_go (n := 2) (by rw [HL.out]; exact hpm) (by rw [HEX.out]; unfold Ut.sz; repeat (first | rw [if_pos (by omega)] | rw [if_neg (by omega)])), HEX.out]; unfold Ut.lo Ut.hi; repeat (first | rw [if_pos (by omega)] | rw [if_neg (by omega)]))
        by_cases hr : m < p + 3
        · have t1 : decide ((m : Int) - (p : Int) < 3) = true := by simp; omega
          have HR := Lib.hid (show Ut.ok xs = false by rw [HB.out]; exact u_short (by rw [HL.out]; omega))
          go_wp2_with fail
          go_ret
          exact ⟨by rw [HR.out]; rfl, rfl⟩
        · have t1 : decide ((m : Int) - (p : Int) < 3) = false := by simp; omega
          go_wp2_with fail
          go_loopw [6, 7, 8] (fun lw hg k wq => ∃ (j : Nat) (l h : Int), 1 ≤ j ∧ j ≤ 3 ∧ lw = .int .u8 l ∧ hg = .int .u8 h ∧ k = .int .i64 (j : Int) ∧ Hid (Ut.ok xs = Ut.U (3 - j) l h (xs.drop (p + j))) ∧ wq = wr) (fun _ _ k _ => ((3 : Int) - intOf k).toNat)
          case atStart => exact ⟨1, 128, 191, by omega, by omega, rfl, rfl, by go_num, HB, rfl⟩
          case round =>
            obtain ⟨j, l, h, hj1, hjn, rfl, rfl, rfl, hU, rfl⟩ := hrel
            by_cases hjl : j < 3
            · have f1 : decide ((j : Int) < 3) = true := by simp; omega
              have HN := Lib.hid (show 3 - j = (3 - (j + 1)) + 1 by omega)
              have hpj : p + j < m := by omega
              have hy := byt_cell H.out hpj
              have BY := byt_byt H.out.byt (p + j)
              obtain ⟨y, ey⟩ : ∃ y, byt xs (p + j) = y := ⟨_, rfl⟩
              rw [ey] at hy BY
              replace ey := Lib.hid ey
              by_cases ca : y < l
              · have z0 : decide (y < l) = true := by simp; omega
                have HR := Lib.hid (show Ut.ok xs = false by rw [hU.out, HN.out]; exact u_bad (by rw [HL.out]; exact hpj) (by rw [ey.out]; omega))
                go_wp2_with fail
                go_ret
                exact ⟨by rw [HR.out]; rfl, rfl⟩
              by_cases cb : h < y
              · have z0 : decide (y < l) = false := by simp; omega
                have z1 : decide (h < y) = true := by simp; omega
                have HR := Lib.hid (show Ut.ok xs = false by rw [hU.out, HN.out]; exact u_bad (by rw [HL.out]; exact hpj) (by rw [ey.out]; omega))
                go_wp2_with fail
                go_ret
                exact ⟨by rw [HR.out]; rfl, rfl⟩
              have z0 : decide (y < l) = false := by simp; omega
              have z1 : decide (h < y) = false := by simp; omega
              have HR := Lib.hid (u_go (xs := xs) (p := p + j) (k := 3 - (j + 1)) (l := l) (h := h) (by rw [HL.out]; exact hpj) (by rw [ey.out]; omega))
              go_wp2_with fail
              go_roundw
              case rel => exact ⟨j + 1, 128, 191, by omega, by omega, rfl, rfl, by go_num, Lib.hid (by rw [hU.out, HN.out, HR.out, Nat.add_assoc]), by first | rfl | trivial⟩
              case measure => simp [intOf]; omega
            · obtain rfl : j = 3 := by omega
              have f1 : decide (((3 : Nat) : Int) < 3) = false := by simp
              have f2 : decide ((3 : Int) < 3) = false := by simp
              go_wp2_with fail
              go_roundw
              case rel => exact ⟨p + 3, by omega, by go_num, Lib.hid (by rw [hU.out, Nat.sub_self]; exact (Ut.U_ok _ _ _).symm), by first | rfl | trivial⟩
              case measure => simp [intOf]; omega
      by_cases kG : x = 237
      · have q0 : decide (128 ≤ x) = true := by simp; omega
        have q1 : decide (x < 194) = false := by simp; omega
        have q2 : decide (244 < x) = false := by simp; omega
        have q3 : decide (224 ≤ x) = true := by simp; omega
        have q4 : decide (240 ≤ x) = false := by simp; omega
        have q5 : (x == 224) = false := by rw [beq_eq_false_iff_ne]; omega
        have q6 : (x == 237) = true := by rw [beq_iff_eq]; omega
        have q7 : (x == 240) = false := by rw [beq_eq_false_iff_ne]; omega
        have q8 : (x == 244) = false := by rw [beq_eq_false_iff_ne]; omega
        have HB := Lib.hid (show Ut.ok xs = Ut.U 2 128 159 (xs.drop (p + 1)) by rw [← hS.out, step_go (n := 2) (by rw [HL.out]; exact hpm) (by rw [HEX.out]; unfold Ut.sz; repeat (first | rw [if_pos (by omega)] | rw [if_neg (by omega)])), HEX.out]; unfold Ut.lo Ut.hi; repeat (first | rw [if_pos (by omega)] | rw [if_neg (by omega)]))
        by_cases hr : m < p + 3
        · have t1 : decide ((m : Int) - (p : Int) < 3) = true := by simp; omega
          have HR := Lib.hid (show Ut.ok xs = false by rw [HB.out]; exact u_short (by rw [HL.out]; omega))
          go_wp2_with fail
          go_ret
          exact ⟨by rw [HR.out]; rfl, rfl⟩
        · have t1 : decide ((m : Int) - (p : Int) < 3) = false := by simp; omega
          go_wp2_with fail
          go_loopw [6, 7, 8] (fun lw hg k wq => ∃ (j : Nat) (l h : Int), 1 ≤ j ∧ j ≤ 3 ∧ lw = .int .u8 l ∧ hg = .int .u8 h ∧ k = .int .i64 (j : Int) ∧ Hid (Ut.ok xs = Ut.U (3 - j) l h (xs.drop (p + j))) ∧ wq = wr) (fun _ _ k _ => ((3 : Int) - intOf k).toNat)
          case atStart => exact ⟨1, 128, 159, by omega, by omega, rfl, rfl, by go_num, HB, rfl⟩
          case round =>
            obtain ⟨j, l, h, hj1, hjn, rfl, rfl, rfl, hU, rfl⟩ := hrel
            by_cases hjl : j < 3
            · have f1 : decide ((j : Int) < 3) = true := by simp; omega
              have HN := Lib.hid (show 3 - j = (3 - (j + 1)) + 1 by omega)
              have hpj : p + j < m := by omega
              have hy := byt_cell H.out hpj
              have BY := byt_byt H.out.byt (p + j)
              obtain ⟨y, ey⟩ : ∃ y, byt xs (p + j) = y := ⟨_, rfl⟩
              rw [ey] at hy BY
              replace ey := Lib.hid ey
              by_cases ca : y < l
              · have z0 : decide (y < l) = true := by simp; omega
                have HR := Lib.hid (show Ut.ok xs = false by rw [hU.out, HN.out]; exact u_bad (by rw [HL.out]; exact hpj) (by rw [ey.out]; omega))
                go_wp2_with fail
                go_ret
                exact ⟨by rw [HR.out]; rfl, rfl⟩
              by_cases cb : h < y
              · have z0 : decide (y < l) = false := by simp; omega
                have z1 : decide (h < y) = true := by simp; omega
                have HR := Lib.hid (show Ut.ok xs = false by rw [hU.out, HN.out]; exact u_bad (by rw [HL.out]; exact hpj) (by rw [ey.out]; omega))
                go_wp2_with fail
                go_ret
                exact ⟨by rw [HR.out]; rfl, rfl⟩
              have z0 : decide (y < l) = false := by simp; omega
              have z1 : decide (h < y) = false := by simp; omega
              have HR := Lib.hid (u_go (xs := xs) (p := p + j) (k := 3 - (j + 1)) (l := l) (h := h) (by rw [HL.out]; exact hpj) (by rw [ey.out]; omega))
              go_wp2_with fail
              go_roundw
              case rel => exact ⟨j + 1, 128, 191, by omega, by omega, rfl, rfl, by go_num, Lib.hid (by rw [hU.out, HN.out, HR.out, Nat.add_assoc]), by first | rfl | trivial⟩
              case measure => simp [intOf]; omega
            · obtain rfl : j = 3 := by omega
              have f1 : decide (((3 : Nat) : Int) < 3) = false := by simp
              have f2 : decide ((3 : Int) < 3) = false := by simp
              go_wp2_with fail
              go_roundw
              case rel => exact ⟨p + 3, by omega, by go_num, Lib.hid (by rw [hU.out, Nat.sub_self]; exact (Ut.U_ok _ _ _).symm), by first | rfl | trivial⟩
              case measure => simp [intOf]; omega
      by_cases kH : x = 240
      · have q0 : decide (128 ≤ x) = true := by simp; omega
        have q1 : decide (x < 194) = false := by simp; omega
        have q2 : decide (244 < x) = false := by simp; omega
        have q3 : decide (224 ≤ x) = true := by simp; omega
        have q4 : decide (240 ≤ x) = true := by simp; omega
        have q5 : (x == 224) = false := by rw [beq_eq_false_iff_ne]; omega
        have q6 : (x == 237) = false := by rw [beq_eq_false_iff_ne]; omega
        have q7 : (x == 240) = true := by rw [beq_iff_eq]; omega
        have q8 : (x == 244) = false := by rw [beq_eq_false_iff_ne]; omega
        have HB := Lib.hid (show Ut.ok xs = Ut.U 3 144 191 (xs.drop (p + 1)) by rw [← hS.out, step_go (n := 3) (by rw [HL.out]; exact hpm) (by rw [HEX.out]; unfold Ut.sz; repeat (first | rw [if_pos (by omega)] | rw [if_neg (by omega)])), HEX.out]; unfold Ut.lo Ut.hi; repeat (first | rw [if_pos (by omega)] | rw [if_neg (by omega)]))
        by_cases hr : m < p + 4
        · have t1 : decide ((m : Int) - (p : Int) < 4) = true := by simp; omega
          have HR := Lib.hid (show Ut.ok xs = false by rw [HB.out]; exact u_short (by rw [HL.out]; omega))
          go_wp2_with fail
          go_ret
          exact ⟨by rw [HR.out]; rfl, rfl⟩
        · have t1 : decide ((m : Int) - (p : Int) < 4) = false := by simp; omega
          go_wp2_with fail
          go_loopw [6, 7, 8] (fun lw hg k wq => ∃ (j : Nat) (l h : Int), 1 ≤ j ∧ j ≤ 4 ∧ lw = .int .u8 l ∧ hg = .int .u8 h ∧ k = .int .i64 (j : Int) ∧ Hid (Ut.ok xs = Ut.U (4 - j) l h (xs.drop (p + j))) ∧ wq = wr) (fun _ _ k _ => ((4 : Int) - intOf k).toNat)
          case atStart => exact ⟨1, 144, 191, by omega, by omega, rfl, rfl, by go_num, HB, rfl⟩
          case round =>
            obtain ⟨j, l, h, hj1, hjn, rfl, rfl, rfl, hU, rfl⟩ := hrel
            by_cases hjl : j < 4
            · have f1 : decide ((j : Int) < 4) = true := by simp; omega
              have HN := Lib.hid (show 4 - j = (4 - (j + 1)) + 1 by omega)
              have hpj : p + j < m := by omega
              have hy := byt_cell H.out hpj
              have BY := byt_byt H.out.byt (p + j)
              obtain ⟨y, ey⟩ : ∃ y, byt xs (p + j) = y := ⟨_, rfl⟩
              rw [ey] at hy BY
              replace ey := Lib.hid ey
              by_cases ca : y < l
              · have z0 : decide (y < l) = true := by simp; omega
                have HR := Lib.hid (show Ut.ok xs = false by rw [hU.out, HN.out]; exact u_bad (by rw [HL.out]; exact hpj) (by rw [ey.out]; omega))
                go_wp2_with fail
                go_ret
                exact ⟨by rw [HR.out]; rfl, rfl⟩
              by_cases cb : h < y
              · have z0 : decide (y < l) = false := by simp; omega
                have z1 : decide (h < y) = true := by simp; omega
                have HR := Lib.hid (show Ut.ok xs = false by rw [hU.out, HN.out]; exact u_bad (by rw [HL.out]; exact hpj) (by rw [ey.out]; omega))
                go_wp2_with fail
                go_ret
                exact ⟨by rw [HR.out]; rfl, rfl⟩
              have z0 : decide (y < l) = false := by simp; omega
              have z1 : decide (h < y) = false := by simp; omega
              have HR := Lib.hid (u_go (xs := xs) (p := p + j) (k := 4 - (j + 1)) (l := l) (h := h) (by rw [HL.out]; exact hpj) (by rw [ey.out]; omega))
              go_wp2_with fail
              go_roundw
              case rel => exact ⟨j + 1, 128, 191, by omega, by omega, rfl, rfl, by go_num, Lib.hid (by rw [hU.out, HN.out, HR.out, Nat.add_assoc]), by first | rfl | trivial⟩
              case measure => simp [intOf]; omega
            · obtain rfl : j = 4 := by omega
              have f1 : decide (((4 : Nat) : Int) < 4) = false := by simp
              have f2 : decide ((4 : Int) < 4) = false := by simp
              go_wp2_with fail
              go_roundw
              case rel => exact ⟨p + 4, by omega, by go_num, Lib.hid (by rw [hU.out, Nat.sub_self]; exact (Ut.U_ok _ _ _).symm), by first | rfl | trivial⟩
              case measure => simp [intOf]; omega
      by_cases kI : 241 ≤ x ∧ x < 244
      · have q0 : decide (128 ≤ x) = true := by simp; omega
        have q1 : decide (x < 194) = false := by simp; omega
        have q2 : decide (244 < x) = false := by simp; omega
        have q3 : decide (224 ≤ x) = true := by simp; omega
        have q4 : decide (240 ≤ x) = true := by simp; omega
        have q5 : (x == 224) = false := by rw [beq_eq_false_iff_ne]; omega
        have q6 : (x == 237) = false := by rw [beq_eq_false_iff_ne]; omega
        have q7 : (x == 240) = false := by rw [beq_eq_false_iff_ne]; omega
        have q8 : (x == 244) = false := by rw [beq_eq_false_iff_ne]; omega
        have HB := Lib.hid (show Ut.ok xs = Ut.U 3 128 191 (xs.drop (p + 1)) by rw [← hS.out, step_go (n := 3) (by rw [HL.out]; exact hpm) (by rw [HEX.out]; unfold Ut.sz; repeat (first | rw [if_pos (by omega)] | rw [if_neg (by omega)])), HEX.out]; unfold Ut.lo Ut.hi; repeat (first | rw [if_pos (by omega)] | rw [if_neg (by omega)]))
        by_cases hr : m < p + 4
        · have t1 : decide ((m : Int) - (p : Int) < 4) = true := by simp; omega
          have HR := Lib.hid (show Ut.ok xs = false by rw [HB.out]; exact u_short (by rw [HL.out]; omega))
          go_wp2_with fail
          go_ret
          exact ⟨by rw [HR.out]; rfl, rfl⟩
        · have t1 : decide ((m : Int) - (p : Int) < 4) = false := by simp; omega
          go_wp2_with fail
          go_loopw [6, 7, 8] (fun lw hg k wq => ∃ (j : Nat) (l h : Int), 1 ≤ j ∧ j ≤ 4 ∧ lw = .int .u8 l ∧ hg = .int .u8 h ∧ k = .int .i64 (j : Int) ∧ Hid (Ut.ok xs = Ut.U (4 - j) l h (xs.drop (p + j))) ∧ wq = wr) (fun _ _ k _ => ((4 : Int) - intOf k).toNat)
          case atStart => exact ⟨1, 128, 191, by omega, by omega, rfl, rfl, by go_num, HB, rfl⟩
          case round =>
            obtain ⟨j, l, h, hj1, hjn, rfl, rfl, rfl, hU, rfl⟩ := hrel
            by_cases hjl : j < 4
            · have f1 : decide ((j : Int) < 4) = true := by simp; omega
              have HN := Lib.hid (show 4 - j = (4 - (j + 1)) + 1 by omega)
              have hpj : p + j < m := by omega
              have hy := byt_cell H.out hpj
              have BY := byt_byt H.out.byt (p + j)
              obtain ⟨y, ey⟩ : ∃ y, byt xs (p + j) = y := ⟨_, rfl⟩
              rw [ey] at hy BY
              replace ey := Lib.hid ey
              by_cases ca : y < l
              · have z0 : decide (y < l) = true := by simp; omega
                have HR := Lib.hid (show Ut.ok xs = false by rw [hU.out, HN.out]; exact u_bad (by rw [HL.out]; exact hpj) (by rw [ey.out]; omega))
                go_wp2_with fail
                go_ret
                exact ⟨by rw [HR.out]; rfl, rfl⟩
              by_cases cb : h < y
              · have z0 : decide (y < l) = false := by simp; omega
                have z1 : decide (h < y) = true := by simp; omega
                have HR := Lib.hid (show Ut.ok xs = false by rw [hU.out, HN.out]; exact u_bad (by rw [HL.out]; exact hpj) (by rw [ey.out]; omega))
                go_wp2_with fail
                go_ret
                exact ⟨by rw [HR.out]; rfl, rfl⟩
              have z0 : decide (y < l) = false := by simp; omega
              have z1 : decide (h < y) = false := by simp; omega
              have HR := Lib.hid (u_go (xs := xs) (p := p + j) (k := 4 - (j + 1)) (l := l) (h := h) (by rw [HL.out]; exact hpj) (by rw [ey.out]; omega))
              go_wp2_with fail
              go_roundw
              case rel => exact ⟨j + 1, 128, 191, by omega, by omega, rfl, rfl, by go_num, Lib.hid (by rw [hU.out, HN.out, HR.out, Nat.add_assoc]), by first | rfl | trivial⟩
              case measure => simp [intOf]; omega
            · obtain rfl : j = 4 := by omega
              have f1 : decide (((4 : Nat) : Int) < 4) = false := by simp
              have f2 : decide ((4 : Int) < 4) = false := by simp
              go_wp2_with fail
              go_roundw
              case rel => exact ⟨p + 4, by omega, by go_num, Lib.hid (by rw [hU.out, Nat.sub_self]; exact (Ut.U_ok _ _ _).symm), by first | rfl | trivial⟩
              case measure => simp [intOf]; omega
      · have kJ : x = 244 := by omega
        have q0 : decide (128 ≤ x) = true := by simp; omega
        have q1 : decide (x < 194) = false := by simp; omega
        have q2 : decide (244 < x) = false := by simp; omega
        have q3 : decide (224 ≤ x) = true := by simp; omega
        have q4 : decide (240 ≤ x) = true := by simp; omega
        have q5 : (x == 224) = false := by rw [beq_eq_false_iff_ne]; omega
        have q6 : (x == 237) = false := by rw [beq_eq_false_iff_ne]; omega
        have q7 : (x == 240) = false := by rw [beq_eq_false_iff_ne]; omega
        have q8 : (x == 244) = true := by rw [beq_iff_eq]; omega
        have HB := Lib.hid (show Ut.ok xs = Ut.U 3 128 143 (xs.drop (p + 1)) by rw [← hS.out, step_go (n := 3) (by rw [HL.out]; exact hpm) (by rw [HEX.out]; unfold Ut.sz; repeat (first | rw [if_pos (by omega)] | rw [if_neg (by omega)])), HEX.out]; unfold Ut.lo Ut.hi; repeat (first | rw [if_pos (by omega)] | rw [if_neg (by omega)]))
        by_cases hr : m < p + 4
        · have t1 : decide ((m : Int) - (p : Int) < 4) = true := by simp; omega
          have HR := Lib.hid (show Ut.ok xs = false by rw [HB.out]; exact u_short (by rw [HL.out]; omega))
          go_wp2_with fail
          go_ret
          exact ⟨by rw [HR.out]; rfl, rfl⟩
        · have t1 : decide ((m : Int) - (p : Int) < 4) = false := by simp; omega
          go_wp2_with fail
          go_loopw [6, 7, 8] (fun lw hg k wq => ∃ (j : Nat) (l h : Int), 1 ≤ j ∧ j ≤ 4 ∧ lw = .int .u8 l ∧ hg = .int .u8 h ∧ k = .int .i64 (j : Int) ∧ Hid (Ut.ok xs = Ut.U (4 - j) l h (xs.drop (p + j))) ∧ wq = wr) (fun _ _ k _ => ((4 : Int) - intOf k).toNat)
          case atStart => exact ⟨1, 128, 143, by omega, by omega, rfl, rfl, by go_num, HB, rfl⟩
          case round =>
            obtain ⟨j, l, h, hj1, hjn, rfl, rfl, rfl, hU, rfl⟩ := hrel
            by_cases hjl : j < 4
            · have f1 : decide ((j : Int) < 4) = true := by simp; omega
              have HN := Lib.hid (show 4 - j = (4 - (j + 1)) + 1 by omega)
              have hpj : p + j < m := by omega
              have hy := byt_cell H.out hpj
              have BY := byt_byt H.out.byt (p + j)
              obtain ⟨y, ey⟩ : ∃ y, byt xs (p + j) = y := ⟨_, rfl⟩
              rw [ey] at hy BY
              replace ey := Lib.hid ey
              by_cases ca : y < l
              · have z0 : decide (y < l) = true := by simp; omega
                have HR := Lib.hid (show Ut.ok xs = false by rw [hU.out, HN.out]; exact u_bad (by rw [HL.out]; exact hpj) (by rw [ey.out]; omega))
                go_wp2_with fail
                go_ret
                exact ⟨by rw [HR.out]; rfl, rfl⟩
              by_cases cb : h < y
              · have z0 : decide (y < l) = false := by simp; omega
                have z1 : decide (h < y) = true := by simp; omega
                have HR := Lib.hid (show Ut.ok xs = false by rw [hU.out, HN.out]; exact u_bad (by rw [HL.out]; exact hpj) (by rw [ey.out]; omega))
                go_wp2_with fail
                go_ret
                exact ⟨by rw [HR.out]; rfl, rfl⟩
              have z0 : decide (y < l) = false := by simp; omega
              have z1 : decide (h < y) = false := by simp; omega
              have HR := Lib.hid (u_go (xs := xs) (p := p + j) (k := 4 - (j + 1)) (l := l) (h := h) (by rw [HL.out]; exact hpj) (by rw [ey.out]; omega))
              go_wp2_with fail
              go_roundw
              case rel => exact ⟨j + 1, 128, 191, by omega, by omega, rfl, rfl, by go_num, Lib.hid (by rw [hU.out, HN.out, HR.out, Nat.add_assoc]), by first | rfl | trivial⟩
              case measure => simp [intOf]; omega
            · obtain rfl : j = 4 := by omega
              have f1 : decide (((4 : Nat) : Int) < 4) = false := by simp
              have f2 : decide ((4 : Int) < 4) = false := by simp
              go_wp2_with fail
              go_roundw
              case rel => exact ⟨p + 4, by omega, by go_num, Lib.hid (by rw [hU.out, Nat.sub_self]; exact (Ut.U_ok _ _ _).symm), by first | rfl | trivial⟩
              case measure => simp [intOf]; omega
    · obtain rfl : p = m := by omega
      have e1 : decide ((p : Int) < (p : Int)) = false := by simp
      have HR := Lib.hid (show Ut.ok xs = true by rw [← hS.out, List.drop_of_length_le (by rw [HL.out]; exact Nat.le_refl _)]; rfl)
      go_wp2_with fail
      go_ret
      exact ⟨by rw [HR.out]; rfl, rfl⟩
end Go.Proofs.YtghldkjbmfbdfaaDoor
