import Derived.Test.YtghldkjbmfbdfaaDoorDc7
import Derived.Deep.DeepBigQuietO
namespace Go.Proofs.YtghldkjbmfbdfaaDoor
open Go Go.RowKit Dc
set_option linter.unusedVariables false
set_option linter.unusedSimpArgs false
/-! The reference's RulesOK. -/
theorem may_no {c v t l k : Int} {m : Bool} (h : t < 1 ∨ 11 < t ∨ l < 0 ∨ k < l ∨ 64 < k) : Ru.may ⟨c, v, t, m, l, k⟩ = false := by
  unfold Ru.may
  exact decide_eq_false (by show ¬ _; simp only; omega)
theorem nm_eq {q r : Ru} : q.nm = r.nm ↔ q.code = r.code ∧ q.vendor = r.vendor := by
  unfold Ru.nm; simp
set_option maxRecDepth 100000 in
set_option maxHeartbeats 4000000 in
theorem rulesOK_any (A : Option Addr) (m c : Nat) (rs : List Ru) (w : World) (h : InR w A m c rs) (hm : m ≤ 140737488351232) : Calls Tryd.prog 20 #[.slice A m c] w fun e w' => e = .returned (.bool (sound rs)) ∧ Up w w' := by
  have H := Lib.hid h
  have HL := Lib.hid h.len
  have hcap := h.cap
  have hmo : Tryd.prog.follows .mixedOrders = true := by kernel_rfl
  clear h
  by_cases h64 : m ≤ 64
  · have d0 : decide (64 < (m : Int)) = false := decide_eq_false (by omega)
    go_enter Tryd.func20, Tryd.ntmps20
    go_wp2_with fail
    go_loopw [3] (fun i wr => ∃ k : Nat, k ≤ m ∧ i = .int .i64 (k : Int) ∧ Hid (∀ i, i < k → okAt rs i = true) ∧ Hid (Up w wr)) (fun i _ => m - (intOf i).toNat)
    case atStart => exact ⟨0, Nat.zero_le _, rfl, Lib.hid (fun i hi => absurd hi (by omega)), Lib.hid (Up.refl _)⟩
    case round =>
      obtain ⟨k, hk, rfl, hA, hU⟩ := hrel
      by_cases hlt : k < m
      · have d1 : decide ((k : Int) < (m : Int)) = true := decide_eq_true (by omega)
        obtain ⟨r, g, o, hr, rfl, ⟨k0, k1, k2, k3, k4, k5⟩, hro⟩ := (H.out.up hU.out).at_ hlt
        have HR := Lib.hid hr
        have HK := Lib.hid (okAt_some hr)
        clear hr hro
        have HC := Lib.hid (new_at wr (ruC r))
        have HUa := Lib.hid (up_alloc wr (ruC r))
        go_upto_region 7 with (fail)
        change Code.wp _ _ _ _ (wr.alloc (ruC r))
        generalize wr.alloc (ruC r) = wa at HC HUa ⊢
        generalize wr.heap.size = q at HC ⊢
        clear k0 k1 k2 k3 k4 k5
        have HUb := Lib.hid (hU.out.trans HUa.out)
        clear HUa hU
        have z2 := cell_of HC.out (j := 2) rfl
        have z4 := cell_of HC.out (j := 4) rfl
        have z5 := cell_of HC.out (j := 5) rfl
        obtain ⟨rc, rv, rt, rm, rl, rk⟩ := r
        simp only at z2 z4 z5
        by_cases q1 : rt < 1
        · have e1 : decide (rt < 1) = true := decide_eq_true q1
          have HF := Lib.hid (sound_no (rs := rs) (i := k) (by rw [HL.out]; exact hlt) (by rw [HK.out, may_no (.inl q1)]; rfl))
          go_wp2_with fail
          go_ret
          exact ⟨by rw [HF.out]; rfl, HUb.out⟩
        have e1 : decide (rt < 1) = false := decide_eq_false q1
        by_cases q2 : 11 < rt
        · have e2 : decide (11 < rt) = true := decide_eq_true q2
          have HF := Lib.hid (sound_no (rs := rs) (i := k) (by rw [HL.out]; exact hlt) (by rw [HK.out, may_no (.inr (.inl q2))]; rfl))
          go_wp2_with fail
          go_ret
          exact ⟨by rw [HF.out]; rfl, HUb.out⟩
        have e2 : decide (11 < rt) = false := decide_eq_false q2
        by_cases q3 : rl < 0
        · have e3 : decide (rl < 0) = true := decide_eq_true q3
          have HF := Lib.hid (sound_no (rs := rs) (i := k) (by rw [HL.out]; exact hlt) (by rw [HK.out, may_no (.inr (.inr (.inl q3)))]; rfl))
          go_wp2_with fail
          go_ret
          exact ⟨by rw [HF.out]; rfl, HUb.out⟩
        have e3 : decide (rl < 0) = false := decide_eq_false q3
        by_cases q4 : rk < rl
        · have e4 : decide (rk < rl) = true := decide_eq_true q4
          have HF := Lib.hid (sound_no (rs := rs) (i := k) (by rw [HL.out]; exact hlt) (by rw [HK.out, may_no (.inr (.inr (.inr (.inl q4))))]; rfl))
          go_wp2_with fail
          go_ret
          exact ⟨by rw [HF.out]; rfl, HUb.out⟩
        have e4 : decide (rk < rl) = false := decide_eq_false q4
        by_cases q5 : 64 < rk
        · have e5 : decide (64 < rk) = true := decide_eq_true q5
          have HF := Lib.hid (sound_no (rs := rs) (i := k) (by rw [HL.out]; exact hlt) (by rw [HK.out, may_no (.inr (.inr (.inr (.inr q5))))]; rfl))
          go_wp2_with fail
          go_ret
          exact ⟨by rw [HF.out]; rfl, HUb.out⟩
        have e5 : decide (64 < rk) = false := decide_eq_false q5
        have HMy := Lib.hid (show Ru.may ⟨rc, rv, rt, rm, rl, rk⟩ = true from decide_eq_true (by show _ ∧ _; simp only; omega))
        clear q1 q2 q3 q4 q5
        go_wp2_with fail
        clear e1 e2 e3 e4 e5 z2 z4 z5
        go_loopw [5] (fun i wr => ∃ j : Nat, j ≤ k ∧ i = .int .i64 (j : Int) ∧ Hid (has (rs.take j) (rc, rv) = false) ∧ Hid (Up wa wr)) (fun i _ => k - (intOf i).toNat)
        case atStart => exact ⟨0, Nat.zero_le _, rfl, Lib.hid (by simp [has]), Lib.hid (Up.refl _)⟩
        case round =>
          obtain ⟨j, hj, rfl, hN, hV⟩ := hrel
          have HW := Lib.hid (HUb.out.trans hV.out)
          by_cases hjk : j < k
          · have d2 : decide ((j : Int) < (k : Int)) = true := decide_eq_true (by omega)
            have hjm : j < m := by omega
            have hjz : (j : Int) < (m : Int) := by omega
            obtain ⟨p, g', o', hp, he, ⟨k0, k1, -, -, -, -⟩, -⟩ := (H.out.up HW.out).at_ hjm
            cases he
            have HP := Lib.hid hp
            clear hp
            have z0 := cell_up (cell_of HC.out (j := 0) rfl) hV.out
            have z1 := cell_up (cell_of HC.out (j := 1) rfl) hV.out
            simp only at z0 z1
            go_upto_region 12 with (fail)
            by_cases e1 : p.code = rc
            · have f1 : (p.code == rc) = true := by simp [e1]
              by_cases e2 : p.vendor = rv
              · have f2 : (p.vendor == rv) = true := by simp [e2]
                have HF := Lib.hid (sound_no (rs := rs) (i := k) (by rw [HL.out]; exact hlt) (by
                  rw [HK.out, show has (rs.take k) (Ru.nm ⟨rc, rv, rt, rm, rl, rk⟩) = true from has_true.2 ⟨p, List.mem_of_getElem? (i := j) (by rw [List.getElem?_take, if_pos hjk]; exact HP.out), nm_eq.2 ⟨e1, e2⟩⟩]; simp))
                clear e1 e2
                go_big_quiet_o (fail)
                have HX := Lib.hid (Up.trans HW.out (up_drewN _ nq))
                generalize wr.drewN nq = wq at HX ⊢
                go_wp2_with fail
                go_ret
                exact ⟨by rw [HF.out]; rfl, HX.out⟩
              · have f2 : (p.vendor == rv) = false := by simp [e2]
                have HN2 := Lib.hid (has_take HP.out hN.out (fun e => e2 (congrArg Prod.snd e)))
                clear e1 e2
                go_big_quiet_o (fail)
                have HX := Lib.hid (Up.trans hV.out (up_drewN _ nq))
                generalize wr.drewN nq = wq at HX ⊢
                go_wp2_with fail
                go_roundw
                case rel => exact ⟨j + 1, by omega, by go_num, HN2, HX⟩
                case measure => simp [intOf]; omega
            · have f1 : (p.code == rc) = false := by simp [e1]
              have HN2 := Lib.hid (has_take HP.out hN.out (fun e => e1 (congrArg Prod.fst e)))
              clear e1
              go_big_quiet_o (fail)
              have HX := Lib.hid (Up.trans hV.out (up_drewN _ nq))
              generalize wr.drewN nq = wq at HX ⊢
              go_wp2_with fail
              go_roundw
              case rel => exact ⟨j + 1, by omega, by go_num, HN2, HX⟩
              case measure => simp [intOf]; omega
          · have d2 : decide ((j : Int) < (k : Int)) = false := decide_eq_false (by omega)
            obtain rfl : j = k := by omega
            have HO := Lib.hid (ok_step hA.out (by rw [HK.out, HMy.out, show Ru.nm ⟨rc, rv, rt, rm, rl, rk⟩ = (rc, rv) from rfl, hN.out]; rfl))
            go_wp2_with fail
            go_roundw
            case rel => exact ⟨j + 1, by omega, by go_num, HO, HW⟩
            case measure => simp [intOf]; omega
      · have d1 : decide ((k : Int) < (m : Int)) = false := decide_eq_false (by omega)
        have HF := Lib.hid (sound_yes (rs := rs) (by rw [HL.out]; exact h64) (fun i hi => hA.out i (by rw [HL.out] at hi; omega)))
        go_wp2_with fail
        go_ret
        exact ⟨by rw [HF.out]; rfl, hU.out⟩
  · have d0 : decide (64 < (m : Int)) = true := decide_eq_true (by omega)
    have HF := Lib.hid (sound_len (rs := rs) (by rw [HL.out]; exact h64))
    go_enter Tryd.func20, Tryd.ntmps20
    go_wp2_with fail
    go_ret
    exact ⟨by rw [HF.out]; rfl, Up.refl _⟩
end Go.Proofs.YtghldkjbmfbdfaaDoor
