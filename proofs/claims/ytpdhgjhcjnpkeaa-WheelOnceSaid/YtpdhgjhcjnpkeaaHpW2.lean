import Derived.Test.YtpdhgjhcjnpkeaaHpW
import Derived.Deep.DeepCutAuto
namespace Go.Proofs.Ytpdhgjhcjnpkeaa
open Go Go.RowKit
set_option linter.unusedVariables false
section
variable {IsH : (Nat → Prop) → World → Addr → List Tm.T → Prop}
set_option maxHeartbeats 800000 in
theorem down_w (C : HC IsH) (S : Nat → Prop) (p : Addr) (a : List Tm.T) (i n : Nat) (w : World) (h : IsH S w p a) (hi : i ≤ 4096) (hn : n ≤ a.length) :
    Calls Try.prog 21 #[.iface 50 (.agg #[.pointer (some p)]), .int .i64 (i : Int), .int .i64 (n : Int)] w fun e w' => e = .returned (.bool (decide (i < (Hp.down a i n).2))) ∧ ∃ S', IsH S' w' p (Hp.down a i n).1 ∧ Sub S' S w ∧ Out S w w' := by
  have hbd := C.bd h
  have hn2 : n ≤ 4096 := by omega
  have HN := Lib.hid hn
  clear hbd hn
  go_enter Try.func21, Try.ntmps21
  go_wp2_with fail
  go_loopw [7] (fun s wx => ∃ (q : Nat) (b : List Tm.T) (S' : Nat → Prop), s = .int .i64 q ∧ q ≤ 4096 ∧ Hid (b.length = a.length) ∧ Hid (Hp.down b q n = Hp.down a i n) ∧ Hid (IsH S' wx p b ∧ Sub S' S w ∧ Out S w wx)) (fun s _ => n - (intOf s).toNat)
  case atStart => exact ⟨i, a, S, rfl, hi, Lib.hid rfl, Lib.hid rfl, Lib.hid ⟨h, Sub.refl _ _, Out.refl _ _⟩⟩
  case round =>
    obtain ⟨q, b, S', rfl, hq, hl, hd, hI⟩ := hrel
    have m1 := met_less p
    have m2 := met_swap p
    obtain ⟨g1, g2, g3⟩ := hI.out
    have H1 := Lib.hid g1
    have H2 := Lib.hid g2
    have H3 := Lib.hid g3
    have HC := Lib.hid C
    clear g1 g2 g3 hI C h
    by_cases h0 : 2 * q + 1 < n
    · have c1 := Hp.child_bd b q n
      have c2 := Hp.child_lt (a := b) h0
      have hlb : n ≤ b.length := by rw [hl.out]; exact HN.out
      have hql : q < b.length := by omega
      have hcl : Hp.child b q n < b.length := by omega
      have HB := Lib.hid hlb
      have HCL := Lib.hid hcl
      have HQL := Lib.hid hql
      clear hlb hcl hql
      have k1 : 2 * (q : Int) + 1 < n := by omega
      have k0 : 0 ≤ 2 * (q : Int) + 1 := by omega
      go_upto_region 6 with (fail)
      go_cut [33] (fun s33 wx => s33 = .bool (decide (2 * q + 2 < n ∧ Tm.Bef (Hp.at_ b (2 * q + 2)) (Hp.at_ b (2 * q + 1)))) ∧ Hid (Up wr wx))
      case first =>
        by_cases hj : 2 * q + 2 < n
        · have k2 : 2 * (q : Int) + 1 + 1 < n := by omega
          go_wp2_with fail
          refine (HC.out.less S' p b (2 * q + 2) (2 * q + 1) _ _ wr H1.out (by have := HB.out; omega) (by have := HB.out; omega) (by omega) (by omega)).mono ?_
          rintro e w1 ⟨rfl, ud⟩
          have UD := Lib.hid ud
          clear ud
          have E := Lib.hid (show decide (2 * q + 2 < n ∧ Tm.Bef (Hp.at_ b (2 * q + 2)) (Hp.at_ b (2 * q + 1))) = decide (Tm.Bef (Hp.at_ b (2 * q + 2)) (Hp.at_ b (2 * q + 1))) from by rw [Bool.eq_iff_iff, decide_eq_true_iff, decide_eq_true_iff]; exact ⟨fun h => h.2, fun h => ⟨hj, h⟩⟩)
          generalize decide (Tm.Bef (Hp.at_ b (2 * q + 2)) (Hp.at_ b (2 * q + 1))) = bb at E ⊢
          go_wp2_with fail
          go_meet
          exact ⟨by rw [E.out], UD⟩
        · have k2 : (n : Int) ≤ 2 * (q : Int) + 1 + 1 := by omega
          have E := Lib.hid (show decide (2 * q + 2 < n ∧ Tm.Bef (Hp.at_ b (2 * q + 2)) (Hp.at_ b (2 * q + 1))) = false from decide_eq_false (fun h => hj h.1))
          clear hj
          go_wp2_with fail
          go_meet
          exact ⟨by rw [E.out], Lib.hid (Up.refl _)⟩
      case rest =>
        obtain ⟨rfl, UX⟩ := hcut
        go_upto_if 33 with (fail)
        go_cut [9] (fun s9 wx => s9 = .int .i64 (Hp.child b q n : Nat) ∧ Hid (Up wr wx))
        case first =>
          by_cases hc : 2 * q + 2 < n ∧ Tm.Bef (Hp.at_ b (2 * q + 2)) (Hp.at_ b (2 * q + 1))
          · have E := Lib.hid (show Hp.child b q n = 2 * q + 2 by unfold Hp.child; rw [if_pos hc])
            rw [decide_eq_true hc]
            go_wp2_with fail
            go_meet
            exact ⟨by rw [E.out]; go_num, UX⟩
          · have E := Lib.hid (show Hp.child b q n = 2 * q + 1 by unfold Hp.child; rw [if_neg hc])
            rw [decide_eq_false hc]
            go_wp2_with fail
            go_meet
            exact ⟨by rw [E.out]; go_num, UX⟩
        case rest =>
          obtain ⟨rfl, UY⟩ := hcut
          have ud := UY.out
          have K1 := Lib.hid (HC.out.keep H1.out (fun k hk => ud.block k (HC.out.lt H1.out k hk)))
          have O1 := Lib.hid (H3.out.trans (ud.out S') H2.out)
          clear ud H1 H3 UX UY
          by_cases hb : Tm.Bef (Hp.at_ b (Hp.child b q n)) (Hp.at_ b q)
          · have hf := Lib.hid (show Hp.down b q n = Hp.down (Hp.swp b q (Hp.child b q n)) (Hp.child b q n) n by conv => lhs; unfold Hp.down; rw [dif_pos h0, if_pos hb])
            generalize hgc : Hp.child b q n = c at *
            clear hgc
            go_wp2_with fail
            refine (HC.out.less S' p b c q _ _ _ K1.out HCL.out HQL.out rfl rfl).mono ?_
            rintro e w1 ⟨rfl, ud⟩
            rw [decide_eq_true hb]
            have K2 := Lib.hid (HC.out.keep K1.out (fun k hk => ud.block k (HC.out.lt K1.out k hk)))
            go_wp2_with fail
            refine (HC.out.swap S' p b q c _ _ _ K2.out HQL.out HCL.out rfl rfl).mono ?_
            rintro e w2 ⟨rfl, S2, k1, k2, k3⟩
            have J := Lib.hid (show IsH S2 w2 p (Hp.swp b q c) ∧ Sub S2 S w ∧ Out S w w2 from
              ⟨k1, H2.out.trans (w' := w1) k2 (O1.out.trans (ud.out S') H2.out).size, (O1.out.trans (ud.out S') H2.out).trans k3 H2.out⟩)
            clear k1 k2 k3 hb
            go_wp2_with fail
            go_roundw
            case rel => exact ⟨c, _, S2, rfl, by omega, Lib.hid (by rw [Hp.swp_length]; exact hl.out), Lib.hid (hf.out.symm.trans hd.out), J⟩
            case measure => simp [intOf]; omega
          · have hf := Lib.hid (show Hp.down b q n = (b, q) by unfold Hp.down; rw [dif_pos h0, if_neg hb])
            generalize hgc : Hp.child b q n = c at *
            clear hgc
            go_wp2_with fail
            refine (HC.out.less S' p b c q _ _ _ K1.out HCL.out HQL.out rfl rfl).mono ?_
            rintro e w1 ⟨rfl, ud⟩
            rw [decide_eq_false hb]
            have K2 := Lib.hid (HC.out.keep K1.out (fun k hk => ud.block k (HC.out.lt K1.out k hk)))
            go_wp2_with fail
            go_ret
            refine ⟨by rw [← hd.out, hf.out]; rfl, S', by rw [← hd.out, hf.out]; exact K2.out, H2.out, O1.out.trans (ud.out S') H2.out⟩
    · have k1 : (n : Int) ≤ 2 * (q : Int) + 1 := by omega
      have hf := Lib.hid (show Hp.down b q n = (b, q) by unfold Hp.down; rw [dif_neg h0])
      clear h0
      go_wp2_with fail
      go_ret
      refine ⟨by rw [← hd.out, hf.out]; rfl, S', by rw [← hd.out, hf.out]; exact H1.out, H2.out, H3.out⟩
end
end Go.Proofs.Ytpdhgjhcjnpkeaa
