import Derived.Test.YtpdhgjhcjnpkeaaHpW2
import Derived.Test.YtpdhgjhcjnpkeaaHpM2
namespace Go.Proofs.Ytpdhgjhcjnpkeaa
open Go Go.RowKit
set_option linter.unusedVariables false
/-- What is asked of Push and Pop of the heap's own type: 'box x' is an alarm as an interface value. -/
structure HC2 (IsH : (Nat → Prop) → World → Addr → List Tm.T → Prop) (box : Tm.T → Value) : Prop where
  push : ∀ (S : Nat → Prop) (p : Addr) (a : List Tm.T) (x : Tm.T) (w : World), IsH S w p a → a.length < 4096 → Tm.has a x.1 = false → I64 x.1 → I64 x.2 →
    Calls Try.prog 63 #[.agg #[.pointer (some p)], box x] w fun e w' => e = .returned (.tuple #[]) ∧ ∃ S', IsH S' w' p (a ++ [x]) ∧ Sub S' S w ∧ Out S w w'
  pop : ∀ (S : Nat → Prop) (p : Addr) (a : List Tm.T) (w : World), IsH S w p a → 0 < a.length →
    Calls Try.prog 62 #[.agg #[.pointer (some p)]] w fun e w' => e = .returned (box (Hp.at_ a (a.length - 1))) ∧ ∃ S', IsH S' w' p a.dropLast ∧ Sub S' S w ∧ Out S w w'
section
variable {IsH : (Nat → Prop) → World → Addr → List Tm.T → Prop} {box : Tm.T → Value}
theorem push_w (C : HC IsH) (D : HC2 IsH box) (S : Nat → Prop) (p : Addr) (a : List Tm.T) (x : Tm.T) (w : World) (h : IsH S w p a) (hl : a.length < 4096) (hn : Tm.has a x.1 = false) (h1 : I64 x.1) (h2 : I64 x.2) :
    Calls Try.prog 14 #[.iface 50 (.agg #[.pointer (some p)]), box x] w fun e w' => e = .returned (.tuple #[]) ∧ ∃ S', IsH S' w' p (Hp.up (a ++ [x]) a.length) ∧ Sub S' S w ∧ Out S w w' := by
  have m1 := met_push p
  have m2 := met_len p
  have c := Lib.hid (D.push S p a x w h hl hn h1 h2)
  have HC := Lib.hid C
  generalize box x = v at c ⊢
  clear C D h h1 h2 hn
  go_enter Try.func14, Try.ntmps14
  go_wp2_with fail
  refine c.out.mono ?_
  rintro e w1 ⟨rfl, S1, g1, g2, g3⟩
  have H1 := Lib.hid g1
  have H2 := Lib.hid g2
  have H3 := Lib.hid g3
  have L := Lib.hid (show (a ++ [x]).length = a.length + 1 by simp)
  clear g1 g2 g3 c
  go_wp2_with fail
  refine (HC.out.len S1 p _ _ H1.out).mono ?_
  rintro e w2 ⟨rfl, ud⟩
  have K1 := Lib.hid (HC.out.keep H1.out (fun k hk => ud.block k (HC.out.lt H1.out k hk)))
  have O2 := Lib.hid (H3.out.trans (ud.out S1) H2.out)
  clear ud
  rw [L.out]
  go_wp2_with fail
  refine (up_w HC.out S1 p (a ++ [x]) a.length _ K1.out (by have := L.out; omega)).mono ?_
  rintro e w3 ⟨rfl, S3, k1, k2, k3⟩
  go_wp2_with fail
  go_end0
  exact ⟨rfl, S3, k1, H2.out.trans k2 O2.out.size, O2.out.trans k3 H2.out⟩
theorem pop_w (C : HC IsH) (D : HC2 IsH box) (S : Nat → Prop) (p : Addr) (a : List Tm.T) (n : Nat) (w : World) (h : IsH S w p a) (hl : a.length = n + 1) (hh : Hp.Heap a a.length) :
    Calls Try.prog 16 #[.iface 50 (.agg #[.pointer (some p)])] w fun e w' => e = .returned (box (Hp.at_ a 0)) ∧ ∃ S', IsH S' w' p (Hp.down (Hp.swp a 0 n) 0 n).1.dropLast ∧ Sub S' S w ∧ Out S w w' := by
  have m1 := met_len p
  have m2 := met_swap p
  have m3 := met_pop p
  have HC := Lib.hid C
  have HD := Lib.hid D
  have H := Lib.hid h
  have HL := Lib.hid hl
  have HH := Lib.hid (Hp.pop_all hl hh).1
  have hb := C.bd h
  have hn4 : n ≤ 4096 := by omega
  clear C D h hl hh hb
  go_enter Try.func16, Try.ntmps16
  go_wp2_with fail
  refine (HC.out.len S p _ _ H.out).mono ?_
  rintro e w2 ⟨rfl, ud⟩
  replace H := Lib.hid (HC.out.keep H.out (fun k hk => ud.block k (HC.out.lt H.out k hk)))
  have UO := Lib.hid (ud.out S)
  clear ud
  rw [HL.out]
  go_wp2_with fail
  refine (HC.out.swap S p a 0 n _ _ _ H.out (by have := HL.out; omega) (by have := HL.out; omega) (by omega) (by omega)).mono ?_
  rintro e w3 ⟨rfl, S3, k1, k2, k3⟩
  have H1 := Lib.hid k1
  have H2 := Lib.hid ((Sub.refl S w).trans k2 UO.out.size)
  have H3 := Lib.hid (UO.out.trans k3 (Sub.refl S w))
  have L2 := Lib.hid (show (Hp.swp a 0 n).length = n + 1 by rw [Hp.swp_length]; exact HL.out)
  clear k1 k2 k3
  go_wp2_with fail
  refine (down_w HC.out S3 p (Hp.swp a 0 n) 0 n _ H1.out (by omega) (by have := L2.out; omega)).mono ?_
  rintro e w4 ⟨rfl, S4, k1, k2, k3⟩
  have J1 := Lib.hid k1
  have J2 := Lib.hid (H2.out.trans k2 H3.out.size)
  have J3 := Lib.hid (H3.out.trans k3 H2.out)
  have L3 := Lib.hid (show (Hp.down (Hp.swp a 0 n) 0 n).1.length = n + 1 by rw [Hp.down_length]; exact L2.out)
  clear k1 k2 k3
  generalize decide (0 < (Hp.down (Hp.swp a 0 n) 0 n).2) = bb
  go_wp2_with fail
  refine (HD.out.pop S4 p _ _ J1.out (by have := L3.out; omega)).mono ?_
  rintro e w5 ⟨rfl, S5, k1, k2, k3⟩
  have e9 := Lib.hid (show Hp.at_ (Hp.down (Hp.swp a 0 n) 0 n).1 ((Hp.down (Hp.swp a 0 n) 0 n).1.length - 1) = Hp.at_ a 0 by rw [L3.out, Nat.add_sub_cancel]; exact HH.out)
  have N1 := Lib.hid k1
  have N2 := Lib.hid (J2.out.trans k2 J3.out.size)
  have N3 := Lib.hid (J3.out.trans k3 J2.out)
  clear k1 k2 k3
  rw [e9.out]
  generalize hv : box (Hp.at_ a 0) = v
  have HV := Lib.hid hv
  clear hv
  go_wp2_with fail
  go_ret
  exact ⟨by rw [HV.out]; rfl, S5, N1.out, N2.out, N3.out⟩
set_option maxHeartbeats 800000 in
/-- Remove, of whichever place. -/
theorem remove_w (C : HC IsH) (D : HC2 IsH box) (S : Nat → Prop) (p : Addr) (a : List Tm.T) (i n : Nat) (w : World) (h : IsH S w p a) (hl : a.length = n + 1) (hi : i ≤ n) (hh : Hp.Heap a a.length) :
    Calls Try.prog 20 #[.iface 50 (.agg #[.pointer (some p)]), .int .i64 (i : Int)] w fun e w' => e = .returned (box (Hp.at_ a i)) ∧ ∃ S', IsH S' w' p (Hp.out a i n).dropLast ∧ Sub S' S w ∧ Out S w w' := by
  have m1 := met_len p
  have m2 := met_swap p
  have m3 := met_pop p
  have HC := Lib.hid C
  have HD := Lib.hid D
  have H := Lib.hid h
  have HL := Lib.hid hl
  have HH := Lib.hid (Hp.out_all hl hi hh).1
  have L3 := Lib.hid (show (Hp.out a i n).length = n + 1 by rw [Hp.out_length]; exact hl)
  have hb := C.bd h
  have hn4 : n ≤ 4096 := by omega
  have e9 := Lib.hid (show Hp.at_ (Hp.out a i n) ((Hp.out a i n).length - 1) = Hp.at_ a i by rw [L3.out, Nat.add_sub_cancel]; exact HH.out)
  clear C D h hl hh hb
  by_cases hne : n = i
  · have e1 : ((n : Int) != (i : Int)) = false := by rw [bne_eq_false_iff_eq]; omega
    have eo := Lib.hid (show Hp.out a i n = a by unfold Hp.out; rw [if_pos hne])
    clear hne
    go_enter Try.func20, Try.ntmps20
    go_wp2_with fail
    refine (HC.out.len S p _ _ H.out).mono ?_
    rintro e w2 ⟨rfl, ud⟩
    replace H := Lib.hid (HC.out.keep H.out (fun k hk => ud.block k (HC.out.lt H.out k hk)))
    have UO := Lib.hid (ud.out S)
    clear ud
    rw [HL.out]
    go_wp2_with fail
    refine (HD.out.pop S p _ _ H.out (by have := HL.out; omega)).mono ?_
    rintro e w5 ⟨rfl, S5, k1, k2, k3⟩
    have e9' := e9.out
    rw [eo.out] at e9'
    rw [e9']
    clear e9'
    generalize hv : box (Hp.at_ a i) = v
    have HV := Lib.hid hv
    clear hv
    have N1 := Lib.hid k1
    have N2 := Lib.hid ((Sub.refl S w).trans k2 UO.out.size)
    have N3 := Lib.hid (UO.out.trans k3 (Sub.refl S w))
    clear k1 k2 k3
    go_wp2_with fail
    go_ret
    exact ⟨by rw [HV.out]; rfl, S5, by rw [eo.out]; exact N1.out, N2.out, N3.out⟩
  · have e1 : ((n : Int) != (i : Int)) = true := by rw [bne_iff_ne]; omega
    have eo := Lib.hid (show Hp.out a i n = Hp.fix (Hp.swp a i n) i n by unfold Hp.out; rw [if_neg hne])
    have hlt : i < n := by omega
    clear hne
    go_enter Try.func20, Try.ntmps20
    go_wp2_with fail
    refine (HC.out.len S p _ _ H.out).mono ?_
    rintro e w2 ⟨rfl, ud⟩
    replace H := Lib.hid (HC.out.keep H.out (fun k hk => ud.block k (HC.out.lt H.out k hk)))
    have UO := Lib.hid (ud.out S)
    clear ud
    rw [HL.out]
    go_wp2_with fail
    refine (HC.out.swap S p a i n _ _ _ H.out (by have := HL.out; omega) (by have := HL.out; omega) (by omega) (by omega)).mono ?_
    rintro e w3 ⟨rfl, S3, k1, k2, k3⟩
    have H1 := Lib.hid k1
    have H2 := Lib.hid ((Sub.refl S w).trans k2 UO.out.size)
    have H3 := Lib.hid (UO.out.trans k3 (Sub.refl S w))
    have L2 := Lib.hid (show (Hp.swp a i n).length = n + 1 by rw [Hp.swp_length]; exact HL.out)
    clear k1 k2 k3
    go_wp2_with fail
    refine (down_w HC.out S3 p (Hp.swp a i n) i n _ H1.out (by omega) (by have := L2.out; omega)).mono ?_
    rintro e w4 ⟨rfl, S4, k1, k2, k3⟩
    have J1 := Lib.hid k1
    have J2 := Lib.hid (H2.out.trans k2 H3.out.size)
    have J3 := Lib.hid (H3.out.trans k3 H2.out)
    clear k1 k2 k3
    by_cases hd : i < (Hp.down (Hp.swp a i n) i n).2
    · rw [decide_eq_true hd]
      have ef := Lib.hid (show Hp.out a i n = (Hp.down (Hp.swp a i n) i n).1 by rw [eo.out]; unfold Hp.fix; rw [if_pos hd])
      clear hd
      go_wp2_with fail
      refine (HD.out.pop S4 p _ _ J1.out (by rw [← ef.out]; have := L3.out; omega)).mono ?_
      rw [← ef.out]
      rintro e w5 ⟨rfl, S5, k1, k2, k3⟩
      have N1 := Lib.hid k1
      have N2 := Lib.hid (J2.out.trans k2 J3.out.size)
      have N3 := Lib.hid (J3.out.trans k3 J2.out)
      clear k1 k2 k3
      rw [e9.out]
      generalize hv : box (Hp.at_ a i) = v
      have HV := Lib.hid hv
      clear hv
      go_wp2_with fail
      go_ret
      exact ⟨by rw [HV.out]; rfl, S5, N1.out, N2.out, N3.out⟩
    · rw [decide_eq_false hd]
      have ef := Lib.hid (show Hp.out a i n = Hp.up (Hp.down (Hp.swp a i n) i n).1 i by rw [eo.out]; unfold Hp.fix; rw [if_neg hd])
      have LD := Lib.hid (show i < (Hp.down (Hp.swp a i n) i n).1.length by rw [Hp.down_length, L2.out]; omega)
      clear hd
      go_wp2_with fail
      refine (up_w HC.out S4 p _ i _ J1.out LD.out).mono ?_
      rw [← ef.out]
      rintro e w5 ⟨rfl, S5, k1, k2, k3⟩
      have N1 := Lib.hid k1
      have N2 := Lib.hid (J2.out.trans k2 J3.out.size)
      have N3 := Lib.hid (J3.out.trans k3 J2.out)
      clear k1 k2 k3
      go_wp2_with fail
      refine (HD.out.pop S5 p _ _ N1.out (by have := L3.out; omega)).mono ?_
      rintro e w6 ⟨rfl, S6, k1, k2, k3⟩
      have M1 := Lib.hid k1
      have M2 := Lib.hid (N2.out.trans k2 N3.out.size)
      have M3 := Lib.hid (N3.out.trans k3 N2.out)
      clear k1 k2 k3
      rw [e9.out]
      generalize hv : box (Hp.at_ a i) = v
      have HV := Lib.hid hv
      clear hv
      go_wp2_with fail
      go_ret
      exact ⟨by rw [HV.out]; rfl, S6, M1.out, M2.out, M3.out⟩
theorem fix_w (C : HC IsH) (S : Nat → Prop) (p : Addr) (a : List Tm.T) (i : Nat) (w : World) (h : IsH S w p a) (hi : i < a.length) :
    Calls Try.prog 13 #[.iface 50 (.agg #[.pointer (some p)]), .int .i64 (i : Int)] w fun e w' => e = .returned (.tuple #[]) ∧ ∃ S', IsH S' w' p (Hp.fix a i a.length) ∧ Sub S' S w ∧ Out S w w' := by
  have m1 := met_len p
  have HC := Lib.hid C
  have H := Lib.hid h
  have hb := C.bd h
  generalize hn : a.length = n at *
  have HN := Lib.hid hn
  clear C h hn
  go_enter Try.func13, Try.ntmps13
  go_wp2_with fail
  refine (HC.out.len S p _ _ H.out).mono ?_
  rintro e w2 ⟨rfl, ud⟩
  replace H := Lib.hid (HC.out.keep H.out (fun k hk => ud.block k (HC.out.lt H.out k hk)))
  have UO := Lib.hid (ud.out S)
  clear ud
  rw [HN.out]
  go_wp2_with fail
  refine (down_w HC.out S p a i n _ H.out (by omega) (by have := HN.out; omega)).mono ?_
  rintro e w4 ⟨rfl, S4, k1, k2, k3⟩
  have J1 := Lib.hid k1
  have J2 := Lib.hid ((Sub.refl S w).trans k2 UO.out.size)
  have J3 := Lib.hid (UO.out.trans k3 (Sub.refl S w))
  clear k1 k2 k3
  by_cases hd : i < (Hp.down a i n).2
  · rw [decide_eq_true hd]
    have ef := Lib.hid (show Hp.fix a i n = (Hp.down a i n).1 by unfold Hp.fix; rw [if_pos hd])
    clear hd
    go_wp2_with fail
    go_end0
    exact ⟨rfl, S4, by rw [ef.out]; exact J1.out, J2.out, J3.out⟩
  · rw [decide_eq_false hd]
    have ef := Lib.hid (show Hp.fix a i n = Hp.up (Hp.down a i n).1 i by unfold Hp.fix; rw [if_neg hd])
    have LD := Lib.hid (show i < (Hp.down a i n).1.length by rw [Hp.down_length, HN.out]; exact hi)
    clear hd
    go_wp2_with fail
    refine (up_w HC.out S4 p _ i _ J1.out LD.out).mono ?_
    rintro e w5 ⟨rfl, S5, k1, k2, k3⟩
    have N1 := Lib.hid k1
    have N2 := Lib.hid (J2.out.trans k2 J3.out.size)
    have N3 := Lib.hid (J3.out.trans k3 J2.out)
    clear k1 k2 k3
    go_wp2_with fail
    go_end0
    exact ⟨rfl, S5, by rw [ef.out]; exact N1.out, N2.out, N3.out⟩
end
end Go.Proofs.Ytpdhgjhcjnpkeaa
