import Derived.Test.YtpdhgjhcjnpkeaaWhC
import Derived.Test.YtpdhgjhcjnpkeaaHpM
import Derived.Outline
namespace Go.Proofs.Ytpdhgjhcjnpkeaa
open Go Go.RowKit
set_option linter.unusedVariables false
/-- What is asked of the heap's own methods: 'IsH S w p a': at p lies, within the blocks S, a heap's row a. -/
structure HC (IsH : (Nat → Prop) → World → Addr → List Tm.T → Prop) : Prop where
  lt : ∀ {S w p L}, IsH S w p L → ∀ k, S k → k < w.heap.size
  keep : ∀ {S w p L w'}, IsH S w p L → (∀ k, S k → w'.heap[k]? = w.heap[k]?) → IsH S w' p L
  bd : ∀ {S w p L}, IsH S w p L → L.length ≤ 4096
  len : ∀ (S : Nat → Prop) (p : Addr) (a : List Tm.T) (w : World), IsH S w p a → Calls Try.prog 60 #[.agg #[.pointer (some p)]] w fun e w' => e = .returned (.int .i64 (a.length : Int)) ∧ Up w w'
  less : ∀ (S : Nat → Prop) (p : Addr) (a : List Tm.T) (i j : Nat) (x y : Int) (w : World), IsH S w p a → i < a.length → j < a.length → x = (i : Int) → y = (j : Int) →
    Calls Try.prog 61 #[.agg #[.pointer (some p)], .int .i64 x, .int .i64 y] w fun e w' => e = .returned (.bool (decide (Tm.Bef (Hp.at_ a i) (Hp.at_ a j)))) ∧ Up w w'
  swap : ∀ (S : Nat → Prop) (p : Addr) (a : List Tm.T) (i j : Nat) (x y : Int) (w : World), IsH S w p a → i < a.length → j < a.length → x = (i : Int) → y = (j : Int) →
    Calls Try.prog 64 #[.agg #[.pointer (some p)], .int .i64 x, .int .i64 y] w fun e w' => e = .returned (.tuple #[]) ∧ ∃ S', IsH S' w' p (Hp.swp a i j) ∧ Sub S' S w ∧ Out S w w'
theorem met_less (a : Addr) (w : World) : (method 203 50 (.agg #[.pointer (some a)]) "Less").run Try.prog w = .ok (61, .agg #[.pointer (some a)]) w := by kernel_rfl
theorem met_swap (a : Addr) (w : World) : (method 203 50 (.agg #[.pointer (some a)]) "Swap").run Try.prog w = .ok (64, .agg #[.pointer (some a)]) w := by kernel_rfl
theorem met_len (a : Addr) (w : World) : (method 203 50 (.agg #[.pointer (some a)]) "Len").run Try.prog w = .ok (60, .agg #[.pointer (some a)]) w := by kernel_rfl
theorem met_push (a : Addr) (w : World) : (method 203 50 (.agg #[.pointer (some a)]) "Push").run Try.prog w = .ok (63, .agg #[.pointer (some a)]) w := by kernel_rfl
theorem met_pop (a : Addr) (w : World) : (method 203 50 (.agg #[.pointer (some a)]) "Pop").run Try.prog w = .ok (62, .agg #[.pointer (some a)]) w := by kernel_rfl
section
variable {IsH : (Nat → Prop) → World → Addr → List Tm.T → Prop}
set_option maxHeartbeats 400000 in
theorem up_w (C : HC IsH) (S : Nat → Prop) (p : Addr) (a : List Tm.T) (j : Nat) (w : World) (h : IsH S w p a) (hj : j < a.length) :
    Calls Try.prog 22 #[.iface 50 (.agg #[.pointer (some p)]), .int .i64 (j : Int)] w fun e w' => e = .returned (.tuple #[]) ∧ ∃ S', IsH S' w' p (Hp.up a j) ∧ Sub S' S w ∧ Out S w w' := by
  go_enter Try.func22, Try.ntmps22
  go_wp2_with fail
  go_loopw [1] (fun s wx => ∃ (i : Nat) (b : List Tm.T) (S' : Nat → Prop), s = .int .i64 i ∧ i < b.length ∧ Hid (Hp.up b i = Hp.up a j) ∧ Hid (IsH S' wx p b ∧ Sub S' S w ∧ Out S w wx)) (fun s _ => (intOf s).toNat)
  case atStart => exact ⟨j, a, S, rfl, hj, Lib.hid rfl, Lib.hid ⟨h, Sub.refl _ _, Out.refl _ _⟩⟩
  case round =>
    obtain ⟨i, b, S', rfl, hi, hu, hI⟩ := hrel
    have hbd := C.bd hI.out.1
    by_cases h0 : i = 0
    · subst h0
      go_wp2_with fail
      go_end0
      obtain ⟨g1, g2, g3⟩ := hI.out
      refine ⟨rfl, S', ?_, g2, g3⟩
      rw [← hu.out]
      unfold Hp.up
      exact g1
    · have hp : ((i : Int) - 1) / 2 = (Hp.par i : Nat) := by unfold Hp.par; omega
      have hi1 : (1 : Int) ≤ i := by omega
      have hne : ((Hp.par i : Int) == (i : Int)) = false := by rw [beq_eq_false_iff_ne]; unfold Hp.par; omega
      have m1 := met_less p
      have m2 := met_swap p
      have hpl : Hp.par i < b.length := by unfold Hp.par; omega
      obtain ⟨g1, g2, g3⟩ := hI.out
      have H1 := Lib.hid g1
      have H2 := Lib.hid g2
      have H3 := Lib.hid g3
      have HC := Lib.hid C
      clear g1 g2 g3 hI C h
      by_cases hb : Tm.Bef (Hp.at_ b i) (Hp.at_ b (Hp.par i))
      · go_wp2_with fail
        refine (HC.out.less S' p b i (Hp.par i) _ _ wr H1.out hi hpl rfl rfl).mono ?_
        rintro e w1 ⟨rfl, ud⟩
        rw [decide_eq_true hb]
        have K1 := Lib.hid (HC.out.keep H1.out (fun k hk => ud.block k (HC.out.lt H1.out k hk)))
        go_wp2_with fail
        refine (HC.out.swap S' p b (Hp.par i) i _ _ _ K1.out hpl hi rfl rfl).mono ?_
        rintro e w2 ⟨rfl, S2, k1, k2, k3⟩
        have J := Lib.hid (show IsH S2 w2 p (Hp.swp b (Hp.par i) i) ∧ Sub S2 S w ∧ Out S w w2 from
          ⟨k1, H2.out.trans (w' := w1) k2 (H3.out.trans (ud.out S') H2.out).size, (H3.out.trans (ud.out S') H2.out).trans k3 H2.out⟩)
        have U := Lib.hid (show Hp.up (Hp.swp b (Hp.par i) i) (Hp.par i) = Hp.up a j by rw [← hu.out]; conv => rhs; unfold Hp.up; rw [dif_neg h0, if_pos hb])
        clear k1 k2 k3
        go_wp2_with fail
        go_roundw
        case rel => exact ⟨_, _, S2, rfl, by rw [Hp.swp_length]; exact hpl, U, J⟩
        case measure => simp [intOf, Hp.par]; omega
      · go_wp2_with fail
        refine (HC.out.less S' p b i (Hp.par i) _ _ wr H1.out hi hpl rfl rfl).mono ?_
        rintro e w1 ⟨rfl, ud⟩
        rw [decide_eq_false hb]
        have K1 := Lib.hid (HC.out.keep H1.out (fun k hk => ud.block k (HC.out.lt H1.out k hk)))
        go_wp2_with fail
        go_end0
        refine ⟨rfl, S', ?_, H2.out, H3.out.trans (ud.out S') H2.out⟩
        rw [← hu.out]
        unfold Hp.up
        rw [dif_neg h0, if_neg hb]
        exact K1.out
end
end Go.Proofs.Ytpdhgjhcjnpkeaa
