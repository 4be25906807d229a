import Derived.Test.YtgikgcepeniekaaCk32
import Derived.Test.YtgikgcepeniekaaCk23
namespace Go.Proofs.Ytgikgcepeniekaa
open Go Go.RowKit
set_option linter.unusedVariables false
set_option linter.unusedSimpArgs false
theorem rtoH_any (A : Option Addr) (m c : Nat) (ty fl : Int) (xs : List Int) (w : World) (hin : InB w A m c xs) (hm : m ≤ 140737488351232) : Calls Try.prog 22 #[chV ty fl (.slice A m c)] w (ToHPost ty fl xs w) := by
  have hl := hin.len
  by_cases h1 : ty = 1
  · subst h1
    by_cases h16 : m < 16
    · exact (rtoH_e2 A m c fl w h16).mono fun e w' h => h.post fun h' ack' ho => by have := (rH_f ho).2.2; omega
    · exact rtoH_f A m c fl xs w hin hm (by omega)
  by_cases h2 : ty = 2
  · subst h2
    by_cases h16 : m < 16
    · exact (rtoH_e3 A m c fl w h16).mono fun e w' h => h.post fun h' ack' ho => by have := (rH_t ho).2.1; omega
    · exact rtoH_t A m c fl xs w hin hm (by omega)
  exact (rtoH_e1 A m c ty fl w (by simp [h1]) (by simp [h2])).mono fun e w' h => h.post fun h' ack' ho => by
    have := ho.1
    cases ack' <;> simp at this <;> contradiction
/-- The two highest bits. -/
theorem act_bits : ∀ n : Fin 256, (bits .and .u8 (n.val : Int) 128 != 0) = decide (128 ≤ n.val) ∧ (bits .and .u8 (n.val : Int) 64 != 0) = decide (n.val / 64 % 2 = 1) := by decide +kernel
set_option maxRecDepth 100000 in
theorem action_any (k : Nat) (hk : k < 256) (w : World) : Calls Try.prog 33 #[.int .u8 (k : Int)] w fun e w' => e = .returned (.tuple #[.bool (decide (128 ≤ k)), .bool (decide (k / 64 % 2 = 1))]) ∧ Hid (Up w w') := by
  have h := act_bits ⟨k, hk⟩
  have H1 := Lib.hid h.1
  have H2 := Lib.hid h.2
  clear h
  go_enter Try.func33, Try.ntmps33
  go_wp2_with fail
  go_ret2
  exact ⟨by rw [← H1.out, ← H2.out]; rfl, Lib.hid (Up.refl _)⟩
end Go.Proofs.Ytgikgcepeniekaa
