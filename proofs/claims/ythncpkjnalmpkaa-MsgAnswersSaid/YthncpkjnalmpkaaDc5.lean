import Derived.Test.YthncpkjnalmpkaaMaA
namespace Go.Proofs.Ythncpkjnalmpkaa
open Go Go.RowKit
set_option linter.unusedVariables false
set_option linter.unusedSimpArgs false
/-! What a list misses; a copy of bytes; a row of one attribute. -/
theorem clone_some (A : Addr) (m c : Nat) (xs : List Int) (w : World) (h : InB w (some A) m c xs) (hm : m ≤ 140737488351232) :
    Calls Try.prog 41 #[.slice (some A) m c] w fun e w' => ∃ A' c', e = .returned (.slice A' m c') ∧ Hid (OwnI .u8 5 w.heap.size w' A' m c' xs) ∧ Hid (Up w w') := by
  have qT : ∀ (w : World) (a : Option Addr) (n c n' c' : Nat), (binOp .eql 26 (.slice a n c) (.slice none n' c')).run Try.prog w = .ok (.bool a.isNone) w := fun w a n c n' c' => Lib.run_eql_slice_nil w _ _ a n c n' c' Try.underlying26
  have H := Lib.hid h
  clear h
  go_enter Try.func41, Try.ntmps41
  go_wp2_with (at_builtin; refine wpList_appendI rfl (.tmp 5) (.tmp 6) 26 rfl .u8 w.heap.size 5 1 Try.underlying26 (by kernel_rfl) (some ⟨w.heap.size, 0, none⟩) 0 0 [] rfl (ownI_new _ _ _) (some A) m c xs rfl H.out.len (H.out.cells.alloc _) (by omega) (by omega) (by simp) ((Below.refl _ _).alloc (Nat.le_refl _) _) ?_; intro A6 N6 c6 w6 HN6 HW6 HB6 hsz6)
  have hN : N6 = m := by have := HN6.out; omega
  subst hN
  go_ret
  exact ⟨A6, c6, rfl, Lib.hid (by have := HW6.out; rw [List.nil_append] at this; exact this), Lib.hid HB6.out⟩
theorem clone_any (A : Option Addr) (m c : Nat) (xs : List Int) (w : World) (h : InB w A m c xs) (hm : m ≤ 140737488351232) :
    Calls Try.prog 41 #[.slice A m c] w fun e w' => ∃ A' c', e = .returned (.slice A' m c') ∧ Hid (OwnI .u8 5 w.heap.size w' A' m c' xs) ∧ Hid (Up w w') := by
  cases A with
  | some A => exact clone_some A m c xs w h hm
  | none =>
    have qT : ∀ (w : World) (a : Option Addr) (n c n' c' : Nat), (binOp .eql 26 (.slice a n c) (.slice none n' c')).run Try.prog w = .ok (.bool a.isNone) w := fun w a n c n' c' => Lib.run_eql_slice_nil w _ _ a n c n' c' Try.underlying26
    have hx : xs = [] := by
      cases xs with
      | nil => rfl
      | cons y ys =>
        obtain ⟨_, _, e, _⟩ := h.cells (by simp [ints])
        cases e
    subst hx
    obtain rfl : m = 0 := h.len.symm
    clear h
    go_enter Try.func41, Try.ntmps41
    go_wp2_with fail
    go_ret
    exact ⟨none, 0, rfl, Lib.hid (ownI_nil _ _ _ _), Lib.hid (Up.refl _)⟩
end Go.Proofs.Ythncpkjnalmpkaa
