import Derived.Test.YtpdhgjhcjnpkeaaWhPush
import Derived.Test.YtpdhgjhcjnpkeaaWhLess
namespace Go.Proofs.Ytpdhgjhcjnpkeaa
open Go Go.RowKit
set_option linter.unusedVariables false
theorem hc : HC IsH := { lt := isH_lt, keep := isH_keep, bd := isH_bd, len := len_w, less := less_w, swap := swap_w }
theorem hc2 : HC2 IsH boxT := { push := fun S p a x w h hl hn _ _ => pushO_w S p a x w h hl hn, pop := popO_w }
/-- The wheel: a heap of the same alarms. -/
def IsW (S : Nat → Prop) (w : World) (p : Addr) (L : List Tm.T) : Prop := ∃ a, IsH S w p a ∧ Hp.Heap a a.length ∧ a.Perm L ∧ Tm.Srt L ∧ Tm.Ids L
theorem isW_len {S : Nat → Prop} {w : World} {p : Addr} {L a : List Tm.T} (h : a.Perm L) : a.length = L.length := h.length_eq
set_option maxRecDepth 100000 in
theorem new_w (w : World) : Calls Try.prog 6 #[] w fun e w' => ∃ p S, e = .returned (.pointer (some p)) ∧ IsW S w' p [] ∧ From w.heap.size S ∧ Up w w' := by
  go_enter Try.func6, Try.ntmps6
  go_wp2_with fail
  go_ret
  refine ⟨⟨w.heap.size, 0, none⟩, _, rfl, ⟨[], ⟨w.heap.size, none, 0, none, rfl, rfl, ⟨(MapKept.heap_alloc w _).1, by simp, ?_, by simp, rfl⟩⟩, fun k _ h => absurd h (Nat.not_lt_zero k), .refl _, List.Pairwise.nil, List.Pairwise.nil⟩, ?_, up_alloc _ _⟩
  · exact ⟨rfl, .inl ⟨rfl, rfl⟩⟩
  · rintro k (rfl | h | h)
    · exact Nat.le_refl _
    · cases h
    · cases h
end Go.Proofs.Ytpdhgjhcjnpkeaa
