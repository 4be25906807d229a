import Derived.Test.YtpdhgjhcjnpkeaaWhL1
import Derived.Laws.StructEq
import Derived.Deep.QuietTactic
import Derived.BigQuiet
import Derived.Outline
namespace Go.Proofs.Ytpdhgjhcjnpkeaa
open Go Go.RowKit
set_option linter.unusedVariables false
/-- A slice that reads as these alarms. -/
def IsT (w : World) (A : Option Addr) (n : Nat) (R : List Tm.T) : Prop := n = R.length ∧ (0 < n → ∃ g o, A = some ⟨g, o, none⟩ ∧ g < w.heap.size ∧ ∀ q x, R[q]? = some x → w.cell? ⟨g, o + q * 2, none⟩ = some (.int .i64 x.1) ∧ w.cell? ⟨g, o + q * 2 + 1, none⟩ = some (.int .i64 x.2))
theorem tcells_get (R : List Tm.T) (q : Nat) (x : Tm.T) (h : R[q]? = some x) : (tcells R)[q * 2]? = some (.int .i64 x.1) ∧ (tcells R)[q * 2 + 1]? = some (.int .i64 x.2) := by
  induction R generalizing q with
  | nil => simp at h
  | cons y R ih =>
    have e : tcells (y :: R) = .int .i64 y.1 :: .int .i64 y.2 :: tcells R := rfl
    rw [e]
    cases q with
    | zero => simp at h; subst h; exact ⟨rfl, rfl⟩
    | succ q =>
      simp only [List.getElem?_cons_succ] at h
      have := ih q h
      rw [show (q + 1) * 2 = q * 2 + 1 + 1 by omega]
      exact this
theorem row_at {w : World} {base size n c : Nat} {E : TypeId} {A : Option Addr} {xs : List Value} (h : w.ownsRow base E size (.slice A n c) n xs) (hn : 0 < n) : ∃ g, A = some ⟨g, 0, none⟩ := by
  rcases h.2 with ⟨e, rfl⟩ | ⟨g, cap, cur, e, _⟩
  · omega
  · injection e with e1
    exact ⟨g, e1⟩
theorem isT_of {w : World} {base n c : Nat} {A : Option Addr} {R : List Tm.T} (h : w.ownsRow base 33 2 (.slice A n c) n (tcells R)) (hn : n = R.length) : IsT w A n R := by
  refine ⟨hn, fun h0 => ?_⟩
  obtain ⟨g, rfl⟩ := row_at h h0
  refine ⟨g, 0, rfl, (h.lt g rfl).2, fun q x hx => ?_⟩
  have hq : q < n := by have := (List.getElem?_eq_some_iff.1 hx).1; omega
  rw [Nat.zero_add]
  exact ⟨(h.cellAt (q * 2) (by omega)).trans (tcells_get _ _ _ hx).1, (h.cellAt (q * 2 + 1) (by omega)).trans (tcells_get _ _ _ hx).2⟩
theorem neq_timer (a b : Int) (W : World) : (binOp .neq 33 (.agg #[.int .i64 a, .int .i64 b]) (.agg #[.int .i64 a, .int .i64 b])).run Try.prog W = .ok (.bool false) W := by
  rw [run_neq_struct]
  have e : (Op.equalIn 10000 33 (.agg #[.int .i64 a, .int .i64 b]) (.agg #[.int .i64 a, .int .i64 b])).run Try.prog W = .ok true W := by
    rw [show (10000 : Nat) = 9999 + 1 from rfl, run_equalIn_agg (P := Try.prog) W 9999 33 _ _ (by kernel_rfl) (by kernel_rfl)]
    simp [go_sem]
  rw [e]; rfl
set_option maxHeartbeats 400000 in
theorem same_true (A1 A2 : Option Addr) (n c1 c2 : Nat) (R : List Tm.T) (w : World) (h1 : IsT w A1 n R) (h2 : IsT w A2 n R) (hn : n ≤ 1000000) :
    Calls Try.prog 12 #[.slice A1 n c1, .slice A2 n c2] w (True2 w) := by
  have H1 := Lib.hid h1
  have H2 := Lib.hid h2
  clear h1 h2
  go_enter Try.func12, Try.ntmps12
  go_wp2_with fail
  go_loopw [5] (fun i wx => ∃ k m : Nat, k ≤ n ∧ i = .int .i64 k ∧ wx = w.drewN m) (fun i _ => n - (intOf i).toNat)
  case atStart => exact ⟨0, 0, by omega, rfl, rfl⟩
  case round =>
    obtain ⟨k, m, hk, rfl, rfl⟩ := hrel
    by_cases hlt : k < n
    · obtain ⟨g1, o1, rfl, hg1, hc1⟩ := H1.out.2 (by omega)
      obtain ⟨g2, o2, rfl, hg2, hc2⟩ := H2.out.2 (by omega)
      obtain ⟨x, hx⟩ : ∃ x, R[k]? = some x := ⟨_, List.getElem?_eq_getElem (by have := H1.out.1; omega)⟩
      obtain ⟨a1, a2⟩ := hc1 k x hx
      obtain ⟨b1, b2⟩ := hc2 k x hx
      obtain ⟨xi, xa⟩ := x
      clear hc1 hc2 hx
      dsimp only at a1 a2 b1 b2
      have hneq := neq_timer xi xa
      go_wp2_with fail
      go_quiet (fail)
      go_wp2_with fail
      go_roundw
      case rel => exact ⟨k + 1, _, by omega, by go_num, rfl⟩
      case measure => simp [intOf]; omega
    · obtain rfl : k = n := by omega
      clear hlt
      go_wp2_with fail
      go_ret
      exact ⟨rfl, up_drewN _ _⟩
end Go.Proofs.Ytpdhgjhcjnpkeaa
