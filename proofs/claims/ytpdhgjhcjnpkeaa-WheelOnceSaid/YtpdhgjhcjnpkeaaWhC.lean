import Derived.Test.YtpdhgjhcjnpkeaaFoot
import Derived.Test.YtpdhgjhcjnpkeaaTm
import Derived.Test.YtpdhgjhcjnpkeaaChecked
namespace Go.Proofs.Ytpdhgjhcjnpkeaa
open Go Go.RowKit
set_option linter.unusedVariables false
/-- Alarms as the model keeps them: two cells each. -/
def tcells (L : List Tm.T) : List Value := L.flatMap fun x => [.int .i64 x.1, .int .i64 x.2]
theorem tcells_length (L : List Tm.T) : (tcells L).length = L.length * 2 := by
  induction L with
  | nil => rfl
  | cons x L ih => simp [tcells] at ih ⊢; omega
/-- Numbers that fit an int. -/
def I64 (n : Int) : Prop := -9223372036854775808 ≤ n ∧ n ≤ 9223372036854775807
/-- What is asked of the wheel: 'IsW S w p L': at p lies, within the blocks S, a wheel of the alarms L. -/
structure WC (IsW : (Nat → Prop) → World → Addr → List Tm.T → Prop) : Prop where
  lt : ∀ {S w p L}, IsW S w p L → ∀ k, S k → k < w.heap.size
  keep : ∀ {S w p L w'}, IsW S w p L → (∀ k, S k → w'.heap[k]? = w.heap[k]?) → IsW S w' p L
  srt : ∀ {S w p L}, IsW S w p L → Tm.Srt L ∧ Tm.Ids L
  new : ∀ w : World, Calls Try.prog 6 #[] w fun e w' => ∃ p S, e = .returned (.pointer (some p)) ∧ IsW S w' p [] ∧ From w.heap.size S ∧ Up w w'
  set : ∀ (S : Nat → Prop) (p : Addr) (L : List Tm.T) (id at_ : Int) (w : World), IsW S w p L → I64 id → 0 ≤ at_ → at_ ≤ 1099511627776 → (Tm.has L id = true ∨ L.length < 4096) →
    Calls Try.prog 8 #[.pointer (some p), .int .i64 id, .int .i64 at_] w fun e w' => ∃ S', e = .returned (.int .i64 0) ∧ IsW S' w' p (Tm.set L id at_) ∧ Sub S' S w ∧ Out S w w'
  full : ∀ (S : Nat → Prop) (p : Addr) (L : List Tm.T) (id at_ : Int) (w : World), IsW S w p L → I64 id → 0 ≤ at_ → at_ ≤ 1099511627776 → Tm.has L id = false → 4096 ≤ L.length →
    Calls Try.prog 8 #[.pointer (some p), .int .i64 id, .int .i64 at_] w fun e w' => ∃ S', e = .returned (.int .i64 10) ∧ IsW S' w' p L ∧ Sub S' S w ∧ Out S w w'
  cancel : ∀ (S : Nat → Prop) (p : Addr) (L : List Tm.T) (id : Int) (w : World), IsW S w p L → I64 id → Tm.has L id = true →
    Calls Try.prog 11 #[.pointer (some p), .int .i64 id] w fun e w' => ∃ S', e = .returned (.int .i64 0) ∧ IsW S' w' p (Tm.del id L) ∧ Sub S' S w ∧ Out S w w'
  gone : ∀ (S : Nat → Prop) (p : Addr) (L : List Tm.T) (id : Int) (w : World), IsW S w p L → I64 id → Tm.has L id = false →
    Calls Try.prog 11 #[.pointer (some p), .int .i64 id] w fun e w' => ∃ S', e = .returned (.int .i64 8) ∧ IsW S' w' p L ∧ Sub S' S w ∧ Out S w w'
  due : ∀ (S : Nat → Prop) (p : Addr) (L : List Tm.T) (now : Int) (w : World), IsW S w p L → I64 now →
    Calls Try.prog 9 #[.pointer (some p), .int .i64 now] w fun e w' => ∃ S' A n c, e = .returned (.slice A n c) ∧ n = (Tm.due now L).length ∧ w'.ownsRow w.heap.size 33 2 (.slice A n c) n (tcells (Tm.due now L)) ∧ IsW S' w' p (Tm.rest now L) ∧ Sub S' S w ∧ Out S w w' ∧ (∀ g, (Value.slice A n c).ownBlock = some g → ¬ S' g)
  list : ∀ (S : Nat → Prop) (p : Addr) (L : List Tm.T) (w : World), IsW S w p L →
    Calls Try.prog 10 #[.pointer (some p)] w fun e w' => ∃ S' A n c, e = .returned (.slice A n c) ∧ n = L.length ∧ w'.ownsRow w.heap.size 33 2 (.slice A n c) n (tcells L) ∧ IsW S' w' p L ∧ Sub S' S w ∧ Out S w w' ∧ (∀ g, (Value.slice A n c).ownBlock = some g → ¬ S' g)
section
variable {IsW : (Nat → Prop) → World → Addr → List Tm.T → Prop} (C : WC IsW)
include C
theorem WC.up {S : Nat → Prop} {w w' : World} {p : Addr} {L : List Tm.T} (h : IsW S w p L) (hu : Up w w') : IsW S w' p L := C.keep h fun k hk => hu.block k (C.lt h k hk)
theorem WC.out {S T : Nat → Prop} {w w' : World} {p : Addr} {L : List Tm.T} (h : IsW S w p L) (ho : Out T w w') (hd : ∀ k, S k → ¬ T k) : IsW S w' p L := C.keep h fun k hk => ho.block k (C.lt h k hk) (hd k hk)
end
end Go.Proofs.Ytpdhgjhcjnpkeaa
