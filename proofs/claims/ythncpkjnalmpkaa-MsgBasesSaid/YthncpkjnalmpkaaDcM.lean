import Derived.Test.YthncpkjnalmpkaaStaged
import Derived.Test.YthncpkjnalmpkaaAvG0
import Derived.Shelf.SlicesQ.Load
namespace Go.Proofs.Ythncpkjnalmpkaa
open Go Go.RowKit
set_option linter.unusedVariables false
set_option linter.unusedSimpArgs false
/-! What rules say of attributes. -/
namespace Dc
structure Ru where
  code : Int
  vendor : Int
  type : Int
  must : Bool
  least : Int
  most : Int
abbrev Nm := Int × Int
def Ru.nm (r : Ru) : Nm := (r.code, r.vendor)
def Ru.may (r : Ru) : Bool := decide (1 ≤ r.type ∧ r.type ≤ 11 ∧ 0 ≤ r.least ∧ r.least ≤ r.most ∧ r.most ≤ 64)
def has (rs : List Ru) (n : Nm) : Bool := rs.any fun q => decide (q.nm = n)
def okAt (rs : List Ru) (i : Nat) : Bool := match rs[i]? with
  | some r => r.may && !has (rs.take i) r.nm
  | none => true
def sound (rs : List Ru) : Bool := decide (rs.length ≤ 64) && (List.range rs.length).all (okAt rs)
theorem okAt_some {rs : List Ru} {i : Nat} {r : Ru} (h : rs[i]? = some r) : okAt rs i = (r.may && !has (rs.take i) r.nm) := by unfold okAt; rw [h]
theorem sound_no {rs : List Ru} {i : Nat} (hi : i < rs.length) (h : okAt rs i = false) : sound rs = false := by
  unfold sound
  rw [Bool.and_eq_false_iff]
  refine .inr ?_
  rw [List.all_eq_false]
  exact ⟨i, List.mem_range.2 hi, by rw [h]; simp⟩
theorem sound_len {rs : List Ru} (h : ¬ rs.length ≤ 64) : sound rs = false := by unfold sound; rw [decide_eq_false h]; rfl
theorem has_true {rs : List Ru} {n : Nm} : has rs n = true ↔ ∃ r ∈ rs, r.nm = n := by
  unfold has; simp [List.any_eq_true]
end Dc
end Go.Proofs.Ythncpkjnalmpkaa
