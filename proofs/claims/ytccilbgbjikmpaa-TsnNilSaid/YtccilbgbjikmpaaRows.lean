/-
  No cell of these rows narrows 'for every input' (looked for: loops, veiled, ifaces, maps, wideKeys, modest, calm, conditions, laid).
  DERIVED. THE GIVEN ROWS OF THIS SEAT. 4 by the template 'for every input the law returns true; each argument reads behind the call as it read before'; 0 by the template 'total and deterministic' (their statements: YtccilbgbjikmpaaTotals.lean).
  GIVEN WITH THE SEED: the statements are not yours to turn. If you find one false, say at which input.
  Laid BY PROGRAM, IN A SANDBOX (cutbox-rows.mjs): the forced cells as the released guide's own fill.sh prints them over the translation d8116f9bc02c2811… (all of the seat's roots in one cut). By AI agents, Wed Nov 11 2026. No macro, syntax, notation, axiom, sorry.
-/
import Derived.Test.YtccilbgbjikmpaaChecked
import GoSem.Claim
import GoSem.ClaimJoined
import GoSem.ClaimMapViews
import Derived.JoinedTies
import Derived.KernelRfl
namespace Go.Proofs.Ytccilbgbjikmpaa
/- THE CELL 'sum', in the pinned program and in every row, IS THE sha256 OF THE DUMP (.gsa) THAT YtccilbgbjikmpaaProg.lean LOADS. Nothing in Lean hashes anything: it is a label: what it is worth is what the hold of that sum in a sandbox is worth. -/
noncomputable def Try.pinned : Pinned := { name := "ytccilbgbjikmpaa", sum := "d8116f9bc02c2811a22315cb87d2b8de15fe9f5d0ccc91424c399bd02b5d0a8f", checked := Try.checked }
namespace Rows
def none {H : Type} : Left H := { results := [], args := [] }

/-- 'trunklinelaw10.TsnAny': WHATEVER THE INPUT: true; the input reads as it did. -/
def tsnAnySpec : ChangeSpec := { name := "tsnAny", fn := fun _ => fun
  | [d1, d2, d3, d4] => { results := [.lit (.bool true)], args := [d1, d2, d3, d4] }
  | _ => none }
def tsnAnyRow : OpenClaim := { program := "ytccilbgbjikmpaa", sum := "d8116f9bc02c2811a22315cb87d2b8de15fe9f5d0ccc91424c399bd02b5d0a8f", func := "trunkline/trunklinelaw10.TsnAny", spec := "tsnAny", unfollowed := true, recurses := true, apart := false }
def TsnAnySaid : Prop := tsnAnyRow.holds Try.pinned (OpenSpec.ofChange tsnAnySpec)

/-- ITS FALSE NEIGHBOUR: 'it returns false'. Refute it at one input. -/
def tsnAnyWrong : ChangeSpec := { name := "tsnAny", fn := fun _ => fun
  | [d1, d2, d3, d4] => { results := [.lit (.bool false)], args := [d1, d2, d3, d4] }
  | _ => none }
def TsnAnyWrongFalsely : Prop := tsnAnyRow.holds Try.pinned (OpenSpec.ofChange tsnAnyWrong)

/-- 'trunklinelaw10.TsnTells': WHATEVER THE INPUT: true; the input reads as it did. -/
def tsnTellsSpec : ChangeSpec := { name := "tsnTells", fn := fun _ => fun
  | [d1, d2] => { results := [.lit (.bool true)], args := [d1, d2] }
  | _ => none }
def tsnTellsRow : OpenClaim := { program := "ytccilbgbjikmpaa", sum := "d8116f9bc02c2811a22315cb87d2b8de15fe9f5d0ccc91424c399bd02b5d0a8f", func := "trunkline/trunklinelaw10.TsnTells", spec := "tsnTells", unfollowed := true, recurses := true, apart := false }
def TsnTellsSaid : Prop := tsnTellsRow.holds Try.pinned (OpenSpec.ofChange tsnTellsSpec)

/-- ITS FALSE NEIGHBOUR: 'it returns false'. Refute it at one input. -/
def tsnTellsWrong : ChangeSpec := { name := "tsnTells", fn := fun _ => fun
  | [d1, d2] => { results := [.lit (.bool false)], args := [d1, d2] }
  | _ => none }
def TsnTellsWrongFalsely : Prop := tsnTellsRow.holds Try.pinned (OpenSpec.ofChange tsnTellsWrong)

/-- 'trunklinelaw10.TsnFar': WHATEVER THE INPUT: true; the input reads as it did. -/
def tsnFarSpec : ChangeSpec := { name := "tsnFar", fn := fun _ => fun
  | [d1, d2, d3] => { results := [.lit (.bool true)], args := [d1, d2, d3] }
  | _ => none }
def tsnFarRow : OpenClaim := { program := "ytccilbgbjikmpaa", sum := "d8116f9bc02c2811a22315cb87d2b8de15fe9f5d0ccc91424c399bd02b5d0a8f", func := "trunkline/trunklinelaw10.TsnFar", spec := "tsnFar", unfollowed := true, recurses := true, apart := false }
def TsnFarSaid : Prop := tsnFarRow.holds Try.pinned (OpenSpec.ofChange tsnFarSpec)

/-- ITS FALSE NEIGHBOUR: 'it returns false'. Refute it at one input. -/
def tsnFarWrong : ChangeSpec := { name := "tsnFar", fn := fun _ => fun
  | [d1, d2, d3] => { results := [.lit (.bool false)], args := [d1, d2, d3] }
  | _ => none }
def TsnFarWrongFalsely : Prop := tsnFarRow.holds Try.pinned (OpenSpec.ofChange tsnFarWrong)

/-- 'trunklinelaw10.TsnNil': WHATEVER THE INPUT: true; the input reads as it did. -/
def tsnNilSpec : ChangeSpec := { name := "tsnNil", fn := fun _ => fun
  | [d1, d2] => { results := [.lit (.bool true)], args := [d1, d2] }
  | _ => none }
def tsnNilRow : OpenClaim := { program := "ytccilbgbjikmpaa", sum := "d8116f9bc02c2811a22315cb87d2b8de15fe9f5d0ccc91424c399bd02b5d0a8f", func := "trunkline/trunklinelaw10.TsnNil", spec := "tsnNil", unfollowed := true, recurses := true, apart := false }
def TsnNilSaid : Prop := tsnNilRow.holds Try.pinned (OpenSpec.ofChange tsnNilSpec)

/-- ITS FALSE NEIGHBOUR: 'it returns false'. Refute it at one input. -/
def tsnNilWrong : ChangeSpec := { name := "tsnNil", fn := fun _ => fun
  | [d1, d2] => { results := [.lit (.bool false)], args := [d1, d2] }
  | _ => none }
def TsnNilWrongFalsely : Prop := tsnNilRow.holds Try.pinned (OpenSpec.ofChange tsnNilWrong)

/- THE SECOND FORM. 'bulk': how many values and letters a reading holds, each counted each time it is reached (what is shared counts as often as it is met; a slice's spare places count too). A statement '..UptoSaid' is the law's where the arguments, and the package variables that the reading takes, are together of bulk at most 1048576: NARROWER than '..Said'. Prove '..Said' where nothing that the law and all that it calls make is longer than what came in: it says more and counts as full. Else prove '..UptoSaid'. A law counts once. -/
mutual
def uptoBulk {H : Type} : DataW H → Nat
  | .lit (.string bytes) => bytes.length + 1
  | .lit _ => 1
  | .nil => 1
  | .ptr d => uptoBulk d + 1
  | .slice elems spare => uptoBulkAll elems + uptoBulkAll spare + 1
  | .agg parts => uptoBulkAll parts + 1
  | .iface _ d => uptoBulk d + 1
  | .map entries => uptoBulkEntries entries + 1
  | .held _ => 1
def uptoBulkAll {H : Type} : List (DataW H) → Nat
  | [] => 0
  | d :: r => uptoBulk d + uptoBulkAll r
def uptoBulkEntries {H : Type} : List (Lit × DataW H) → Nat
  | [] => 0
  | x :: r => uptoBulkEntry x + uptoBulkEntries r
def uptoBulkEntry {H : Type} : Lit × DataW H → Nat
  | (.string bytes, d) => bytes.length + uptoBulk d + 1
  | (_, d) => uptoBulk d + 1
 end
def uptoSmall : (H : Type) → List (DataW H) → Bool := fun _ ds => decide (uptoBulkAll ds ≤ 1048576)
def OpenSpec.upto (s : _root_.Go.ChangeSpec) : _root_.Go.OpenSpec := { _root_.Go.OpenSpec.ofChange s with cond := some uptoSmall }

/-- 'trunklinelaw10.TsnAny', WHERE WHAT IT READS IS OF BULK AT MOST 1048576: true; the input reads as it did. -/
def tsnAnyUptoRow : OpenClaim := { program := "ytccilbgbjikmpaa", sum := "d8116f9bc02c2811a22315cb87d2b8de15fe9f5d0ccc91424c399bd02b5d0a8f", func := "trunkline/trunklinelaw10.TsnAny", spec := "tsnAny", unfollowed := true, recurses := true, apart := false, narrowed := true }
def TsnAnyUptoSaid : Prop := tsnAnyUptoRow.holds Try.pinned (OpenSpec.upto tsnAnySpec)

/-- 'trunklinelaw10.TsnTells', WHERE WHAT IT READS IS OF BULK AT MOST 1048576: true; the input reads as it did. -/
def tsnTellsUptoRow : OpenClaim := { program := "ytccilbgbjikmpaa", sum := "d8116f9bc02c2811a22315cb87d2b8de15fe9f5d0ccc91424c399bd02b5d0a8f", func := "trunkline/trunklinelaw10.TsnTells", spec := "tsnTells", unfollowed := true, recurses := true, apart := false, narrowed := true }
def TsnTellsUptoSaid : Prop := tsnTellsUptoRow.holds Try.pinned (OpenSpec.upto tsnTellsSpec)

/-- 'trunklinelaw10.TsnFar', WHERE WHAT IT READS IS OF BULK AT MOST 1048576: true; the input reads as it did. -/
def tsnFarUptoRow : OpenClaim := { program := "ytccilbgbjikmpaa", sum := "d8116f9bc02c2811a22315cb87d2b8de15fe9f5d0ccc91424c399bd02b5d0a8f", func := "trunkline/trunklinelaw10.TsnFar", spec := "tsnFar", unfollowed := true, recurses := true, apart := false, narrowed := true }
def TsnFarUptoSaid : Prop := tsnFarUptoRow.holds Try.pinned (OpenSpec.upto tsnFarSpec)

/-- 'trunklinelaw10.TsnNil', WHERE WHAT IT READS IS OF BULK AT MOST 1048576: true; the input reads as it did. -/
def tsnNilUptoRow : OpenClaim := { program := "ytccilbgbjikmpaa", sum := "d8116f9bc02c2811a22315cb87d2b8de15fe9f5d0ccc91424c399bd02b5d0a8f", func := "trunkline/trunklinelaw10.TsnNil", spec := "tsnNil", unfollowed := true, recurses := true, apart := false, narrowed := true }
def TsnNilUptoSaid : Prop := tsnNilUptoRow.holds Try.pinned (OpenSpec.upto tsnNilSpec)

end Rows
end Go.Proofs.Ytccilbgbjikmpaa
