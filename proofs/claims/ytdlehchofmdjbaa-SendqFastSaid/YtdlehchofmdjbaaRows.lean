/-
  No cell of these rows narrows 'for every input' (looked for: loops, veiled, ifaces, maps, wideKeys, modest, calm, conditions, laid).
  DERIVED. THE GIVEN ROWS OF THIS SEAT. 3 by the template 'for every input the law returns true; each argument reads behind the call as it read before'; 0 by the template 'total and deterministic' (their statements: YtdlehchofmdjbaaTotals.lean).
  GIVEN WITH THE SEED: the statements are not yours to turn. If you find one false, say at which input.
  Laid BY PROGRAM, IN A SANDBOX (cutbox-rows.mjs): the forced cells as the released guide's own fill.sh prints them over the translation 48758468d0255fe3… (all of the seat's roots in one cut). By AI agents, Wed Nov 11 2026. No macro, syntax, notation, axiom, sorry.
-/
import Derived.Test.YtdlehchofmdjbaaChecked
import GoSem.Claim
import GoSem.ClaimJoined
import GoSem.ClaimMapViews
import Derived.JoinedTies
import Derived.KernelRfl
namespace Go.Proofs.Ytdlehchofmdjbaa
/- THE CELL 'sum', in the pinned program and in every row, IS THE sha256 OF THE DUMP (.gsa) THAT YtdlehchofmdjbaaProg.lean LOADS. Nothing in Lean hashes anything: it is a label: what it is worth is what the hold of that sum in a sandbox is worth. -/
noncomputable def Try.pinned : Pinned := { name := "ytdlehchofmdjbaa", sum := "48758468d0255fe3eff9f588a93e150b4e05780ace679e239480762034cfdfd6", checked := Try.checked }
namespace Rows
def none {H : Type} : Left H := { results := [], args := [] }

/-- 'trunklinelaw13.SendqFast': WHATEVER THE INPUT: true; the input reads as it did. -/
def sendqFastSpec : ChangeSpec := { name := "sendqFast", fn := fun _ => fun
  | [d1, d2, d3] => { results := [.lit (.bool true)], args := [d1, d2, d3] }
  | _ => none }
def sendqFastRow : OpenClaim := { program := "ytdlehchofmdjbaa", sum := "48758468d0255fe3eff9f588a93e150b4e05780ace679e239480762034cfdfd6", func := "trunkline/trunklinelaw13.SendqFast", spec := "sendqFast", unfollowed := true, recurses := true, apart := false }
def SendqFastSaid : Prop := sendqFastRow.holds Try.pinned (OpenSpec.ofChange sendqFastSpec)

/-- ITS FALSE NEIGHBOUR: 'it returns false'. Refute it at one input. -/
def sendqFastWrong : ChangeSpec := { name := "sendqFast", fn := fun _ => fun
  | [d1, d2, d3] => { results := [.lit (.bool false)], args := [d1, d2, d3] }
  | _ => none }
def SendqFastWrongFalsely : Prop := sendqFastRow.holds Try.pinned (OpenSpec.ofChange sendqFastWrong)

/-- 'trunklinelaw13.SendqFull': WHATEVER THE INPUT: true; the input reads as it did. -/
def sendqFullSpec : ChangeSpec := { name := "sendqFull", fn := fun _ => fun
  | [d1, d2, d3] => { results := [.lit (.bool true)], args := [d1, d2, d3] }
  | _ => none }
def sendqFullRow : OpenClaim := { program := "ytdlehchofmdjbaa", sum := "48758468d0255fe3eff9f588a93e150b4e05780ace679e239480762034cfdfd6", func := "trunkline/trunklinelaw13.SendqFull", spec := "sendqFull", unfollowed := true, recurses := true, apart := false }
def SendqFullSaid : Prop := sendqFullRow.holds Try.pinned (OpenSpec.ofChange sendqFullSpec)

/-- ITS FALSE NEIGHBOUR: 'it returns false'. Refute it at one input. -/
def sendqFullWrong : ChangeSpec := { name := "sendqFull", fn := fun _ => fun
  | [d1, d2, d3] => { results := [.lit (.bool false)], args := [d1, d2, d3] }
  | _ => none }
def SendqFullWrongFalsely : Prop := sendqFullRow.holds Try.pinned (OpenSpec.ofChange sendqFullWrong)

/-- 'trunklinelaw13.SendqNil': WHATEVER THE INPUT: true; the input reads as it did. -/
def sendqNilSpec : ChangeSpec := { name := "sendqNil", fn := fun _ => fun
  | [d1, d2] => { results := [.lit (.bool true)], args := [d1, d2] }
  | _ => none }
def sendqNilRow : OpenClaim := { program := "ytdlehchofmdjbaa", sum := "48758468d0255fe3eff9f588a93e150b4e05780ace679e239480762034cfdfd6", func := "trunkline/trunklinelaw13.SendqNil", spec := "sendqNil", unfollowed := true, recurses := true, apart := false }
def SendqNilSaid : Prop := sendqNilRow.holds Try.pinned (OpenSpec.ofChange sendqNilSpec)

/-- ITS FALSE NEIGHBOUR: 'it returns false'. Refute it at one input. -/
def sendqNilWrong : ChangeSpec := { name := "sendqNil", fn := fun _ => fun
  | [d1, d2] => { results := [.lit (.bool false)], args := [d1, d2] }
  | _ => none }
def SendqNilWrongFalsely : Prop := sendqNilRow.holds Try.pinned (OpenSpec.ofChange sendqNilWrong)

/- THE SECOND FORM. 'bulk': how many values and letters a reading holds, each counted each time it is reached (what is shared counts as often as it is met; a slice's spare places count too). A statement '..UptoSaid' is the law's where the arguments, and the package variables that the reading takes, are together of bulk at most 1048576: NARROWER than '..Said'. Prove '..Said' where nothing that the law and all that it calls make is longer than what came in: it says more and counts as full. Else prove '..UptoSaid'. A law counts once. -/
mutual
def uptoBulk {H : Type} : DataW H → Nat
  | .lit (.string bytes) => bytes.length + 1
  | .lit _ => 1
  | .nil => 1
  | .ptr d => uptoBulk d + 1
  | .slice elems spare => uptoBulkAll elems + uptoBulkAll spare + 1
  | .agg parts => uptoBulkAll parts + 1
  | .iface _ d => uptoBulk d + 1
  | .map entries => uptoBulkEntries entries + 1
  | .held _ => 1
def uptoBulkAll {H : Type} : List (DataW H) → Nat
  | [] => 0
  | d :: r => uptoBulk d + uptoBulkAll r
def uptoBulkEntries {H : Type} : List (Lit × DataW H) → Nat
  | [] => 0
  | x :: r => uptoBulkEntry x + uptoBulkEntries r
def uptoBulkEntry {H : Type} : Lit × DataW H → Nat
  | (.string bytes, d) => bytes.length + uptoBulk d + 1
  | (_, d) => uptoBulk d + 1
 end
def uptoSmall : (H : Type) → List (DataW H) → Bool := fun _ ds => decide (uptoBulkAll ds ≤ 1048576)
def OpenSpec.upto (s : _root_.Go.ChangeSpec) : _root_.Go.OpenSpec := { _root_.Go.OpenSpec.ofChange s with cond := some uptoSmall }

/-- 'trunklinelaw13.SendqFast', WHERE WHAT IT READS IS OF BULK AT MOST 1048576: true; the input reads as it did. -/
def sendqFastUptoRow : OpenClaim := { program := "ytdlehchofmdjbaa", sum := "48758468d0255fe3eff9f588a93e150b4e05780ace679e239480762034cfdfd6", func := "trunkline/trunklinelaw13.SendqFast", spec := "sendqFast", unfollowed := true, recurses := true, apart := false, narrowed := true }
def SendqFastUptoSaid : Prop := sendqFastUptoRow.holds Try.pinned (OpenSpec.upto sendqFastSpec)

/-- 'trunklinelaw13.SendqFull', WHERE WHAT IT READS IS OF BULK AT MOST 1048576: true; the input reads as it did. -/
def sendqFullUptoRow : OpenClaim := { program := "ytdlehchofmdjbaa", sum := "48758468d0255fe3eff9f588a93e150b4e05780ace679e239480762034cfdfd6", func := "trunkline/trunklinelaw13.SendqFull", spec := "sendqFull", unfollowed := true, recurses := true, apart := false, narrowed := true }
def SendqFullUptoSaid : Prop := sendqFullUptoRow.holds Try.pinned (OpenSpec.upto sendqFullSpec)

/-- 'trunklinelaw13.SendqNil', WHERE WHAT IT READS IS OF BULK AT MOST 1048576: true; the input reads as it did. -/
def sendqNilUptoRow : OpenClaim := { program := "ytdlehchofmdjbaa", sum := "48758468d0255fe3eff9f588a93e150b4e05780ace679e239480762034cfdfd6", func := "trunkline/trunklinelaw13.SendqNil", spec := "sendqNil", unfollowed := true, recurses := true, apart := false, narrowed := true }
def SendqNilUptoSaid : Prop := sendqNilUptoRow.holds Try.pinned (OpenSpec.upto sendqNilSpec)

end Rows
end Go.Proofs.Ytdlehchofmdjbaa
