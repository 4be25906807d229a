/-
  No cell of these rows narrows 'for every input' (looked for: loops, veiled, ifaces, maps, wideKeys, modest, calm, conditions, laid).
  DERIVED. THE GIVEN ROWS OF THIS SEAT. 4 by the template 'for every input the law returns true; each argument reads behind the call as it read before'; 0 by the template 'total and deterministic' (their statements: YtdhkbpnhbbedmaaTotals.lean).
  GIVEN WITH THE SEED: the statements are not yours to turn. If you find one false, say at which input.
  Laid BY PROGRAM, IN A SANDBOX (cutbox-rows.mjs): the forced cells as the released guide's own fill.sh prints them over the translation 495a20ae51a5aca2… (all of the seat's roots in one cut). By AI agents, Wed Nov 11 2026. No macro, syntax, notation, axiom, sorry.
-/
import Derived.Test.YtdhkbpnhbbedmaaChecked
import GoSem.Claim
import GoSem.ClaimJoined
import GoSem.ClaimMapViews
import Derived.JoinedTies
import Derived.KernelRfl
namespace Go.Proofs.Ytdhkbpnhbbedmaa
/- THE CELL 'sum', in the pinned program and in every row, IS THE sha256 OF THE DUMP (.gsa) THAT YtdhkbpnhbbedmaaProg.lean LOADS. Nothing in Lean hashes anything: it is a label: what it is worth is what the hold of that sum in a sandbox is worth. -/
noncomputable def Try.pinned : Pinned := { name := "ytdhkbpnhbbedmaa", sum := "495a20ae51a5aca2652af254912989580e4baf65d3401afca65225555f831c0e", checked := Try.checked }
namespace Rows
def none {H : Type} : Left H := { results := [], args := [] }

/-- 'trunklinelaw19.WatchSteps': WHATEVER THE INPUT: true; the input reads as it did. -/
def watchStepsSpec : ChangeSpec := { name := "watchSteps", fn := fun _ => fun
  | [d1, d2, d3, d4] => { results := [.lit (.bool true)], args := [d1, d2, d3, d4] }
  | _ => none }
def watchStepsRow : OpenClaim := { program := "ytdhkbpnhbbedmaa", sum := "495a20ae51a5aca2652af254912989580e4baf65d3401afca65225555f831c0e", func := "trunkline/trunklinelaw19.WatchSteps", spec := "watchSteps", apart := false }
def WatchStepsSaid : Prop := watchStepsRow.holds Try.pinned (OpenSpec.ofChange watchStepsSpec)

/-- ITS FALSE NEIGHBOUR: 'it returns false'. Refute it at one input. -/
def watchStepsWrong : ChangeSpec := { name := "watchSteps", fn := fun _ => fun
  | [d1, d2, d3, d4] => { results := [.lit (.bool false)], args := [d1, d2, d3, d4] }
  | _ => none }
def WatchStepsWrongFalsely : Prop := watchStepsRow.holds Try.pinned (OpenSpec.ofChange watchStepsWrong)

/-- 'trunklinelaw19.WatchWalks': WHATEVER THE INPUT: true; the input reads as it did. -/
def watchWalksSpec : ChangeSpec := { name := "watchWalks", fn := fun _ => fun
  | [d] => { results := [.lit (.bool true)], args := [d] }
  | _ => none }
def watchWalksRow : OpenClaim := { program := "ytdhkbpnhbbedmaa", sum := "495a20ae51a5aca2652af254912989580e4baf65d3401afca65225555f831c0e", func := "trunkline/trunklinelaw19.WatchWalks", spec := "watchWalks", apart := false }
def WatchWalksSaid : Prop := watchWalksRow.holds Try.pinned (OpenSpec.ofChange watchWalksSpec)

/-- ITS FALSE NEIGHBOUR: 'it returns false'. Refute it at one input. -/
def watchWalksWrong : ChangeSpec := { name := "watchWalks", fn := fun _ => fun
  | [d] => { results := [.lit (.bool false)], args := [d] }
  | _ => none }
def WatchWalksWrongFalsely : Prop := watchWalksRow.holds Try.pinned (OpenSpec.ofChange watchWalksWrong)

/-- 'trunklinelaw19.WatchTrusts': WHATEVER THE INPUT: true; the input reads as it did. -/
def watchTrustsSpec : ChangeSpec := { name := "watchTrusts", fn := fun _ => fun
  | [d] => { results := [.lit (.bool true)], args := [d] }
  | _ => none }
def watchTrustsRow : OpenClaim := { program := "ytdhkbpnhbbedmaa", sum := "495a20ae51a5aca2652af254912989580e4baf65d3401afca65225555f831c0e", func := "trunkline/trunklinelaw19.WatchTrusts", spec := "watchTrusts", apart := false }
def WatchTrustsSaid : Prop := watchTrustsRow.holds Try.pinned (OpenSpec.ofChange watchTrustsSpec)

/-- ITS FALSE NEIGHBOUR: 'it returns false'. Refute it at one input. -/
def watchTrustsWrong : ChangeSpec := { name := "watchTrusts", fn := fun _ => fun
  | [d] => { results := [.lit (.bool false)], args := [d] }
  | _ => none }
def WatchTrustsWrongFalsely : Prop := watchTrustsRow.holds Try.pinned (OpenSpec.ofChange watchTrustsWrong)

/-- 'trunklinelaw19.WatchAsks': WHATEVER THE INPUT: true; the input reads as it did. -/
def watchAsksSpec : ChangeSpec := { name := "watchAsks", fn := fun _ => fun
  | [d] => { results := [.lit (.bool true)], args := [d] }
  | _ => none }
def watchAsksRow : OpenClaim := { program := "ytdhkbpnhbbedmaa", sum := "495a20ae51a5aca2652af254912989580e4baf65d3401afca65225555f831c0e", func := "trunkline/trunklinelaw19.WatchAsks", spec := "watchAsks", apart := false }
def WatchAsksSaid : Prop := watchAsksRow.holds Try.pinned (OpenSpec.ofChange watchAsksSpec)

/-- ITS FALSE NEIGHBOUR: 'it returns false'. Refute it at one input. -/
def watchAsksWrong : ChangeSpec := { name := "watchAsks", fn := fun _ => fun
  | [d] => { results := [.lit (.bool false)], args := [d] }
  | _ => none }
def WatchAsksWrongFalsely : Prop := watchAsksRow.holds Try.pinned (OpenSpec.ofChange watchAsksWrong)

/- THE SECOND FORM. 'bulk': how many values and letters a reading holds, each counted each time it is reached (what is shared counts as often as it is met; a slice's spare places count too). A statement '..UptoSaid' is the law's where the arguments, and the package variables that the reading takes, are together of bulk at most 1048576: NARROWER than '..Said'. Prove '..Said' where nothing that the law and all that it calls make is longer than what came in: it says more and counts as full. Else prove '..UptoSaid'. A law counts once. -/
mutual
def uptoBulk {H : Type} : DataW H → Nat
  | .lit (.string bytes) => bytes.length + 1
  | .lit _ => 1
  | .nil => 1
  | .ptr d => uptoBulk d + 1
  | .slice elems spare => uptoBulkAll elems + uptoBulkAll spare + 1
  | .agg parts => uptoBulkAll parts + 1
  | .iface _ d => uptoBulk d + 1
  | .map entries => uptoBulkEntries entries + 1
  | .held _ => 1
def uptoBulkAll {H : Type} : List (DataW H) → Nat
  | [] => 0
  | d :: r => uptoBulk d + uptoBulkAll r
def uptoBulkEntries {H : Type} : List (Lit × DataW H) → Nat
  | [] => 0
  | x :: r => uptoBulkEntry x + uptoBulkEntries r
def uptoBulkEntry {H : Type} : Lit × DataW H → Nat
  | (.string bytes, d) => bytes.length + uptoBulk d + 1
  | (_, d) => uptoBulk d + 1
 end
def uptoSmall : (H : Type) → List (DataW H) → Bool := fun _ ds => decide (uptoBulkAll ds ≤ 1048576)
def OpenSpec.upto (s : _root_.Go.ChangeSpec) : _root_.Go.OpenSpec := { _root_.Go.OpenSpec.ofChange s with cond := some uptoSmall }

/-- 'trunklinelaw19.WatchSteps', WHERE WHAT IT READS IS OF BULK AT MOST 1048576: true; the input reads as it did. -/
def watchStepsUptoRow : OpenClaim := { program := "ytdhkbpnhbbedmaa", sum := "495a20ae51a5aca2652af254912989580e4baf65d3401afca65225555f831c0e", func := "trunkline/trunklinelaw19.WatchSteps", spec := "watchSteps", apart := false, narrowed := true }
def WatchStepsUptoSaid : Prop := watchStepsUptoRow.holds Try.pinned (OpenSpec.upto watchStepsSpec)

/-- 'trunklinelaw19.WatchWalks', WHERE WHAT IT READS IS OF BULK AT MOST 1048576: true; the input reads as it did. -/
def watchWalksUptoRow : OpenClaim := { program := "ytdhkbpnhbbedmaa", sum := "495a20ae51a5aca2652af254912989580e4baf65d3401afca65225555f831c0e", func := "trunkline/trunklinelaw19.WatchWalks", spec := "watchWalks", apart := false, narrowed := true }
def WatchWalksUptoSaid : Prop := watchWalksUptoRow.holds Try.pinned (OpenSpec.upto watchWalksSpec)

/-- 'trunklinelaw19.WatchTrusts', WHERE WHAT IT READS IS OF BULK AT MOST 1048576: true; the input reads as it did. -/
def watchTrustsUptoRow : OpenClaim := { program := "ytdhkbpnhbbedmaa", sum := "495a20ae51a5aca2652af254912989580e4baf65d3401afca65225555f831c0e", func := "trunkline/trunklinelaw19.WatchTrusts", spec := "watchTrusts", apart := false, narrowed := true }
def WatchTrustsUptoSaid : Prop := watchTrustsUptoRow.holds Try.pinned (OpenSpec.upto watchTrustsSpec)

/-- 'trunklinelaw19.WatchAsks', WHERE WHAT IT READS IS OF BULK AT MOST 1048576: true; the input reads as it did. -/
def watchAsksUptoRow : OpenClaim := { program := "ytdhkbpnhbbedmaa", sum := "495a20ae51a5aca2652af254912989580e4baf65d3401afca65225555f831c0e", func := "trunkline/trunklinelaw19.WatchAsks", spec := "watchAsks", apart := false, narrowed := true }
def WatchAsksUptoSaid : Prop := watchAsksUptoRow.holds Try.pinned (OpenSpec.upto watchAsksSpec)

end Rows
end Go.Proofs.Ytdhkbpnhbbedmaa
