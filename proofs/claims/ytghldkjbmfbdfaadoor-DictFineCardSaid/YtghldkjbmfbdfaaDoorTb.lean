import Derived.Test.YtghldkjbmfbdfaaDoorRows
import Derived.Test.YtghldkjbmfbdfaaDoorVx
import Derived.PinnedBridge
import Derived.Lib.LaidIn
import Derived.Lib.LaidU8T
import Derived.Deep.DeepHandedRow
namespace Go.Proofs.YtghldkjbmfbdfaaDoor
open Go Go.RowKit Go.ChangeShapes Go.WideShapes Go.ChangeAt
set_option linter.unusedVariables false
/-! The two tables of unicode/utf8, as the rows list them. -/
def rowLaid : List (String × DataW Unit) := [("unicode/utf8.acceptRanges", YtghldkjbmfbdfaaDoor.Rows.laid_unicode_utf8_acceptRanges), ("unicode/utf8.first", YtghldkjbmfbdfaaDoor.Rows.laid_unicode_utf8_first)]
def ren8 : Go.Shelf.Ren := ⟨fun x => x, fun x => if x = 5 then 5 else if x = 119 then 70 else if x = 138 then 72 else 73, fun x => if x = 3 then 0 else 1⟩
theorem types8 : U8Types Tryd.prog ren8 := ⟨Tryd.underlying5, Tryd.underlying70, Tryd.underlying72, Tryd.underlying73⟩
theorem accept8 : YtghldkjbmfbdfaaDoor.Rows.laid_unicode_utf8_acceptRanges (H := Unit) = Lib.acceptData := by kernel_rfl
theorem tab_of {W : World} (hL : laidMetH Tryd.prog rowLaid W) : Tab W :=
  utf8Tabs_of_readsT (ρ := ren8) types8 ⟨by kernel_rfl, by kernel_rfl, by kernel_rfl, by kernel_rfl, by kernel_rfl, by kernel_rfl, by kernel_rfl⟩ (Pinned.utf8First_eq ▸ Lib.laidMet.reads hL (.tail _ (.head _))) (accept8 ▸ Lib.laidMet.reads hL (.head _))
/-- A world in which both tables lie. -/
noncomputable def laidWorld (os : Os) : World :=
  let w0 := World.holding Tryd.prog os ⟨#[], #[], []⟩
  let put (h : Array Obj) (g : Nat) (cs : Array Value) : Array Obj := h.modify g fun
    | .cells _ t frozen => .cells cs t frozen
    | o => o
  let h1 := put w0.heap 0 (Lib.firstTab.map fun z => Value.int .u8 z).toArray
  let h2 := put h1 1 ((List.range 16).flatMap fun i => [Value.int .u8 (Lib.accLo i), Value.int .u8 (Lib.accHi i)]).toArray
  { w0 with heap := h2 }
theorem laid_met (os : Os) (args : Array Value) : laidMet Tryd.prog rowLaid ((laidWorld os).forCall (fun _ _ => 0) ⟨#[], args, []⟩).memory :=
  (LaidIn.of_run (l := rowLaid) [0, 1] 8 (by kernel_rfl) (by kernel_rfl) (by kernel_rfl) (by kernel_rfl)).met
end Go.Proofs.YtghldkjbmfbdfaaDoor
