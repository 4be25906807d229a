import Derived.Test.YthncpkjnalmpkaaMsgM
import Derived.Test.YthncpkjnalmpkaaAvR1
import Derived.Deep.CutBlock
import Derived.Deep.DeepCutAuto
namespace Go.Proofs.Ythncpkjnalmpkaa
open Go Go.RowKit Mg
set_option linter.unusedVariables false
set_option linter.unusedSimpArgs false
/-! Messages in memory; the reference's mixed. -/
structure MsB where
  req : Bool
  prox : Bool
  fail : Bool
  again : Bool
  code : Int
  app : Int
  hop : Int
  end_ : Int
  A : Option Addr
  n : Nat
  c : Nat
  avps : List AvB
def MsB.pure (x : MsB) : Msg := ⟨x.req, x.prox, x.fail, x.again, x.code, x.app, x.hop, x.end_, x.avps.map AvB.pure⟩
def msL (x : MsB) : List Value := [.bool x.req, .bool x.prox, .bool x.fail, .bool x.again, .int .u32 x.code, .int .u32 x.app, .int .u32 x.hop, .int .u32 x.end_, .slice x.A x.n x.c]
def msV (x : MsB) : Value := .agg #[.bool x.req, .bool x.prox, .bool x.fail, .bool x.again, .int .u32 x.code, .int .u32 x.app, .int .u32 x.hop, .int .u32 x.end_, .slice x.A x.n x.c]
def msO (x : MsB) : Obj := .cells #[.bool x.req, .bool x.prox, .bool x.fail, .bool x.again, .int .u32 x.code, .int .u32 x.app, .int .u32 x.hop, .int .u32 x.end_, .slice x.A x.n x.c] 25
structure MsIn (w : World) (x : MsB) : Prop where
  avs : InL w x.A x.n x.c x.avps
  ok : MsOK x.pure
  n : x.n ≤ 140737488351232
theorem MsIn.up {w w' : World} {x : MsB} (h : MsIn w x) (hu : Up w w') : MsIn w' x := ⟨h.avs.up hu, h.ok, h.n⟩
set_option maxRecDepth 100000 in
set_option maxHeartbeats 2000000 in
theorem rmixed_any (x : MsB) (w : World) : Calls Try.prog 32 #[msV x] w fun e w' => e = .returned (.bool (mixM x.pure)) ∧ Up w w' := by
  have HM := Lib.hid (show mixM x.pure = ((x.req && x.fail) || (!x.req && x.again)) from rfl)
  have HU := Lib.hid (up_alloc w (msO x))
  have HC := Lib.hid (new_at w (msO x))
  unfold msV
  go_enter Try.func32, Try.ntmps32
  go_upto_region 1 with (fail)
  change Code.wp _ _ _ _ (w.alloc (msO x))
  generalize w.alloc (msO x) = wa at HC HU ⊢
  have z0 : wa.cell? ⟨w.heap.size, 0, none⟩ = some (.bool x.req) := cell_of HC.out (j := 0) rfl
  have z2 : wa.cell? ⟨w.heap.size, 2, none⟩ = some (.bool x.fail) := cell_of HC.out (j := 2) rfl
  have z3 : wa.cell? ⟨w.heap.size, 3, none⟩ = some (.bool x.again) := cell_of HC.out (j := 3) rfl
  cases h1 : x.req <;> cases h2 : x.fail <;> cases h3 : x.again
  all_goals
    rw [h1] at z0 HM
    rw [h2] at z2 HM
    rw [h3] at z3 HM
    go_wp2_with fail
    go_ret
    exact ⟨by rw [HM.out]; rfl, HU.out⟩
end Go.Proofs.Ythncpkjnalmpkaa
