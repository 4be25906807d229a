import Derived.Test.YtiagapibfdpfdaaAvD2
import Derived.Tactics
import Derived.Tactics2
import Derived.Defers
import Derived.Recover
import Derived.Laws.Pointers
namespace Go.Proofs.Ytiagapibfdpfdaa
open Go Go.RowKit
set_option linter.unusedVariables false
set_option linter.unusedSimpArgs false
/-! The program's run: what a panic ends. -/
theorem tmps_idle (p : Addr) : #[Value.pointer (some p)] ++ ((Array.replicate 16 undef).setIfInBounds 3 Value.nilIface).setIfInBounds 0 Value.nilIface = (#[.pointer (some p), .nilIface, undef, undef, .nilIface, undef, undef, undef, undef, undef, undef, undef, undef, undef, undef, undef, undef] : Array Value) := rfl
theorem ta12 (w : World) : (Instr.typeAssert (.iface 69 (.agg #[.int .i64 12])) 20 69 true).run Try.prog w = .ok (.tuple #[.agg #[.int .i64 12], .bool true]) w := by kernel_rfl
theorem tmps_12 (r : Nat) (v : Value) : #[Value.pointer (some ⟨r, 0, none⟩)] ++ ((Array.replicate 16 undef).setIfInBounds 3 v).setIfInBounds 0 v = (#[.pointer (some ⟨r, 0, none⟩), v, undef, undef, v, undef, undef, undef, undef, undef, undef, undef, undef, undef, undef, undef, undef] : Array Value) := rfl
set_option maxRecDepth 100000 in
theorem catch_idle (p : Addr) (w : World) :
    CallsD Try.prog 33 #[.pointer (some p)] .returning w fun e u' w' => e = .returned (.tuple #[]) ∧ u' = .returning ∧ w' = w := by
  refine callsD_of_wpS Try.func33 rfl fun c₀ cs hu => ?_
  apply wpS_seq
  apply wpS_region
  simp [wpOpsS, go_sem, recoverD, hu, Try.ntmps33, Exit.thenS]
  rw [tmps_idle]
  refine wpS_of_wp ?_
  generalize hQ : (fun e a' w' => bodyPostS Try.prog Try.f33 c₀ cs _ e a' (c₀ :: cs) w') = Q
  go_wp2_with fail
  subst hQ
  cases c₀
  simp_all [bodyPostS, results, Try.results33]
set_option maxRecDepth 100000 in
theorem catch_12 (r : Nat) (x : Int) (w : World) (hr : w.heap[r]? = some (.cells #[.int .i64 x] 24 (0, 0))) :
    CallsD Try.prog 33 #[.pointer (some ⟨r, 0, none⟩)] (.panicking [{ v := .iface 69 (.agg #[.int .i64 12]), recovered := false }]) w fun e u' w' => e = .returned (.tuple #[]) ∧ u' = .panicking [{ v := .iface 69 (.agg #[.int .i64 12]), recovered := true }] ∧ w' = (w.alloc (.cells #[.int .i64 12] 69)).setCell ⟨r, 0, none⟩ (.int .i64 12) := by
  have hr2 := blk_up hr (up_alloc w (.cells #[.int .i64 12] 69))
  have xr := cell_of hr2 (j := 0) rfl
  have fr := frozen_at (j := 0) hr2
  have HN := new_at w (.cells #[.int .i64 12] 69)
  have xs := cell_of HN (j := 0) rfl
  have hta := ta12 w
  refine callsD_of_wpS Try.func33 rfl fun c₀ cs hu => ?_
  apply wpS_seq
  apply wpS_region
  simp [wpOpsS, go_sem, recoverD, hu, Try.ntmps33, Exit.thenS]
  rw [tmps_12]
  refine wpS_of_wp ?_
  generalize hQ : (fun e a' w' => bodyPostS Try.prog Try.f33 c₀ cs _ e a' (_ :: cs) w') = Q
  go_wp2_with fail
  subst hQ
  cases c₀
  simp_all [bodyPostS, results, Try.results33]
end Go.Proofs.Ytiagapibfdpfdaa
