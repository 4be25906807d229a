import Derived.Test.YtahpejcejbgcpaaRt0
namespace Go.Proofs.Ytahpejcejbgcpaa
open Go Go.RowKit
set_option linter.unusedVariables false
set_option linter.unusedSimpArgs false
set_option maxRecDepth 100000 in
set_option maxHeartbeats 4000000 in
theorem sound_any (x : Wy) (w : World) : Calls Try.prog 12 #[.agg x.cs] w (OkPost x w) := by
  have u0 := up_alloc w (.cells x.cs 23)
  have h0 := new_at w (.cells x.cs 23)
  go_enter Try.func12, Try.ntmps12
  go_wp2_with (go_at_call 25; refine (within_any _ _ _ _).mono ?_; rintro e w' ⟨rfl, rfl⟩)
  all_goals
    go_ret
    refine ⟨ret_b ?_, u0⟩
    clear u0 h0
    rw [okB_w]
    simp [*]
end Go.Proofs.Ytahpejcejbgcpaa
