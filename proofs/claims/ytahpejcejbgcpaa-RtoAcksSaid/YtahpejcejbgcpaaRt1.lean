import Derived.Test.YtahpejcejbgcpaaRt0
namespace Go.Proofs.Ytahpejcejbgcpaa
open Go Go.RowKit
set_option linter.unusedVariables false
set_option linter.unusedSimpArgs false
set_option maxRecDepth 100000 in
set_option maxHeartbeats 4000000 in
theorem wayok_any (x : Wy) (w : World) : Calls Try.prog 13 #[.agg x.cs] w (OkPost x w) := by
  have u0 := up_alloc w (.cells x.cs 23)
  have h0 := new_at w (.cells x.cs 23)
  go_enter Try.func13, Try.ntmps13
  go_wp2_with fail
  all_goals
    go_ret
    refine ⟨ret_b ?_, u0⟩
    clear u0 h0
    first
    | (symm; refine okB_f ?_; unfold Wy.Ok; omega)
    | (unfold Wy.okB
       rw [Bool.eq_iff_iff]
       simp only [decide_eq_true_eq]
       unfold Wy.Ok
       omega)
end Go.Proofs.Ytahpejcejbgcpaa
