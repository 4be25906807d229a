import Derived.Test.YtghldkjbmfbdfaaDoorVx
namespace Go.Proofs.YtghldkjbmfbdfaaDoor
open Go Go.RowKit
set_option linter.unusedVariables false
set_option linter.unusedSimpArgs false
/-! Operations of Valid's regions. -/
theorem x_sliceL {P : Program} {o : Oper} {a : Act} {w : World} (t : TypeId) (x y : Operand) {X Y v : Value} (ho : o.op = .slice t x (some y) none none) (hx : a.eval x = X) (hy : a.eval y = Y) (hr : (Instr.sliceAt t X (some Y) none none).run P w = .ok v w) : (execOp a.eval o).run P w = .ok (.value v) w := by simp [execOp, ho, hx, hy, hr, Result.andThen]
theorem run_slL (g o l a : Nat) (h : a < l) (w : World) : (Instr.sliceAt 22 (.slice (some ⟨g, o, none⟩) l l) (some (.int .i64 (a : Int))) none none).run Tryd.prog w = .ok (.slice (some ⟨g, o + a, none⟩) (l - a) (l - a)) w := by
  have h3 : (a : Int) ≤ (l : Int) := by omega
  have h5 : ((l : Int) - (a : Int)).toNat = l - a := by omega
  have h6 : ¬ l = a := by omega
  simp [go_sem, h3, h5, h6, Nat.le_of_lt h]
theorem grdo12 (x y : Operand) (a b : Int) (w : World) : (eqGuard .or 12 x y (.int .u64 a) (.int .u64 b)).run Tryd.prog w = .ok () w := by kernel_rfl
theorem grda12 (x y : Operand) (a b : Int) (w : World) : (eqGuard .and 12 x y (.int .u64 a) (.int .u64 b)).run Tryd.prog w = .ok () w := by kernel_rfl
theorem grde12 (x y : Operand) (a b : Int) (w : World) : (eqGuard .eql 12 x y (.int .u64 a) (.int .u64 b)).run Tryd.prog w = .ok () w := by kernel_rfl
theorem grdg3 (x y : Operand) (a b : Int) (w : World) : (eqGuard .gtr 3 x y (.int .i64 a) (.int .i64 b)).run Tryd.prog w = .ok () w := by kernel_rfl
theorem run_or12 {a b : Nat} (ha : a < 18446744073709551616) (hb : b < 18446744073709551616) (w : World) : (binOp .or 12 (.int .u64 (a : Int)) (.int .u64 (b : Int))).run Tryd.prog w = .ok (.int .u64 ((a ||| b : Nat) : Int)) w := by
  rw [← or_nat ha hb]; simp [go_sem]
theorem run_and12 (a : Nat) (w : World) : (binOp .and 12 (.int .u64 (a : Int)) (.int .u64 9259542123273814144)).run Tryd.prog w = .ok (.int .u64 (bits .and .u64 (a : Int) 9259542123273814144)) w := by
  simp [go_sem]
theorem run_eq12 {a : Int} {b : Bool} (h : (a == 0) = b) (w : World) : (binOp .eql 12 (.int .u64 a) (.int .u64 0)).run Tryd.prog w = .ok (.bool b) w := by
  subst h; simp [go_sem]
theorem run_gtr3 (a b : Nat) (h : b < a) (w : World) : (binOp .gtr 3 (.int .i64 (a : Int)) (.int .i64 (b : Int))).run Tryd.prog w = .ok (.bool true) w := by
  have : (b : Int) < (a : Int) := by omega
  simp [go_sem, this]
theorem und22 : Tryd.prog.underlying 22 = some (.slice 5) := Tryd.underlying22
end Go.Proofs.YtghldkjbmfbdfaaDoor
