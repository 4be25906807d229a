import Derived.Test.YtmbhdfgopkbpgaaOps
namespace Go.Proofs.Ytmbhdfgopkbpgaa
open Go Go.RowKit
section
variable {P : Program} {o : Oper} {a : Act} {w : World} {φ : Value → World → Prop}
theorem fine_add (tx ty : TypeId) (x y : Operand) (k : IntKind) (n m : Int) (ho : o.op = .binOp .add tx x y ty) (hx : a.eval x = .int k n) (hy : a.eval y = .int k m) (h : φ (.int k (k.wrap (n + m))) w) : Fine P o a w φ := by
  refine fine_bin .add tx ty x y _ ho ?_ ?_ h
  · rw [hx, hy]; simp [go_sem]
  · rw [hx, hy]; simp [binOp, Op.intArith]
theorem fine_sub (tx ty : TypeId) (x y : Operand) (k : IntKind) (n m : Int) (ho : o.op = .binOp .sub tx x y ty) (hx : a.eval x = .int k n) (hy : a.eval y = .int k m) (h : φ (.int k (k.wrap (n - m))) w) : Fine P o a w φ := by
  refine fine_bin .sub tx ty x y _ ho ?_ ?_ h
  · rw [hx, hy]; simp [go_sem]
  · rw [hx, hy]; simp [binOp, Op.intArith]
theorem fine_mul (tx ty : TypeId) (x y : Operand) (k : IntKind) (n m : Int) (ho : o.op = .binOp .mul tx x y ty) (hx : a.eval x = .int k n) (hy : a.eval y = .int k m) (h : φ (.int k (k.wrap (n * m))) w) : Fine P o a w φ := by
  refine fine_bin .mul tx ty x y _ ho ?_ ?_ h
  · rw [hx, hy]; simp [go_sem]
  · rw [hx, hy]; simp [binOp, Op.intArith]
theorem fine_rem (tx ty : TypeId) (x y : Operand) (k : IntKind) (n m : Int) (ho : o.op = .binOp .rem tx x y ty) (hx : a.eval x = .int k n) (hy : a.eval y = .int k m) (hm : m ≠ 0) (h : φ (.int k (n.tmod m)) w) : Fine P o a w φ := by
  refine fine_bin .rem tx ty x y _ ho ?_ ?_ h
  · rw [hx, hy]; simp [go_sem]
  · rw [hx, hy]; simp [binOp, Op.intDiv, hm]
end
end Go.Proofs.Ytmbhdfgopkbpgaa
