import Derived.Test.YtpfdojlhgfhbfaaOps
import Derived.Test.YtpfdojlhgfhbfaaChecked
namespace Go.Proofs.Ytpfdojlhgfhbfaa
open Go Go.RowKit

/-- The order of two numbers on a circle of m. -/
def ordI (m a b : Int) : Int := if (b - a) % m = 0 then 0 else if (b - a) % m < m / 2 then -1 else if (a - b) % m < m / 2 then 1 else 0
/-- Whether there is one. -/
def ordB (m a b : Int) : Bool := if (b - a) % m = 0 then true else if (b - a) % m < m / 2 then true else if (a - b) % m < m / 2 then true else false
/-- A call answers an order, and nothing that was there has turned. -/
def IsOrd (m a b : Int) (w : World) (e : Ending) (w' : World) : Prop := e = .returned (.tuple #[.int .i64 (ordI m a b), .bool (ordB m a b)]) ∧ Up w w'

theorem isOrd_eq {m a b : Int} {w w' : World} (h : (b - a) % m = 0) (hu : Up w w') : IsOrd m a b w (.returned (.tuple #[.int .i64 0, .bool true])) w' := by
  refine ⟨?_, hu⟩; unfold ordI ordB; rw [if_pos h, if_pos h]
theorem isOrd_lt {m a b : Int} {w w' : World} (h0 : ¬ (b - a) % m = 0) (h : (b - a) % m < m / 2) (hu : Up w w') : IsOrd m a b w (.returned (.tuple #[.int .i64 (-1), .bool true])) w' := by
  refine ⟨?_, hu⟩; unfold ordI ordB; rw [if_neg h0, if_neg h0, if_pos h, if_pos h]
theorem isOrd_gt {m a b : Int} {w w' : World} (h0 : ¬ (b - a) % m = 0) (h1 : ¬ (b - a) % m < m / 2) (h : (a - b) % m < m / 2) (hu : Up w w') : IsOrd m a b w (.returned (.tuple #[.int .i64 1, .bool true])) w' := by
  refine ⟨?_, hu⟩; unfold ordI ordB; rw [if_neg h0, if_neg h0, if_neg h1, if_neg h1, if_pos h, if_pos h]
theorem isOrd_no {m a b : Int} {w w' : World} (h0 : ¬ (b - a) % m = 0) (h1 : ¬ (b - a) % m < m / 2) (h : ¬ (a - b) % m < m / 2) (hu : Up w w') : IsOrd m a b w (.returned (.tuple #[.int .i64 0, .bool false])) w' := by
  refine ⟨?_, hu⟩; unfold ordI ordB; rw [if_neg h0, if_neg h0, if_neg h1, if_neg h1, if_neg h, if_neg h]

theorem most16 : bits BinOp.xor IntKind.u16 (if IntKind.u16.signed = true then -1 else IntKind.u16.max) 0 / 2 = 32767 := by kernel_rfl
theorem most32 : bits BinOp.xor IntKind.u32 (if IntKind.u32.signed = true then -1 else IntKind.u32.max) 0 / 2 = 2147483647 := by kernel_rfl
theorem up_drew2 {w w' : World} (h : Up w w') : Up w w'.drew := Below.drew h
end Go.Proofs.Ytpfdojlhgfhbfaa
