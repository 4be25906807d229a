import Derived.Test.YthncpkjnalmpkaaAvG1
import Derived.Test.YthncpkjnalmpkaaAvP3
import Derived.Test.YthncpkjnalmpkaaAvO
import Derived.Test.YthncpkjnalmpkaaStaged
namespace Go.Proofs.Ythncpkjnalmpkaa
open Go Go.RowKit
set_option linter.unusedVariables false
set_option linter.unusedSimpArgs false
/-! What the reference's Get wants. -/
theorem run_add3 (a b : Nat) (h : a + b ≤ 1000000) (w : World) : (binOp .add 3 (.int .i64 (a : Int)) (.int .i64 (b : Int))).run Try.prog w = .ok (.int .i64 ((a + b : Nat) : Int)) w := by
  simp [go_sem, IntKind.wrap, IntKind.bits, IntKind.signed]; omega
theorem grd3 (x y : Operand) (a b : Int) (w : World) : (eqGuard .add 3 x y (.int .i64 a) (.int .i64 b)).run Try.prog w = .ok () w := by kernel_rfl
theorem grdq (x y : Operand) (a b : Int) (w : World) : (eqGuard .quo 5 x y (.int .u8 a) (.int .u8 b)).run Try.prog w = .ok () w := by kernel_rfl
theorem grdr (x y : Operand) (a b : Int) (w : World) : (eqGuard .rem 5 x y (.int .u8 a) (.int .u8 b)).run Try.prog w = .ok () w := by kernel_rfl
theorem grde (x y : Operand) (a b : Int) (w : World) : (eqGuard .eql 5 x y (.int .u8 a) (.int .u8 b)).run Try.prog w = .ok () w := by kernel_rfl
theorem run_quo5 (a b : Nat) (h : a < 256) (hb : 0 < b) (w : World) : (binOp .quo 5 (.int .u8 (a : Int)) (.int .u8 (b : Int))).run Try.prog w = .ok (.int .u8 ((a / b : Nat) : Int)) w := by
  have h0 : ((b : Int) == 0) = false := by rw [beq_eq_false_iff_ne]; omega
  have h1 : ¬ ((b : Int) = 0) := by omega
  have h2 : ¬ (b = 0) := by omega
  have e : (a / b : Nat) < 256 := Nat.lt_of_le_of_lt (Nat.div_le_self a b) h
  have e2 : ((a : Int) / (b : Int)) = ((a / b : Nat) : Int) := (Int.natCast_ediv a b).symm
  simp [go_sem, h0, h1, h2, IntKind.wrap, IntKind.bits, IntKind.signed]
  rw [e2]
  generalize a / b = q at e ⊢
  omega
theorem run_rem5 (a b : Nat) (h : a < 256) (hb : 0 < b) (w : World) : (binOp .rem 5 (.int .u8 (a : Int)) (.int .u8 (b : Int))).run Try.prog w = .ok (.int .u8 ((a % b : Nat) : Int)) w := by
  have h0 : ((b : Int) == 0) = false := by rw [beq_eq_false_iff_ne]; omega
  have h1 : ¬ ((b : Int) = 0) := by omega
  have h2 : ¬ (b = 0) := by omega
  have e : (a % b : Nat) < 256 := Nat.lt_of_le_of_lt (Nat.mod_le a b) h
  have e2 : ((a : Int).tmod (b : Int)) = ((a % b : Nat) : Int) := by rw [Int.tmod_eq_emod_of_nonneg (by omega)]; exact (Int.natCast_emod a b).symm
  simp [go_sem, h0, h1, h2, IntKind.wrap, IntKind.bits, IntKind.signed, e2]
  try omega
theorem run_eq5 (a b : Nat) (w : World) : (binOp .eql 5 (.int .u8 (a : Int)) (.int .u8 (b : Int))).run Try.prog w = .ok (.bool (decide (a = b))) w := by
  simp [go_sem]
  by_cases h : a = b
  · simp [h]
  · have h2 : ¬ ((a : Int) = (b : Int)) := by omega
    simp [h, h2]
theorem run_c336 (n : Int) (h : 0 ≤ n ∧ n < 4294967296) (w : World) : (convert 3 22 (.int .i64 n)).run Try.prog w = .ok (.int .u32 n) w := by
  simp [go_sem, IntKind.wrap, IntKind.bits, IntKind.signed]
  omega
theorem sz5 (w : World) : (Go.sizeOf 5).run Try.prog w = .ok 1 w := by kernel_rfl
theorem siz38 (w : World) : (Go.sizeOf 56).run Try.prog w = .ok 5 w := by kernel_rfl
theorem agg5 (w : World) : (isAgg 5).run Try.prog w = .ok false w := by kernel_rfl
theorem idx5 (g o n c i : Nat) (hi : i < n) (w : World) : (Instr.indexAt 26 (.slice (some ⟨g, o, none⟩) n c) (.int .i64 (i : Int))).run Try.prog w = .ok (.pointer (some ⟨g, o + i, none⟩)) w := by
  have := run_indexT (P := Try.prog) (w := w) Try.underlying26 (sz5 w) (A := ⟨g, o, none⟩) (n := n) (c := c) hi
  rw [add_flat, Nat.mul_one] at this
  exact this
theorem build38 (C : Int) (M P : Bool) (w : World) : (Instr.build 56 #[(0, .int .u32 C), (2, .bool M), (3, .bool P)]).run Try.prog w = .ok (.agg #[.int .u32 C, .int .u32 0, .bool M, .bool P, .slice none 0 0]) w := by kernel_rfl
theorem x_build {P : Program} {o : Oper} {a : Act} {w : World} (t : TypeId) (ps : Array (Nat × Operand)) {v : Value} (ho : o.op = .build t ps) (hr : (Instr.build t (ps.map fun (i, x) => (i, a.eval x))).run P w = .ok v w) : (execOp a.eval o).run P w = .ok (.value v) w := by
  simp only [execOp, ho, Sem.run_bind, hr, Result.andThen_ok, Sem.run_pure]
theorem x_alloc38 {o : Oper} {a : Act} {w : World} (ho : o.op = .alloc 56) : (execOp a.eval o).run Try.prog w = .ok (.value (.pointer (some ⟨w.heap.size, 0, none⟩))) (w.alloc (.cells #[.int .u32 0, .int .u32 0, .bool false, .bool false, .slice none 0 0] 56)) := by
  unfold execOp; rw [ho]; kernel_rfl
/-- A new attribute, empty yet. -/
def NewA (base : Nat) (v : Value) (w : World) : Prop := ∃ b, v = .pointer (some ⟨b, 0, none⟩) ∧ base ≤ b ∧ w.heap[b]? = some (.cells #[.int .u32 0, .int .u32 0, .bool false, .bool false, .slice none 0 0] 56 (0, 0))
theorem keeps_newA (base : Nat) : Keeps (NewA base) := fun v w w' ⟨b, h1, h2, h3⟩ hu => ⟨b, h1, h2, (hu.block b (lt_of_blk h3)).trans h3⟩
theorem run_store5 {w : World} {b : Nat} {cs : Array Value} {x0 x1 x2 x3 x4 : Value} (hb : w.heap[b]? = some (.cells cs 56 (0, 0))) (hs : cs.size = 5) (h0 : x0.oneCell' = true) (h1 : x1.oneCell' = true) (h2 : x2.oneCell' = true) (h3 : x3.oneCell' = true) (h4 : x4.oneCell' = true) (hc : (Value.agg #[x0, x1, x2, x3, x4]).cells = #[x0, x1, x2, x3, x4]) :
    (Instr.storeAt 56 (.pointer (some ⟨b, 0, none⟩)) (.agg #[x0, x1, x2, x3, x4])).run Try.prog w = .ok () (((((w.setCell ⟨b, 0, none⟩ x0).setCell ⟨b, 1, none⟩ x1).setCell ⟨b, 2, none⟩ x2).setCell ⟨b, 3, none⟩ x3).setCell ⟨b, 4, none⟩ x4) := by
  have := run_storeCells_cells (P := Try.prog) b 0 [x0, x1, x2, x3, x4] 0 w (fun k hk => by
    have : k < 5 := by simpa using hk
    exact cell_at hb (by omega)) (fun k hk => frozen_at hb) (by simp [h0, h1, h2, h3, h4])
  simp [Instr.storeAt, Instr.sureAddr, storeVar, siz38, hc, Result.andThen]
  simpa [World.setCells] using this
/-- The first attribute at a place. -/
theorem stepA_at {xs : List Int} {p B N : Nat} {C V : Int} (hp : p ≤ xs.length) (hB : xs.getD (p + 4) 0 = (B : Int)) (hN : num 0 ((xs.drop (p + 5)).take 3) = (N : Int)) (hC : num 0 ((xs.drop p).take 4) = C) (hV : num 0 ((xs.drop (p + 8)).take 4) = V) :
    stepA (xs.drop p) = if xs.length - p < 8 ∨ (128 ≤ B ∧ xs.length - p < 12) then .error 3 else if N < (if 128 ≤ B then 12 else 8) then .error 2 else if xs.length - p < N + padN N then .error 3
      else if 128 ≤ B then (if V = 0 then .error 2 else .ok (⟨C, V, decide (B / 64 % 2 = 1), decide (B / 32 % 2 = 1), (xs.drop (p + 12)).take (N - 12)⟩, N + padN N)) else .ok (⟨C, 0, decide (B / 64 % 2 = 1), decide (B / 32 % 2 = 1), (xs.drop (p + 8)).take (N - 8)⟩, N + padN N) := by
  have e4 : (xs.drop p).getD 4 0 = (B : Int) := by rw [← hB]; simp [List.getD]
  have c1 : (128 ≤ (B : Int)) ↔ 128 ≤ B := by omega
  have c2 : ((B : Int) / 64 % 2 = 1) ↔ B / 64 % 2 = 1 := by omega
  have c3 : ((B : Int) / 32 % 2 = 1) ↔ B / 32 % 2 = 1 := by omega
  unfold stepA
  rw [e4, List.length_drop, List.drop_drop, List.drop_drop, List.drop_drop, hN, hC, hV, Int.toNat_natCast]
  simp only [c1, c2, c3]
end Go.Proofs.Ythncpkjnalmpkaa
