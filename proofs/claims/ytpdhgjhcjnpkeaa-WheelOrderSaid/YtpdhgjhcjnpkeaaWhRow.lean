import Derived.Test.YtpdhgjhcjnpkeaaWhCmp2
namespace Go.Proofs.Ytpdhgjhcjnpkeaa
open Go Go.RowKit
set_option linter.unusedVariables false
theorem tcells_cons (x : Tm.T) (L : List Tm.T) : tcells (x :: L) = .int .i64 x.1 :: .int .i64 x.2 :: tcells L := rfl
theorem tcells_append (L M : List Tm.T) : tcells (L ++ M) = tcells L ++ tcells M := by simp [tcells]
theorem tcellsT_get {a : List Tm.T} {i : Nat} (hi : i < a.length) : (tcells a)[i * 2]? = some (.int .i64 (Hp.at_ a i).1) ∧ (tcells a)[i * 2 + 1]? = some (.int .i64 (Hp.at_ a i).2) := by
  induction a generalizing i with
  | nil => simp at hi
  | cons x a ih =>
    cases i with
    | zero => exact ⟨rfl, rfl⟩
    | succ i =>
      have := ih (i := i) (by simpa using hi)
      rw [show (i + 1) * 2 = i * 2 + 2 by omega, tcells_cons]
      exact this
theorem tcells_set {a : List Tm.T} {i : Nat} (y : Tm.T) : tcells (a.set i y) = ((tcells a).set (i * 2) (.int .i64 y.1)).set (i * 2 + 1) (.int .i64 y.2) := by
  induction a generalizing i with
  | nil => rfl
  | cons x a ih =>
    cases i with
    | zero => rfl
    | succ i =>
      rw [show (i + 1) * 2 = i * 2 + 2 by omega, tcells_cons, List.set_cons_succ, tcells_cons, ih]
      rfl
/-- The row's block, and what it holds. -/
structure RowB (w : World) (g c : Nat) (a : List Tm.T) : Prop where
  blk : ∃ cur, w.heap[g]? = some (.cells cur 33 (0, 0)) ∧ cur.size = c * 2 ∧ cur.toList.take (a.length * 2) = tcells a
  le : a.length ≤ c
  cap : c ≤ maxLen
theorem rowB_of {pb c : Nat} {A : Option Addr} {M : Option Nat} {w : World} {a : List Tm.T} (h : HeapAt pb A c M w a) (h0 : 0 < a.length) : ∃ g, A = some ⟨g, 0, none⟩ ∧ g ≠ pb ∧ RowB w g c a := by
  rcases h.row.2 with h2 | ⟨g, cap, cur, hv, hg, hh, r1, r2, r3, r4⟩
  · omega
  · injection hv with e1 e2 e3
    subst e3
    refine ⟨g, e1, fun e => h.ne (by rw [e1, e]; rfl), ⟨cur, hh, r3, r4⟩, r1, r2⟩
theorem RowB.cell {w : World} {g c : Nat} {a : List Tm.T} (h : RowB w g c a) {i : Nat} (hi : i < a.length) : w.cell? ⟨g, i * 2, none⟩ = some (.int .i64 (Hp.at_ a i).1) ∧ w.cell? ⟨g, i * 2 + 1, none⟩ = some (.int .i64 (Hp.at_ a i).2) := by
  obtain ⟨cur, h1, h2, h3⟩ := h.blk
  obtain ⟨t1, t2⟩ := tcellsT_get hi
  rw [← h3, List.getElem?_take] at t1 t2
  rw [if_pos (by omega)] at t1 t2
  exact ⟨cell_of h1 (by simpa using t1), cell_of h1 (by simpa using t2)⟩
theorem RowB.keep {w w' : World} {g c : Nat} {a : List Tm.T} (h : RowB w g c a) (hk : w'.heap[g]? = w.heap[g]?) : RowB w' g c a := ⟨by rw [hk]; exact h.blk, h.le, h.cap⟩
theorem run_load33i {g i : Nat} {w : World} {x : Tm.T} (h : w.cell? ⟨g, i * 2, none⟩ = some (.int .i64 x.1) ∧ w.cell? ⟨g, i * 2 + 1, none⟩ = some (.int .i64 x.2)) : (Instr.loadAt 33 (.pointer (some ⟨g, 0 + i * 2, none⟩))).run Try.prog w = .ok (.agg #[.int .i64 x.1, .int .i64 x.2]) w := by
  rw [Nat.zero_add]
  refine run_load33 (cs := [.int .i64 x.1, .int .i64 x.2]) rfl fun j v hv => ?_
  rw [Addr.add_lit]
  match j, hv with
  | 0, hv => cases hv; exact h.1
  | 1, hv => cases hv; exact h.2
theorem x_bin {P : Program} {o : Oper} {a : Act} {w : World} (op : BinOp) (tx ty : TypeId) (x y : Operand) {X Y v : Value} (ho : o.op = .binOp op tx x y ty) (hx : a.eval x = X) (hy : a.eval y = Y) (hg : (eqGuard op tx x y X Y).run P w = .ok () w) (hr : (binOp op tx X Y).run P w = .ok v w) : (execOp a.eval o).run P w = .ok (.value v) w := by simp [execOp, ho, hx, hy, hg, hr, Result.andThen]
theorem cmpT_bef (x y : Tm.T) : decide (cmpT x y < 0) = decide (Tm.Bef x y) := by
  rw [Bool.eq_iff_iff, decide_eq_true_iff, decide_eq_true_iff]
  unfold cmpT orI cmpI Tm.Bef
  split <;> split <;> (try split) <;> (try split) <;> (try split) <;> omega
end Go.Proofs.Ytpdhgjhcjnpkeaa
