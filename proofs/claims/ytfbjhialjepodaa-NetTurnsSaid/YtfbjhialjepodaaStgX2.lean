import Derived.Test.YtfbjhialjepodaaStgX
import Derived.Test.YtfbjhialjepodaaCellG
import Derived.Test.YtfbjhialjepodaaBytesC
namespace Go.Proofs.Ytfbjhialjepodaa
open Go Go.RowKit
set_option linter.unusedVariables false
section
variable {P : Program} {o : Oper} {a : Act} {w : World}
theorem x_bin (op : BinOp) (tx ty : TypeId) (x y : Operand) {X Y v : Value} (ho : o.op = .binOp op tx x y ty) (hx : a.eval x = X) (hy : a.eval y = Y) (hg : (eqGuard op tx x y X Y).run P w = .ok () w) (hr : (binOp op tx X Y).run P w = .ok v w) : (execOp a.eval o).run P w = .ok (.value v) w := by simp [execOp, ho, hx, hy, hg, hr, Result.andThen]
theorem x_pick (c x y : Operand) {b : Bool} {X Y : Value} (ho : o.op = .pick c x y) (hc : a.eval c = .bool b) (hx : b = true → a.eval x = X) (hy : b = false → a.eval y = Y) : (execOp a.eval o).run P w = .ok (.value (if b then X else Y)) w := by
  cases b with
  | true => simp [execOp, ho, hc, asBool, hx rfl]
  | false => simp [execOp, ho, hc, asBool, hy rfl]
theorem x_conv (s d : TypeId) (x : Operand) {X v : Value} (ho : o.op = .convert s d x) (hx : a.eval x = X) (hr : (convert s d X).run P w = .ok v w) : (execOp a.eval o).run P w = .ok (.value v) w := by simp [execOp, ho, hx, hr, Result.andThen]
/-- The place of an element. -/
theorem run_indexT {T E : TypeId} {s : Nat} (hT : P.underlying T = some (.slice E)) (hs : (Go.sizeOf E).run P w = .ok s w) {A : Addr} {n c i : Nat} (hi : i < n) : (Instr.indexAt T (.slice (some A) n c) (.int .i64 (i : Int))).run P w = .ok (.pointer (some (A.add (i * s)))) w := by
  have h1 : (0 : Int) ≤ i ∧ (i : Int) < n := by omega
  simp [Instr.indexAt, asIntOf, run_underlying hT, Result.andThen, h1, Nat.not_le.2 hi, hs]
/-- A store of one cell, of whose block only the cell is known. -/
theorem run_store1c {t : TypeId} (ht : ∀ w, (Go.sizeOf t).run P w = .ok 1 w) {b j : Nat} {v : Value} (hc : (w.cell? ⟨b, j, none⟩).isSome = true) (hf : w.frozen? ⟨b, j, none⟩ = false) (h1 : v.oneCell' = true) (h2 : v.cells = #[v]) :
    (Instr.storeAt t (.pointer (some ⟨b, j, none⟩)) v).run P w = .ok () (w.setCell ⟨b, j, none⟩ v) := by
  have := run_storeCells_cells (P := P) b j [v] 0 w (fun k hk => by
    have : k = 0 := by simpa using hk
    subst this; exact hc) (fun k hk => by
    have : k = 0 := by simpa using hk
    subst this; exact hf) (by simpa using h1)
  simp [Instr.storeAt, Instr.sureAddr, storeVar, ht, h2, Result.andThen]
  simpa [World.setCells] using this
end
def Tru : Value → World → Prop := fun _ _ => True
/-- It asks nothing of the world. -/
def Free (φ : Value → World → Prop) : Prop := ∀ v w w', φ v w → φ v w'
theorem free_is (x : Value) : Free (Is x) := fun _ _ _ h => h
theorem free_tru : Free Tru := fun _ _ _ _ => trivial
theorem facts_free {l : List (Value → World → Prop)} (h : ∀ φ ∈ l, Free φ) (i : Nat) (v : Value) {w w' : World} (hf : facts l i v w) : facts l i v w' := by
  unfold facts at *
  rw [List.getD] at *
  cases hx : l[i]? with
  | none => simp
  | some φ =>
    rw [hx] at hf
    exact h φ (List.mem_of_getElem? hx) v w w' hf
section
variable {P : Program} {ops : Array Oper} {Φ : Nat → Value → World → Prop} {a0 : Act}
/-- A guarded operation that is carried out and leaves the world alone. -/
theorem opS_sameG {ws : List Nat} {W : Nat → World → Prop} {i : Nat} {o : Oper} (j : Nat) (b : Bool) (oj : Oper) (d : Tmp) (hg : o.guard = some (j, b)) (hin : (o.after.toList.any fun e => e.on == j && Region.binds .any e) = true) (hj : ops[j]? = some oj) (hdj : oj.dst = some d) (hv : ∀ v w, Φ j v w → v = .bool b) (hi : ws.contains i = false)
    (h : ∀ (L : Nat → Bool) (a : Act) (w : World), Stg ws W L w → L i = false → Closed ops L → (∀ t, oldB ops t = true → a.tmps.getD t undef = a0.tmps.getD t undef) →
      (∀ (j : Nat) (oj : Oper) (d : Tmp), (o.after.toList.any fun e => e.on == j && Region.binds .any e) = true → ops[j]? = some oj → oj.dst = some d → Φ j (a.tmps.getD d undef) w) → ∃ v, (execOp a.eval o).run P w = .ok (.value v) w ∧ Φ i v w) : OpS P ops Φ (Stg ws W) a0 i o := by
  intro L a w hJ hl hc _ _ ho hd
  have hy := yielded_of (tmps := a.tmps) hj hdj (hv _ w (hd j oj d hin hj hdj))
  rw [if_pos (by simp [Region.wanted, hg, hy])]
  obtain ⟨v, hr, hv⟩ := h L a w hJ hl hc ho hd
  unfold Oper.wp
  rw [hr]
  exact ⟨⟨v, rfl, hv⟩, hJ.same hi (fun _ h => h), fun _ _ _ h => h⟩
/-- One that its guard passes over. -/
theorem opS_skip {ws : List Nat} {W : Nat → World → Prop} {i : Nat} {o : Oper} (j : Nat) (b c : Bool) (hbc : c ≠ b) (oj : Oper) (d : Tmp) (hg : o.guard = some (j, b)) (hin : (o.after.toList.any fun e => e.on == j && Region.binds .any e) = true) (hj : ops[j]? = some oj) (hdj : oj.dst = some d) (hv : ∀ v w, Φ j v w → v = .bool c) (hi : ws.contains i = false) (hΦ : ∀ w, Φ i undef w) : OpS P ops Φ (Stg ws W) a0 i o := by
  intro L a w hJ hl hc _ _ ho hd
  have hy := yielded_of (tmps := a.tmps) hj hdj (hv _ w (hd j oj d hin hj hdj))
  rw [if_neg (by simp [Region.wanted, hg, hy, hbc])]
  exact ⟨hΦ w, hJ.same hi (fun _ h => h)⟩
end
end Go.Proofs.Ytfbjhialjepodaa
