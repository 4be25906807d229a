import Derived.Test.YtgikgcepeniekaaCk7
import Derived.Test.YtgikgcepeniekaaStaged
namespace Go.Proofs.Ytgikgcepeniekaa
open Go Go.RowKit
set_option linter.unusedVariables false
set_option linter.unusedSimpArgs false
/-! Regions that draw their order: what these need. -/
/-- Only h has turned: its cells are those of stage k. -/
def WB (h : Nat) (T : TypeId) (cs : Nat → Array Value) (w0 : World) (k : Nat) (w : World) : Prop := Out (fun j => j = h) w0 w ∧ w.heap[h]? = some (.cells (cs k) T (0, 0))
theorem wb_up {h : Nat} {T : TypeId} {cs : Nat → Array Value} {w0 w w' : World} {k : Nat} (a : WB h T cs w0 k w) (hu : Up w w') : WB h T cs w0 k w' := ⟨a.1.trans (S' := No) (hu.out No) (fun _ h => h.elim), (hu.block _ (lt_of_blk a.2)).trans a.2⟩
theorem run_loadRow {P : Program} {T t : TypeId} {g : Nat} {cs : Array Value} {fr : Nat × Nat} {d : TypeDesc} {w : World} (hg : w.heap[g]? = some (.cells cs t fr)) (hu : P.underlying T = some d) (hd : (match d with | .struct _ | .array _ _ => true | _ => false) = true) (hi : (P.info? T).map (·.size) = some cs.size) :
    (Instr.loadAt T (.pointer (some ⟨g, 0, none⟩))).run P w = .ok (.agg cs) w := by
  simp [Instr.loadAt, Instr.sureAddr, run_loadVar_row w g t T cs fr d hg hu hd hi]
theorem run_store3 {P : Program} {t : TypeId} (ht : ∀ w, (Go.sizeOf t).run P w = .ok 3 w) {w : World} {b : Nat} {cs : Array Value} {T : TypeId} {x y z : Value} (hb : w.heap[b]? = some (.cells cs T (0, 0))) (hs : cs.size = 3) (h1 : x.oneCell' = true) (h2 : y.oneCell' = true) (h3 : z.oneCell' = true) :
    (Instr.storeAt t (.pointer (some ⟨b, 0, none⟩)) (.agg #[x, y, z])).run P w = .ok () (((w.setCell ⟨b, 0, none⟩ x).setCell ⟨b, 1, none⟩ y).setCell ⟨b, 2, none⟩ z) := by
  have := run_storeCells_cells (P := P) b 0 [x, y, z] 0 w (fun k hk => by
    simp at hk
    simpa using cell_at hb (j := k) (by omega)) (fun k hk => by simpa using frozen_at hb (j := k)) (by simp [h1, h2, h3])
  simp [Instr.storeAt, Instr.sureAddr, storeVar, ht, Value.cells, Result.andThen]
  simpa [World.setCells] using this
section
variable {P : Program} {ops : Array Oper} {Φ : Nat → Value → World → Prop} {a0 : Act}
/-- A guarded call that is made, and makes memory. -/
theorem opS_callUpG {ws : List Nat} {W : Nat → World → Prop} {i : Nat} {o : Oper} (j : Nat) (b : Bool) (oj : Oper) (d : Tmp) (hg : o.guard = some (j, b)) (hin : (o.after.toList.any fun e => e.on == j && Region.binds .any e) = true) (hj : ops[j]? = some oj) (hdj : oj.dst = some d) (hv : ∀ v w, Φ j v w → v = .bool b) (hi : ws.contains i = false)
    (hW : ∀ k w w', W k w → Up w w' → W k w') (hF : ∀ j x w w', Φ j x w → Up w w' → Φ j x w')
    (h : ∀ (L : Nat → Bool) (a : Act) (w : World), Stg ws W L w → L i = false → Closed ops L → (∀ t, oldB ops t = true → a.tmps.getD t undef = a0.tmps.getD t undef) →
      (∀ (j : Nat) (oj : Oper) (d : Tmp), (o.after.toList.any fun e => e.on == j && Region.binds .any e) = true → ops[j]? = some oj → oj.dst = some d → Φ j (a.tmps.getD d undef) w) → ∃ f args, (execOp a.eval o).run P w = .ok (.enter f args) w ∧ Calls P f args w fun e w' => ∃ v, e = .returned v ∧ Up w w' ∧ Φ i v w') : OpS P ops Φ (Stg ws W) a0 i o := by
  intro L a w hJ hl hc _ _ ho hd
  have hy := yielded_of (tmps := a.tmps) hj hdj (hv _ w (hd j oj d hin hj hdj))
  rw [if_pos (by simp [Region.wanted, hg, hy])]
  obtain ⟨f, args, hr, hcall⟩ := h L a w hJ hl hc ho hd
  unfold Oper.wp
  rw [hr]
  refine Calls.mono hcall fun e w' ⟨v, he, hu, hv⟩ => ?_
  subst he
  exact ⟨⟨v, rfl, hv⟩, hJ.same hi (fun k hk => hW k w w' hk hu), fun j x _ hj => hF j x w w' hj hu⟩
end
section
variable {P : Program} {o : Oper} {a : Act} {w : World}
theorem x_build {P : Program} {o : Oper} {a : Act} {w : World} (t : TypeId) (ps : Array (Nat × Operand)) {v : Value} (ho : o.op = .build t ps) (hr : (Instr.build t (ps.map fun (i, x) => (i, a.eval x))).run P w = .ok v w) : (execOp a.eval o).run P w = .ok (.value v) w := by simp [execOp, ho, hr, Result.andThen]
theorem x_not (t : TypeId) (x : Operand) {b : Bool} (ho : o.op = .unOp .not t x) (hx : a.eval x = .bool b) : (execOp a.eval o).run P w = .ok (.value (.bool !b)) w := by simp [execOp, ho, hx, Op.unary, asBool]
end
theorem agg5 (w : World) : (isAgg 5).run Try.prog w = .ok false w := by kernel_rfl
theorem agg23 (w : World) : (isAgg 23).run Try.prog w = .ok false w := by kernel_rfl
theorem agg3 (w : World) : (isAgg 3).run Try.prog w = .ok false w := by kernel_rfl
theorem agg37 (w : World) : (isAgg 37).run Try.prog w = .ok false w := by kernel_rfl
theorem agg24 (w : World) : (isAgg 24).run Try.prog w = .ok false w := by kernel_rfl
theorem sz4 (w : World) : (Go.sizeOf 4).run Try.prog w = .ok 1 w := by kernel_rfl
theorem sz41 (w : World) : (Go.sizeOf 41).run Try.prog w = .ok 3 w := by kernel_rfl
theorem fld770 (b o : Nat) (w : World) : (Instr.fieldAt 77 (.pointer (some ⟨b, o, none⟩)) 0).run Try.prog w = .ok (.pointer (some ⟨b, o, none⟩)) w := by kernel_rfl
theorem fld771 (b o : Nat) (w : World) : (Instr.fieldAt 77 (.pointer (some ⟨b, o, none⟩)) 1).run Try.prog w = .ok (.pointer (some ⟨b, o + 1, none⟩)) w := by kernel_rfl
theorem fld700 (b o : Nat) (w : World) : (Instr.fieldAt 70 (.pointer (some ⟨b, o, none⟩)) 0).run Try.prog w = .ok (.pointer (some ⟨b, o, none⟩)) w := by kernel_rfl
theorem fld411 (b o : Nat) (w : World) : (Instr.fieldAt 41 (.pointer (some ⟨b, o, none⟩)) 1).run Try.prog w = .ok (.pointer (some ⟨b, o + 1, none⟩)) w := by kernel_rfl
theorem fld503 (b o : Nat) (w : World) : (Instr.fieldAt 50 (.pointer (some ⟨b, o, none⟩)) 3).run Try.prog w = .ok (.pointer (some ⟨b, o + 3, none⟩)) w := by kernel_rfl
theorem fld504 (b o : Nat) (w : World) : (Instr.fieldAt 50 (.pointer (some ⟨b, o, none⟩)) 4).run Try.prog w = .ok (.pointer (some ⟨b, o + 4, none⟩)) w := by kernel_rfl
theorem fld505 (b o : Nat) (w : World) : (Instr.fieldAt 50 (.pointer (some ⟨b, o, none⟩)) 5).run Try.prog w = .ok (.pointer (some ⟨b, o + 5, none⟩)) w := by kernel_rfl
theorem build_ch (A : Option Addr) (n c : Nat) (x y : Int) (w : World) : (Instr.build 41 #[(0, .int .u8 x), (1, .int .u8 y), (2, .slice A n c)]).run Try.prog w = .ok (.agg #[.int .u8 x, .int .u8 y, .slice A n c]) w := by kernel_rfl
theorem run_neq5 (a b : Int) (v : Bool) (h : (a != b) = v) (w : World) : (binOp .neq 5 (.int .u8 a) (.int .u8 b)).run Try.prog w = .ok (.bool v) w := by subst h; simp [go_sem]
theorem run_neq24 (a b : Int) (v : Bool) (h : (a != b) = v) (w : World) : (binOp .neq 24 (.int .i64 a) (.int .i64 b)).run Try.prog w = .ok (.bool v) w := by subst h; simp [go_sem]
theorem run_and5 (a b v : Int) (h : bits .and .u8 a b = v) (w : World) : (binOp .and 5 (.int .u8 a) (.int .u8 b)).run Try.prog w = .ok (.int .u8 v) w := by subst h; simp [go_sem]
theorem grd5 (x y : Operand) (a b : Int) (w : World) : (eqGuard .neq 5 x y (.int .u8 a) (.int .u8 b)).run Try.prog w = .ok () w := by kernel_rfl
theorem grd24 (x y : Operand) (a b : Int) (w : World) : (eqGuard .neq 24 x y (.int .i64 a) (.int .i64 b)).run Try.prog w = .ok () w := by kernel_rfl
theorem grda (x y : Operand) (a b : Int) (w : World) : (eqGuard .and 5 x y (.int .u8 a) (.int .u8 b)).run Try.prog w = .ok () w := by kernel_rfl
end Go.Proofs.Ytgikgcepeniekaa
