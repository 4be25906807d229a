import Derived.Test.YtfbjhialjepodaaStaged
namespace Go.Proofs.Ytfbjhialjepodaa
open Go Go.RowKit
set_option linter.unusedVariables false
section
variable {P : Program} {o : Oper} {a : Act} {w : World}
theorem x_move (x : Operand) {v : Value} (ho : o.op = .move x) (hx : a.eval x = v) : (execOp a.eval o).run P w = .ok (.value v) w := by simp [execOp, ho, hx]
theorem x_assign (x : Operand) {v : Value} (ho : o.op = .assign x) (hx : a.eval x = v) : (execOp a.eval o).run P w = .ok (.value v) w := by simp [execOp, ho, hx]
theorem x_field (s : TypeId) (x : Operand) (f : Nat) {V v : Value} (ho : o.op = .fieldAddr s x f) (hx : a.eval x = V) (hr : (Instr.fieldAt s V f).run P w = .ok v w) : (execOp a.eval o).run P w = .ok (.value v) w := by simp [execOp, ho, hx, hr, Result.andThen]
theorem x_nil (x : Operand) {A : Addr} (ho : o.op = .nilCheck x) (hx : a.eval x = .pointer (some A)) : (execOp a.eval o).run P w = .ok (.value (.pointer (some A))) w := by simp [execOp, ho, hx]
theorem x_load (t : TypeId) (x : Operand) {V v : Value} (ho : o.op = .load t x) (hx : a.eval x = V) (hr : (Instr.loadAt t V).run P w = .ok v w) : (execOp a.eval o).run P w = .ok (.value v) w := by simp [execOp, ho, hx, hr, Result.andThen]
theorem x_index (t : TypeId) (x y : Operand) {X Y v : Value} (ho : o.op = .indexAddr t x y) (hx : a.eval x = X) (hy : a.eval y = Y) (hr : (Instr.indexAt t X Y).run P w = .ok v w) : (execOp a.eval o).run P w = .ok (.value v) w := by simp [execOp, ho, hx, hy, hr, Result.andThen]
theorem x_store (t : TypeId) (x y : Operand) {X Y : Value} {w' : World} (ho : o.op = .store t x y) (hx : a.eval x = X) (hy : a.eval y = Y) (hr : (Instr.storeAt t X Y).run P w = .ok () w') : (execOp a.eval o).run P w = .ok .skip w' := by simp [execOp, ho, hx, hy, hr, Result.andThen]
theorem x_extract (x : Operand) (i : Nat) {vs : Array Value} {v : Value} (ho : o.op = .extract x i) (hx : a.eval x = .tuple vs) (hr : vs[i]? = some v) : (execOp a.eval o).run P w = .ok (.value v) w := by simp [execOp, ho, hx, Instr.extract, hr]
theorem x_entry (t : TypeId) (x y : Operand) {X Y v : Value} {w' : World} (ho : o.op = .mapEntry t x y) (hx : a.eval x = X) (hy : a.eval y = Y) (hr : (Instr.mapEntry t X Y).run P w = .ok v w') : (execOp a.eval o).run P w = .ok (.value v) w' := by simp [execOp, ho, hx, hy, hr, Result.andThen]
theorem x_estore (t : TypeId) (x y z : Operand) {X Y Z : Value} {w' : World} (ho : o.op = .entryStore t x y z) (hx : a.eval x = X) (hy : a.eval y = Y) (hz : a.eval z = Z) (hr : (Instr.entryStore t X Y Z).run P w = .ok () w') : (execOp a.eval o).run P w = .ok .skip w' := by simp [execOp, ho, hx, hy, hz, hr, Result.andThen]
theorem x_mapupd (t : TypeId) (x y z : Operand) {X Y Z : Value} {w' : World} (ho : o.op = .mapUpdate t x y z) (hx : a.eval x = X) (hy : a.eval y = Y) (hz : a.eval z = Z) (hr : (Instr.mapUpdate t X Y Z).run P w = .ok () w') : (execOp a.eval o).run P w = .ok .skip w' := by simp [execOp, ho, hx, hy, hz, hr, Result.andThen]
theorem x_slice (t : TypeId) (x y : Operand) {X Y v : Value} (ho : o.op = .slice t x none (some y) none) (hx : a.eval x = X) (hy : a.eval y = Y) (hr : (Instr.sliceAt t X none (some Y) none).run P w = .ok v w) : (execOp a.eval o).run P w = .ok (.value v) w := by simp [execOp, ho, hx, hy, hr, Result.andThen]
theorem x_bslice (t : TypeId) (n : Nat) (ps : Array (Nat × Operand)) {v : Value} {w' : World} (ho : o.op = .buildSlice t n ps) (hr : (Instr.buildSlice t n (ps.map fun (i, x) => (i, a.eval x))).run P w = .ok v w') : (execOp a.eval o).run P w = .ok (.value v) w' := by simp [execOp, ho, hr, Result.andThen]
theorem x_len (x : Operand) (t e : TypeId) {A : Option Addr} {n c : Nat} (ho : o.op = .call { callee := .builtin .len, args := #[x], argTypes := #[t] }) (ht : P.underlying t = some (.slice e)) (hx : a.eval x = .slice A n c) : (execOp a.eval o).run P w = .ok (.value (.int .i64 (n : Int))) w := by
  simp [execOp, ho, resolve, invoke, builtin, hx, Builtin.len_, Result.andThen, run_underlying ht, goInt]
theorem x_append (x y : Operand) (t t2 : TypeId) {X Y v : Value} {w' : World} (ho : o.op = .call { callee := .builtin .append, args := #[x, y], argTypes := #[t, t2] }) (hx : a.eval x = X) (hy : a.eval y = Y) (hr : (Builtin.append_ #[t, t2] o.type #[X, Y]).run P w = .ok v w') : (execOp a.eval o).run P w = .ok (.value v) w' := by
  simp [execOp, ho, resolve, invoke, builtin, hx, hy, hr, Result.andThen]
theorem x_delete (x y : Operand) (t t2 : TypeId) {X Y : Value} {w' : World} (ho : o.op = .call { callee := .builtin .delete, args := #[x, y], argTypes := #[t, t2] }) (hx : a.eval x = X) (hy : a.eval y = Y) (hr : (Builtin.delete_ #[t, t2] o.type #[X, Y]).run P w = .ok (.tuple #[]) w') : (execOp a.eval o).run P w = .ok (.value (.tuple #[])) w' := by
  simp [execOp, ho, resolve, invoke, builtin, hx, hy, hr, Result.andThen]
theorem x_fcall (f : FuncId) (xs : List Operand) (tys : Array TypeId) (ho : o.op = .call { callee := .value (.func f), args := xs.toArray, argTypes := tys }) (hf : plainFn P f = true) : (execOp a.eval o).run P w = .ok (.enter f (xs.map a.eval).toArray) w := by
  unfold plainFn at hf
  split at hf
  · rename_i fn hfn
    simp only [Bool.and_eq_true, Bool.not_eq_true'] at hf
    have h1 : fn.name ≠ "runtime.NumGoroutine" := by simpa using hf.1
    have h2 : fn.body ≠ none := by intro e; rw [e] at hf; simp at hf
    simp [execOp, ho, resolve, invoke, Act.eval, Deferred.ofValue, callFunc, Result.andThen, hfn, h1, h2]
  · cases hf
end
section
variable {P : Program} {ops : Array Oper} {Φ : Nat → Value → World → Prop} {a0 : Act}
/-- An operation that ends in a world of the same stage. -/
theorem opS_run {ws : List Nat} {W : Nat → World → Prop} {i : Nat} {o : Oper} (hg : o.guard = none) (hi : ws.contains i = false)
    (h : ∀ (L : Nat → Bool) (a : Act) (w : World), Stg ws W L w → L i = false → Closed ops L → (∀ t, oldB ops t = true → a.tmps.getD t undef = a0.tmps.getD t undef) →
      (∀ (j : Nat) (oj : Oper) (d : Tmp), (o.after.toList.any fun e => e.on == j && Region.binds .any e) = true → ops[j]? = some oj → oj.dst = some d → Φ j (a.tmps.getD d undef) w) → ∃ v w', (execOp a.eval o).run P w = .ok (.value v) w' ∧ Φ i v w' ∧ (∀ k, W k w → W k w') ∧ ∀ j x, L j = true → Φ j x w → Φ j x w') : OpS P ops Φ (Stg ws W) a0 i o := by
  intro L a w hJ hl hc _ _ ho hd
  rw [if_pos (by simp [Region.wanted, hg])]
  obtain ⟨v, w', hr, hv, hw, hk⟩ := h L a w hJ hl hc ho hd
  unfold Oper.wp
  rw [hr]
  exact ⟨⟨v, rfl, hv⟩, hJ.same hi hw, hk⟩
/-- A call that leaves the world alone. -/
theorem opS_call {ws : List Nat} {W : Nat → World → Prop} {i : Nat} {o : Oper} (hg : o.guard = none) (hi : ws.contains i = false)
    (h : ∀ (L : Nat → Bool) (a : Act) (w : World), Stg ws W L w → L i = false → Closed ops L → (∀ t, oldB ops t = true → a.tmps.getD t undef = a0.tmps.getD t undef) →
      (∀ (j : Nat) (oj : Oper) (d : Tmp), (o.after.toList.any fun e => e.on == j && Region.binds .any e) = true → ops[j]? = some oj → oj.dst = some d → Φ j (a.tmps.getD d undef) w) → ∃ f args v, (execOp a.eval o).run P w = .ok (.enter f args) w ∧ Φ i v w ∧ Calls P f args w fun e w' => e = .returned v ∧ w' = w) : OpS P ops Φ (Stg ws W) a0 i o := by
  intro L a w hJ hl hc _ _ ho hd
  rw [if_pos (by simp [Region.wanted, hg])]
  obtain ⟨f, args, v, hr, hv, hcall⟩ := h L a w hJ hl hc ho hd
  unfold Oper.wp
  rw [hr]
  refine Calls.mono hcall fun e w' ⟨he, hw⟩ => ?_
  subst he
  subst hw
  exact ⟨⟨v, rfl, hv⟩, hJ.same hi (fun _ h => h), fun _ _ _ h => h⟩
/-- A call that makes memory. -/
theorem opS_callUp {ws : List Nat} {W : Nat → World → Prop} {i : Nat} {o : Oper} (hg : o.guard = none) (hi : ws.contains i = false) (hW : ∀ k w w', W k w → Up w w' → W k w') (hF : ∀ j x w w', Φ j x w → Up w w' → Φ j x w')
    (h : ∀ (L : Nat → Bool) (a : Act) (w : World), Stg ws W L w → L i = false → Closed ops L → (∀ t, oldB ops t = true → a.tmps.getD t undef = a0.tmps.getD t undef) →
      (∀ (j : Nat) (oj : Oper) (d : Tmp), (o.after.toList.any fun e => e.on == j && Region.binds .any e) = true → ops[j]? = some oj → oj.dst = some d → Φ j (a.tmps.getD d undef) w) → ∃ f args, (execOp a.eval o).run P w = .ok (.enter f args) w ∧ Calls P f args w fun e w' => ∃ v, e = .returned v ∧ Up w w' ∧ Φ i v w') : OpS P ops Φ (Stg ws W) a0 i o := by
  intro L a w hJ hl hc _ _ ho hd
  rw [if_pos (by simp [Region.wanted, hg])]
  obtain ⟨f, args, hr, hcall⟩ := h L a w hJ hl hc ho hd
  unfold Oper.wp
  rw [hr]
  refine Calls.mono hcall fun e w' ⟨v, he, hu, hv⟩ => ?_
  subst he
  exact ⟨⟨v, rfl, hv⟩, hJ.same hi (fun k hk => hW k w w' hk hu), fun j x _ hj => hF j x w w' hj hu⟩
/-- The j-th that turns the world, where it is a call of the language. -/
theorem opS_writeV {ws : List Nat} {W : Nat → World → Prop} {i j : Nat} {o : Oper} (hg : o.guard = none) (hn : ws.Nodup) (hx : ws[j]? = some i) (hp : ∀ y, ws[j - 1]? = some y → 0 < j → (o.after.toList.any fun e => e.on == y && Region.binds .any e) = true)
    (h : ∀ (a : Act) (w : World), W j w → (∀ t, oldB ops t = true → a.tmps.getD t undef = a0.tmps.getD t undef) →
      (∀ (j : Nat) (oj : Oper) (d : Tmp), (o.after.toList.any fun e => e.on == j && Region.binds .any e) = true → ops[j]? = some oj → oj.dst = some d → Φ j (a.tmps.getD d undef) w) → ∃ v w', (execOp a.eval o).run P w = .ok (.value v) w' ∧ W (j + 1) w' ∧ Φ i v w' ∧ ∀ j x, j ≠ i → Φ j x w → Φ j x w') : OpS P ops Φ (Stg ws W) a0 i o := by
  intro L a w hJ hl hc hall _ ho hd
  rw [if_pos (by simp [Region.wanted, hg])]
  have hprev : ∀ y, ws[j - 1]? = some y → 0 < j → L y = true := fun y hy h0 => by
    have := hp y hy h0
    rw [List.any_eq_true] at this
    obtain ⟨e, he, h2⟩ := this
    simp only [Bool.and_eq_true, beq_iff_eq] at h2
    have := hall e (by simpa using he) h2.2
    rwa [h2.1] at this
  obtain ⟨hWj, hnext⟩ := hJ.write hn hx hl hprev
  obtain ⟨v, w', hr, hw', hv, hk⟩ := h a w hWj ho hd
  unfold Oper.wp
  rw [hr]
  exact ⟨⟨v, rfl, hv⟩, hnext w' hw', fun j x hlj => hk j x (fun e => by subst e; rw [hl] at hlj; cases hlj)⟩
theorem SInv.done {ws : List Nat} {W : Nat → World → Prop} {L : Nat → Bool} {a : Act} {w : World} (h : SInv ops Φ (Stg ws W) a0 L a w) (hall : ∀ i, i < ops.size → L i = true) (hin : ∀ x ∈ ws, x < ops.size) : ∃ k, ws.length ≤ k ∧ W k w := by
  obtain ⟨k, h1, h2⟩ := h.world
  refine ⟨k, ?_, h2⟩
  rcases Nat.eq_zero_or_pos ws.length with h0 | h0
  · omega
  · have hlt : ws.length - 1 < ws.length := by omega
    have := (h1 (ws.length - 1) ws[ws.length - 1] (by simp [hlt])).1 (hall _ (hin _ (List.getElem_mem hlt)))
    omega
theorem SInv.get {J : (Nat → Bool) → World → Prop} {L : Nat → Bool} {a : Act} {w : World} (h : SInv ops Φ J a0 L a w) (hall : ∀ i, i < ops.size → L i = true) {i : Nat} {oi : Oper} {d : Tmp} (hi : ops[i]? = some oi) (hd : oi.dst = some d) : Φ i (a.tmps.getD d undef) w :=
  h.facts i oi d hi (hall i (Array.getElem?_eq_some_iff.1 hi).1) hd
end
/-! Blocks and draws behind a world. -/
def Grown (w w' : World) : Prop := Up w w' ∧ w.drawn ≤ w'.drawn
theorem Grown.refl (w : World) : Grown w w := ⟨Up.refl w, Nat.le_refl _⟩
theorem Grown.trans {a b c : World} (h : Grown a b) (k : Grown b c) : Grown a c := ⟨h.1.trans k.1, Nat.le_trans h.2 k.2⟩
theorem Grown.alloc (w : World) (o : Obj) : Grown w (w.alloc o) := ⟨(Below.refl _ _).alloc (Nat.le_refl _) o, Nat.le_refl _⟩
theorem Grown.drew (w : World) : Grown w w.drew := ⟨Up.drew w, Nat.le_succ _⟩
end Go.Proofs.Ytfbjhialjepodaa
