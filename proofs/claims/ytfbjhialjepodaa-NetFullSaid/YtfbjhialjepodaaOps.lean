import Derived.Test.YtfbjhialjepodaaSteady
import Derived.Test.YtfbjhialjepodaaBase
namespace Go.Proofs.Ytfbjhialjepodaa
open Go Go.RowKit

section
variable {P : Program} {o : Oper} {a : Act} {w : World} {φ : Value → World → Prop}
/-- The operation ends, makes new memory alone, and what it yields is good. -/
def Fine (P : Program) (o : Oper) (a : Act) (w : World) (φ : Value → World → Prop) : Prop := o.wp P a w (fun a' w' => Up w w' ∧ ∃ v, a' = a.put o.dst v ∧ φ v w') NoExit
theorem fine_run (v : Value) (w' : World) (h : (execOp a.eval o).run P w = .ok (.value v) w') (hu : Up w w') (hv : φ v w') : Fine P o a w φ := by
  unfold Fine Oper.wp
  rw [h]
  exact ⟨hu, v, rfl, hv⟩
theorem fine_quiet (v : Value) (h : (execOp a.eval o).run P w = .ok (.value v) w) (hv : φ v w) : Fine P o a w φ := fine_run v w h (Up.refl w) hv
/-- What is asked of a call. -/
def Gives (P : Program) (f : FuncId) (args : Array Value) (w : World) (φ : Value → World → Prop) : Prop :=
  Calls P f args w fun e w' => Up w w' ∧ ∃ v, e = .returned v ∧ φ v w'
theorem fine_call (f : FuncId) (args : Array Value) (h : (execOp a.eval o).run P w = .ok (.enter f args) w) (hc : Gives P f args w φ) : Fine P o a w φ := by
  unfold Fine Oper.wp
  rw [h]
  refine Calls.mono hc fun e w' ⟨hu, v, he, hv⟩ => ?_
  subst he
  exact ⟨hu, v, rfl, hv⟩

theorem fine_move (x : Operand) (ho : o.op = .move x) (h : φ (a.eval x) w) : Fine P o a w φ := fine_quiet _ (by simp [execOp, ho]) h
theorem fine_assign (x : Operand) (ho : o.op = .assign x) (h : φ (a.eval x) w) : Fine P o a w φ := fine_quiet _ (by simp [execOp, ho]) h
/-- Function f has a body of its own. -/
def plainFn (P : Program) (f : FuncId) : Bool := match P.funcs[f]? with | some fn => !(fn.name == "runtime.NumGoroutine") && !fn.body.isNone | none => false
theorem fine_fcall (f : FuncId) (xs : List Operand) (tys : Array TypeId) (ho : o.op = .call { callee := .value (.func f), args := xs.toArray, argTypes := tys }) (hf : plainFn P f = true) (h : Gives P f (xs.map a.eval).toArray w φ) : Fine P o a w φ :=
  fine_call f _ (by
    unfold plainFn at hf
    split at hf
    · rename_i fn hfn
      simp only [Bool.and_eq_true, Bool.not_eq_true'] at hf
      have h1 : fn.name ≠ "runtime.NumGoroutine" := by simpa using hf.1
      have h2 : fn.body ≠ none := by intro e; rw [e] at hf; simp at hf
      simp [execOp, ho, resolve, invoke, Act.eval, Deferred.ofValue, callFunc, Result.andThen, hfn, h1, h2]
    · cases hf) h
theorem fine_convert (src dst : TypeId) (x : Operand) (v : Value) (ho : o.op = .convert src dst x) (hr : (convert src dst (a.eval x)).run P w = .ok v w) (h : φ v w) : Fine P o a w φ :=
  fine_quiet v (by simp [execOp, ho, hr, Result.andThen]) h
theorem fine_pick (c x y : Operand) (b : Bool) (ho : o.op = .pick c x y) (hc : a.eval c = .bool b) (h : φ (if b then a.eval x else a.eval y) w) : Fine P o a w φ :=
  fine_quiet _ (by simp [execOp, ho, hc, asBool]) h
theorem fine_bin (op : BinOp) (tx ty : TypeId) (x y : Operand) (v : Value) (ho : o.op = .binOp op tx x y ty) (hg : (eqGuard op tx x y (a.eval x) (a.eval y)).run P w = .ok () w) (hr : (binOp op tx (a.eval x) (a.eval y)).run P w = .ok v w) (h : φ v w) : Fine P o a w φ :=
  fine_quiet v (by simp [execOp, ho, hg, hr, Result.andThen]) h

theorem fine_eqs (tx ty : TypeId) (x y : Operand) (s t : ByteArray) (b : Bool) (ho : o.op = .binOp .eql tx x y ty) (hx : a.eval x = .string s) (hy : a.eval y = .string t) (hb : (s.toList == t.toList) = b) (h : φ (.bool b) w) : Fine P o a w φ := by
  refine fine_bin .eql tx ty x y _ ho ?_ ?_ h
  · rw [hx, hy]; simp [go_sem]
  · rw [hx, hy, ← hb]; simp [go_sem]
theorem fine_eqi (tx ty : TypeId) (x y : Operand) (k : IntKind) (n m : Int) (b : Bool) (ho : o.op = .binOp .eql tx x y ty) (hx : a.eval x = .int k n) (hy : a.eval y = .int k m) (hb : (n == m) = b) (h : φ (.bool b) w) : Fine P o a w φ := by
  refine fine_bin .eql tx ty x y _ ho ?_ ?_ h
  · rw [hx, hy]; simp [go_sem]
  · rw [hx, hy, ← hb]; simp [go_sem]
theorem fine_len (x : Operand) (t e : TypeId) (A : Option Addr) (n c : Nat) (ho : o.op = .call { callee := .builtin .len, args := #[x], argTypes := #[t] }) (ht : P.underlying t = some (.slice e)) (hx : a.eval x = .slice A n c) (h : φ (.int .i64 n) w) : Fine P o a w φ := by
  refine fine_quiet (.int .i64 n) ?_ h
  simp [execOp, ho, resolve, invoke, builtin, hx, Builtin.len_, Result.andThen, run_underlying ht, goInt]

variable {ops : Array Oper} {Φ : Nat → Value → World → Prop} {a0 : Act} {w0 : World} {i : Nat}
theorem opOk_plain (hg : o.guard = none)
    (h : ∀ (a : Act) (w : World), Up w0 w → (∀ t, oldB ops t = true → a.tmps.getD t undef = a0.tmps.getD t undef) →
      (∀ (j : Nat) (oj : Oper) (d : Tmp), (o.after.toList.any fun e => e.on == j && Region.binds .any e) = true → ops[j]? = some oj → oj.dst = some d → Φ j (a.tmps.getD d undef) w) → Fine P o a w (Φ i)) : OpOk P ops Φ a0 w0 i o := by
  intro a w hu _ ho hd
  rw [if_pos (by simp [Region.wanted, hg])]
  exact h a w hu ho hd
theorem yielded_of {tmps : Array Value} {j : Nat} {oj : Oper} {d : Tmp} {b : Bool} (hj : ops[j]? = some oj) (hd : oj.dst = some d) (h : tmps.getD d undef = .bool b) : yielded ops tmps j = some b := by
  have hs : tmps[d]? = some (.bool b) := by
    rw [Array.getD_eq_getD_getElem?] at h
    cases hx : tmps[d]? with
    | none => rw [hx] at h; simp [undef] at h
    | some x => rw [hx] at h; simp at h; rw [h]
  simp [yielded, hj, hd, hs]
theorem opOk_guard (j : Nat) (b : Bool) (oj : Oper) (d : Tmp) (hg : o.guard = some (j, b)) (hin : (o.after.toList.any fun e => e.on == j && Region.binds .any e) = true) (hj : ops[j]? = some oj) (hdj : oj.dst = some d) (hv : ∀ v w, Φ j v w → v = .bool b)
    (h : ∀ (a : Act) (w : World), Up w0 w → (∀ t, oldB ops t = true → a.tmps.getD t undef = a0.tmps.getD t undef) →
      (∀ (j : Nat) (oj : Oper) (d : Tmp), (o.after.toList.any fun e => e.on == j && Region.binds .any e) = true → ops[j]? = some oj → oj.dst = some d → Φ j (a.tmps.getD d undef) w) → Fine P o a w (Φ i)) : OpOk P ops Φ a0 w0 i o := by
  intro a w hu _ ho hd
  have hy := yielded_of (tmps := a.tmps) hj hdj (hv _ w (hd j oj d hin hj hdj))
  rw [if_pos (by simp [Region.wanted, hg, hy])]
  exact h a w hu ho hd

/-- The list of obligations. -/
def AllOk (P : Program) (ops : Array Oper) (Φ : Nat → Value → World → Prop) (a0 : Act) (w0 : World) : Nat → List Oper → Prop
  | _, [] => True
  | k, o :: l => OpOk P ops Φ a0 w0 k o ∧ AllOk P ops Φ a0 w0 (k + 1) l
theorem allOk_spec : ∀ (l : List Oper) (k : Nat), AllOk P ops Φ a0 w0 k l → ∀ i o, l[i]? = some o → OpOk P ops Φ a0 w0 (k + i) o := by
  intro l
  induction l with
  | nil => intro k _ i o h; simp at h
  | cons x l ih =>
    intro k h i o hi
    cases i with
    | zero => simp at hi; subst hi; exact h.1
    | succ i =>
      simp at hi
      have := ih (k + 1) h.2 i o hi
      rwa [show k + 1 + i = k + (i + 1) by omega] at this

/-- 'steady' at a region that is written out. -/
theorem steady_lit {l : List Oper} {id : Nat} (hm : P.follows .mixedOrders = true) (Φ : Nat → Value → World → Prop) (hst : ∀ i v w w', Φ i v w → Up w w' → Φ i v w') (n : Nat) (hn : a0.tmps.size = n) (hd : dstB l.toArray n = true) (hac : acyclicB l.toArray = true)
    {Q : Exit → Act → World → Prop} (hok : AllOk P l.toArray Φ a0 w0 0 l)
    (hQ : ∀ a w, RInv l.toArray Φ a0 w0 (Array.replicate l.toArray.size true) a w → Q .normal a w) : (Code.region id l.toArray true).wp P Q a0 w0 :=
  steady hm Φ hst n hn hd hac (fun i o hi => by
    have := allOk_spec l 0 hok i o (by simpa using hi)
    rwa [Nat.zero_add] at this) hQ
theorem RInv.get {i : Nat} {oi : Oper} {d : Tmp} (h : RInv ops Φ a0 w0 (Array.replicate ops.size true) a w) (hi : ops[i]? = some oi) (hd : oi.dst = some d) : Φ i (a.tmps.getD d undef) w :=
  h.facts i oi d hi (by
    have := (Array.getElem?_eq_some_iff.1 hi).1
    simp [Array.getD_eq_getD_getElem?, this]) hd

/-- The facts of a region as a list. -/
def facts (l : List (Value → World → Prop)) (i : Nat) : Value → World → Prop := l.getD i fun _ _ => True
/-- Kept whatever is made. -/
def Keeps (φ : Value → World → Prop) : Prop := ∀ v w w', φ v w → Up w w' → φ v w'
theorem facts_keep {l : List (Value → World → Prop)} (h : ∀ φ ∈ l, Keeps φ) : ∀ i v w w', facts l i v w → Up w w' → facts l i v w' := by
  intro i v w w' hf hu
  unfold facts at *
  rw [List.getD] at *
  cases hx : l[i]? with
  | none => simp
  | some φ =>
    rw [hx] at hf
    exact h φ (List.mem_of_getElem? hx) v w w' hf hu
/-- It is this very value. -/
def Is (x : Value) : Value → World → Prop := fun v _ => v = x
theorem keeps_is (x : Value) : Keeps (Is x) := fun _ _ _ h _ => h
end
end Go.Proofs.Ytfbjhialjepodaa
