import Derived.Test.YtgikgcepeniekaaCkS
namespace Go.Proofs.Ytgikgcepeniekaa
open Go Go.RowKit
set_option linter.unusedVariables false
set_option linter.unusedSimpArgs false
/-! A row of one's own that grows by an element, in a region that draws its order. -/
/-- A row of one's own, from block B0 on, out of X. -/
structure Row (B0 : Nat) (X : Nat → Prop) (E : TypeId) (s : Nat) (w : World) (A : Option Addr) (n c : Nat) (row : List Value) : Prop where
  own : w.ownsRow 0 E s (.slice A n c) n row
  blk : ∀ k, blk? A = some k → B0 ≤ k ∧ ¬ X k
section
variable {B0 B : Nat} {X T : Nat → Prop} {E : TypeId} {s n c : Nat} {w w' : World} {A : Option Addr} {row : List Value}
theorem Row.out (h : Row B0 X E s w A n c row) (ho : Out T w w') (ht : ∀ k, blk? A = some k → ¬ T k) : Row B0 X E s w' A n c row := ⟨ho.own h.own (fun g hg => ht g (by rwa [ownBlock_slice] at hg)), h.blk⟩
theorem Row.outX (h : Row B0 X E s w A n c row) (ho : Out T w w') (ht : ∀ k, T k → X k) : Row B0 X E s w' A n c row := h.out ho fun k hk e => (h.blk k hk).2 (ht k e)
theorem Row.up (h : Row B0 X E s w A n c row) (hu : Up w w') : Row B0 X E s w' A n c row := h.out (hu.out No) (fun _ _ h => h)
theorem Row.lt (h : Row B0 X E s w A n c row) {k : Nat} (hk : blk? A = some k) : k < w.heap.size := (row_lt h.own hk).2
theorem row_nil (B0 : Nat) (X : Nat → Prop) (E : TypeId) (s : Nat) (w : World) : Row B0 X E s w none 0 0 [] := ⟨World.ownsRow_nil _ _ _ _, fun k hk => by cases hk⟩
/-- One element, as a slice of its own, from block B on. -/
def PhS (B : Nat) (E : TypeId) (cs : List Value) (v : Value) (w : World) : Prop := ∃ g, v = .slice (some ⟨g, 0, none⟩) 1 1 ∧ B ≤ g ∧ w.heap[g]? = some (.cells cs.toArray E (0, 0))
/-- The row as it is then. -/
def PhR (B0 : Nat) (X : Nat → Prop) (E : TypeId) (s n : Nat) (row : List Value) (v : Value) (w : World) : Prop := ∃ A c, v = .slice A n c ∧ Row B0 X E s w A n c row
/-- Kept by what turns T alone. -/
def KpT (T : Nat → Prop) (φ : Value → World → Prop) : Prop := ∀ v w w', φ v w → Out T w w' → φ v w'
theorem KpT.keeps {φ : Value → World → Prop} (h : KpT T φ) : Keeps φ := fun v w w' hf hu => h v w w' hf (hu.out _)
theorem kpT_is (T : Nat → Prop) (x : Value) : KpT T (Is x) := fun _ _ _ h _ => h
theorem kpT_tru (T : Nat → Prop) : KpT T Tru := fun _ _ _ h _ => h
theorem kpT_PhS {cs : List Value} (ht : ∀ k, T k → k < B) : KpT T (PhS B E cs) := fun v w w' ⟨g, e, hb, hg⟩ ho => ⟨g, e, hb, ho.blk hg (fun h => by have := ht g h; omega)⟩
theorem kpT_PhR {row : List Value} (ht : ∀ k, T k → X k) : KpT T (PhR B0 X E s n row) := fun v w w' ⟨A, c, e, h⟩ ho => ⟨A, c, e, h.outX ho ht⟩
theorem keeps_PhS {cs : List Value} : Keeps (PhS B E cs) := fun v w w' hf hu => (kpT_PhS (T := No) (fun _ h => h.elim)) v w w' hf (hu.out No)
theorem keeps_PhR {row : List Value} : Keeps (PhR B0 X E s n row) := fun v w w' hf hu => (kpT_PhR (T := No) (fun _ h => h.elim)) v w w' hf (hu.out No)
theorem facts_kp {l : List (Value → World → Prop)} (h : ∀ φ ∈ l, KpT T φ) : ∀ j v w w', facts l j v w → Out T w w' → facts l j v w' := by
  intro j v w w' hf hu
  unfold facts at *
  rw [List.getD] at *
  cases hx : l[j]? with
  | none => simp
  | some φ =>
    rw [hx] at hf
    exact h φ (List.mem_of_getElem? hx) v w w' hf hu
theorem facts_ne {l : List (Value → World → Prop)} {i : Nat} (h : ∀ j φ, l[j]? = some φ → j ≠ i → KpT T φ) : ∀ j v w w', j ≠ i → facts l j v w → Out T w w' → facts l j v w' := by
  intro j v w w' hj hf hu
  unfold facts at *
  rw [List.getD] at *
  cases hx : l[j]? with
  | none => simp
  | some φ =>
    rw [hx] at hf
    exact h j φ hx hj v w w' hf hu
/-- The append itself. -/
theorem app_step {P : Program} {t ty : TypeId} {z : Value} {bytes : Nat} {cs : List Value} {v : Value} (ht : P.underlying t = some (.slice E)) (hinfo : (P.info? E).map (fun i => (i.zero, i.size, i.bytes)) = some (some z, s, bytes)) (hz : z.cells.size = s) (hs : 0 < s)
    (h : Row B0 X E s w A n c row) (hv : PhS B E cs v w) (hcs : cs.length = s) (h1 : ∀ u ∈ cs, u.oneCell' = true) (hX : ∀ k, X k → k < w.heap.size) (hB : B0 ≤ w.heap.size) (hn : n + 1 ≤ 100000) (hby : bytes ≤ 1000) :
    ∃ u w', (Builtin.append_ #[t, t] ty #[.slice A n c, v]).run P w = .ok u w' ∧ Out (fun k => blk? A = some k) w w' ∧ PhR B0 X E s (n + 1) (row ++ cs) u w' := by
  obtain ⟨g, rfl, hb, hg⟩ := hv
  have hm : (n + 1) * bytes ≤ 100000 * 1000 := Nat.mul_le_mul hn hby
  obtain ⟨A', c', w', hr, ho, hrow, hbl⟩ := append_G (P := P) (ty := ty) ht hinfo hz hs h.own (some ⟨g, 0, none⟩) 1 1 cs (by rw [hcs]; omega) (fun hne => ⟨g, 0, rfl, lt_of_blk hg, fun j u hu => cell_of hg (by rw [Nat.zero_add]; simpa using hu)⟩) h1 (by omega) (by omega) (Nat.zero_le _)
  refine ⟨_, w', hr, ho, A', c', rfl, hrow, fun k hk => ?_⟩
  rcases hbl with hbl | hbl
  · exact h.blk k (by rw [← hbl]; exact hk)
  · rw [hbl] at hk; injection hk with hk
    exact ⟨by omega, fun hx => by have := hX k hx; omega⟩
end
section
variable {P : Program} {ops : Array Oper} {Φ : Nat → Value → World → Prop} {a0 : Act}
theorem opS_writeCall {ws : List Nat} {W : Nat → World → Prop} {i j : Nat} {o : Oper} (hg : o.guard = none) (hn : ws.Nodup) (hx : ws[j]? = some i) (hp : ∀ y, ws[j - 1]? = some y → 0 < j → (o.after.toList.any fun e => e.on == y && Region.binds .any e) = true)
    (h : ∀ (a : Act) (w : World), W j w → (∀ t, oldB ops t = true → a.tmps.getD t undef = a0.tmps.getD t undef) →
      (∀ (j : Nat) (oj : Oper) (d : Tmp), (o.after.toList.any fun e => e.on == j && Region.binds .any e) = true → ops[j]? = some oj → oj.dst = some d → Φ j (a.tmps.getD d undef) w) → ∃ f args, (execOp a.eval o).run P w = .ok (.enter f args) w ∧ Calls P f args w fun e w' => ∃ v, e = .returned v ∧ W (j + 1) w' ∧ Φ i v w' ∧ ∀ j x, j ≠ i → Φ j x w → Φ j x w') : OpS P ops Φ (Stg ws W) a0 i o := by
  intro L a w hJ hl hc hall _ ho hd
  rw [if_pos (by simp [Region.wanted, hg])]
  have hprev : ∀ y, ws[j - 1]? = some y → 0 < j → L y = true := fun y hy h0 => by
    have := hp y hy h0
    rw [List.any_eq_true] at this
    obtain ⟨e, he, h2⟩ := this
    simp only [Bool.and_eq_true, beq_iff_eq] at h2
    have := hall e (by simpa using he) h2.2
    rwa [h2.1] at this
  obtain ⟨hWj, hnext⟩ := hJ.write hn hx hl hprev
  obtain ⟨f, args, hr, hcall⟩ := h a w hWj ho hd
  unfold Oper.wp
  rw [hr]
  refine Calls.mono hcall fun e w' ⟨v, he, hw', hv, hk⟩ => ?_
  subst he
  exact ⟨⟨v, rfl, hv⟩, hnext w' hw', fun j x hlj => hk j x (fun e => by subst e; rw [hl] at hlj; cases hlj)⟩
end
theorem agg56 (w : World) : (isAgg 56).run Try.prog w = .ok false w := by kernel_rfl
theorem agg57 (w : World) : (isAgg 57).run Try.prog w = .ok false w := by kernel_rfl
theorem agg36 (w : World) : (isAgg 36).run Try.prog w = .ok false w := by kernel_rfl
theorem sz56 (w : World) : (Go.sizeOf 56).run Try.prog w = .ok 1 w := by kernel_rfl
theorem sz57 (w : World) : (Go.sizeOf 57).run Try.prog w = .ok 1 w := by kernel_rfl
theorem fld592 (b o : Nat) (w : World) : (Instr.fieldAt 59 (.pointer (some ⟨b, o, none⟩)) 2).run Try.prog w = .ok (.pointer (some ⟨b, o + 2, none⟩)) w := by kernel_rfl
theorem fld593 (b o : Nat) (w : World) : (Instr.fieldAt 59 (.pointer (some ⟨b, o, none⟩)) 3).run Try.prog w = .ok (.pointer (some ⟨b, o + 3, none⟩)) w := by kernel_rfl
theorem info93 : (Try.prog.info? 93).map (fun i => (i.zero, i.size, i.bytes)) = some (some (.agg #[.int .u16 0, .int .u16 0]), 2, 4) := by kernel_rfl
theorem info36 : (Try.prog.info? 36).map (fun i => (i.zero, i.size, i.bytes)) = some (some (.int .u32 0), 1, 4) := by kernel_rfl
theorem build_gap (x y : Int) (w : World) : (Instr.build 93 #[(0, .int .u16 x), (1, .int .u16 y)]).run Try.prog w = .ok (.agg #[.int .u16 x, .int .u16 y]) w := by kernel_rfl
theorem bs_gap (x y : Int) (w : World) : (Instr.buildSlice 56 1 #[(0, .agg #[.int .u16 x, .int .u16 y])]).run Try.prog w = .ok (.slice (some ⟨w.heap.size, 0, none⟩) 1 1) (w.alloc (.cells #[.int .u16 x, .int .u16 y] 93)) := by kernel_rfl
theorem bs_dup (x : Int) (w : World) : (Instr.buildSlice 57 1 #[(0, .int .u32 x)]).run Try.prog w = .ok (.slice (some ⟨w.heap.size, 0, none⟩) 1 1) (w.alloc (.cells #[.int .u32 x] 36)) := by kernel_rfl
end Go.Proofs.Ytgikgcepeniekaa
