import Derived.Test.YtjdcglioppbfhaaCk2
import Derived.Test.YtjdcglioppbfhaaCkS
import Derived.Test.YtjdcglioppbfhaaStaged
import Derived.BigQuiet
namespace Go.Proofs.Ytjdcglioppbfhaa
open Go Go.RowKit
set_option linter.unusedVariables false
set_option linter.unusedSimpArgs false
/-! What came: its values, and the program's checkHeard. -/
namespace Ck
end Ck
/-- The cells of Gaps. -/
def gpc (g : Int × Int) : List Value := [.int .u16 g.1, .int .u16 g.2]
def gapc (l : List (Int × Int)) : List Value := l.flatMap gpc
def GapOk (l : List (Int × Int)) : Prop := ∀ g ∈ l, (0 ≤ g.1 ∧ g.1 < 65536) ∧ 0 ≤ g.2 ∧ g.2 < 65536
def DupOk (l : List Int) : Prop := ∀ d ∈ l, 0 ≤ d ∧ d < 4294967296
/-- A slice of Gaps. -/
structure InG (w : World) (A : Option Addr) (n cap : Nat) (l : List (Int × Int)) : Prop where
  cells : Cells w A (gapc l)
  ok : GapOk l
  cap : n ≤ cap
  len : l.length = n
theorem InG.up {w w' : World} {A : Option Addr} {n cap : Nat} {l : List (Int × Int)} (h : InG w A n cap l) (hu : Up w w') : InG w' A n cap l := ⟨h.cells.up hu, h.ok, h.cap, h.len⟩
/-- A slice of Dups. -/
structure InD (w : World) (A : Option Addr) (n cap : Nat) (l : List Int) : Prop where
  cells : Cells w A (ints .u32 l)
  ok : DupOk l
  cap : n ≤ cap
  len : l.length = n
theorem InD.up {w w' : World} {A : Option Addr} {n cap : Nat} {l : List Int} (h : InD w A n cap l) (hu : Up w w') : InD w' A n cap l := ⟨h.cells.up hu, h.ok, h.cap, h.len⟩
end Go.Proofs.Ytjdcglioppbfhaa
namespace Go.Proofs.Ytjdcglioppbfhaa
open Go Go.RowKit
set_option linter.unusedVariables false
set_option linter.unusedSimpArgs false
theorem FH.next {b q g : Nat} {T : TypeId} {cs : Array Value} {w0 w w' : World} {xs : List Int} (h : FH b q g T cs w0 xs w) (hu : Up w w') : FH b q g T cs w0 xs w' := by
  obtain ⟨S, h1, h2, h3, h4, h5, h6⟩ := h
  exact ⟨S, h1.up hu, (hu.block _ (lt_of_blk h2)).trans h2, (hu.block _ (lt_of_blk h3)).trans h3, h4, h5, h6.trans hu⟩
theorem FH.upw {b q g : Nat} {T : TypeId} {cs : Array Value} {w0 w : World} {xs : List Int} (h : FH b q g T cs w0 xs w) : Up w0 w := h.choose_spec.2.2.2.2.2
/-- A writer, next to blocks that stay. -/
def WH (g : Nat) (L : List (Nat × Obj)) (w0 : World) (xs : List Int) (w : World) : Prop := ∃ S, IsW S w g xs ∧ (∀ p ∈ L, w.heap[p.1]? = some p.2 ∧ ¬ S p.1) ∧ (∀ k, S k → w0.heap.size ≤ k) ∧ Up w0 w
section
variable {g : Nat} {L : List (Nat × Obj)} {w0 w w' : World} {xs : List Int}
theorem WH.step (h : WH g L w0 xs w) {f : FuncId} {args : Array Value} {ys : List Int} (hc : ∀ S, IsW S w g xs → (∀ k, S k → w0.heap.size ≤ k) → Calls Try.prog f args w (WPost S g ys w)) : Calls Try.prog f args w fun e w' => e = .returned (.tuple #[]) ∧ Hid (WH g L w0 ys w') := by
  obtain ⟨S, h1, h2, h5, h6⟩ := h
  refine (hc S h1 h5).mono fun e w' ⟨he, S', k1, k2, k3⟩ => ⟨he, Lib.hid ⟨S', k1, fun p hp => ⟨k3.blk (h2 p hp).1 (h2 p hp).2, fun hs => ?_⟩, fun k hk => ?_, Below.out h6 k3 h5 h6.size⟩⟩
  · rcases k2 _ hs with h | h
    · exact (h2 p hp).2 h
    · have := lt_of_blk (h2 p hp).1; omega
  · rcases k2 _ hk with h | h
    · exact h5 k h
    · have := h6.size; omega
theorem WH.one {n : Int} (h : WH g L w0 xs w) (h0 : 0 ≤ n) (h1 : n < 256) (hk : xs.length ≤ 900000) : Calls Try.prog 41 #[.pointer (some ⟨g, 0, none⟩), .int .u8 n] w fun e w' => e = .returned (.tuple #[]) ∧ Hid (WH g L w0 (xs ++ be n 1) w') :=
  h.step fun S hS _ => wone n w hS h0 h1 hk
theorem WH.padded {A : Option Addr} {m c : Nat} {ys : List Int} (h : WH g L w0 xs w) (hy : InB w0 A m c ys) (hm : m ≤ 50000) (hk : xs.length ≤ 800000) : Calls Try.prog 42 #[.pointer (some ⟨g, 0, none⟩), .slice A m c] w fun e w' => e = .returned (.tuple #[]) ∧ Hid (WH g L w0 (xs ++ be (4 + (m : Int)) 2 ++ padL ys) w') := by
  have hu : Up w0 w := h.choose_spec.2.2.2
  exact h.step fun S hS hB => wpadded A m c ys w hS (hy.up hu) (fun hne k hk hs => by have := hB k hs; have := hy.lt hne hk; omega) hm hk
theorem WH.upw (h : WH g L w0 xs w) : Up w0 w := h.choose_spec.2.2.2
theorem WH.kept (h : WH g L w0 xs w) : ∀ p ∈ L, w.heap[p.1]? = some p.2 := fun p hp => (h.choose_spec.2.1 p hp).1
theorem WH.tail {p : Nat × Obj} (h : WH g (p :: L) w0 xs w) : WH g L w0 xs w := by
  obtain ⟨S, h1, h2, h5, h6⟩ := h
  exact ⟨S, h1, fun q hq => h2 q (List.mem_cons_of_mem _ hq), h5, h6⟩
theorem WH.add (h : WH g L w0 xs w) (hS : ∀ S, IsW S w g xs → True) (o : Obj) (hb : ∃ S, (IsW S w g xs ∧ (∀ p ∈ L, w.heap[p.1]? = some p.2 ∧ ¬ S p.1) ∧ (∀ k, S k → w0.heap.size ≤ k) ∧ Up w0 w) ∧ ∀ k, S k → k < w.heap.size) : WH g ((w.heap.size, o) :: L) w0 xs (w.alloc o) := by
  obtain ⟨S, ⟨h1, h2, h5, h6⟩, h7⟩ := hb
  have u := up_alloc w o
  refine ⟨S, h1.up u, fun p hp => ?_, h5, h6.trans u⟩
  rcases List.mem_cons.1 hp with rfl | hp
  · exact ⟨new_at _ _, fun hs => by have := h7 _ hs; simp only at this; omega⟩
  · exact ⟨(u.block _ (lt_of_blk (h2 p hp).1)).trans (h2 p hp).1, (h2 p hp).2⟩
end
/-- A writer's blocks alone. -/
theorem IsW.tight {S : Nat → Prop} {w : World} {g : Nat} {xs : List Int} (h : IsW S w g xs) : ∃ S', IsW S' w g xs ∧ (∀ k, S' k → S k) ∧ ∀ k, S' k → k < w.heap.size := by
  obtain ⟨A, N, c, h1, h2, h3, h4⟩ := h.ex
  refine ⟨fun k => k = g ∨ blk? A = some k, ⟨A, N, c, h1, h2, .inl rfl, fun k hk => ⟨.inr hk, (h4 k hk).2⟩⟩, fun k hk => ?_, fun k hk => ?_⟩
  · rcases hk with rfl | hk
    · exact h3
    · exact (h4 k hk).1
  · rcases hk with rfl | hk
    · exact lt_of_blk h1
    · exact (row_lt h2 hk).2
theorem WH.push {g : Nat} {L : List (Nat × Obj)} {w0 w : World} {xs : List Int} (h : WH g L w0 xs w) (o : Obj) : WH g ((w.heap.size, o) :: L) w0 xs (w.alloc o) := by
  refine h.add (fun _ _ => trivial) o ?_
  obtain ⟨S, h1, h2, h5, h6⟩ := h
  obtain ⟨S', k1, k2, k3⟩ := h1.tight
  exact ⟨S', ⟨k1, fun p hp => ⟨(h2 p hp).1, fun hs => (h2 p hp).2 (k2 _ hs)⟩, fun k hk => h5 k (k2 k hk), h6⟩, k3⟩
end Go.Proofs.Ytjdcglioppbfhaa
namespace Go.Proofs.Ytjdcglioppbfhaa
open Go Go.RowKit
set_option linter.unusedVariables false
set_option linter.unusedSimpArgs false
/-! A row of one's own that grows by an element, in a region that draws its order. -/
/-- A row of one's own, from block B0 on, out of X. -/
structure Row (B0 : Nat) (X : Nat → Prop) (E : TypeId) (s : Nat) (w : World) (A : Option Addr) (n c : Nat) (row : List Value) : Prop where
  own : w.ownsRow 0 E s (.slice A n c) n row
  blk : ∀ k, blk? A = some k → B0 ≤ k ∧ ¬ X k
section
variable {B0 B : Nat} {X T : Nat → Prop} {E : TypeId} {s n c : Nat} {w w' : World} {A : Option Addr} {row : List Value}
theorem Row.out (h : Row B0 X E s w A n c row) (ho : Out T w w') (ht : ∀ k, blk? A = some k → ¬ T k) : Row B0 X E s w' A n c row := ⟨ho.own h.own (fun g hg => ht g (by rwa [ownBlock_slice] at hg)), h.blk⟩
theorem Row.outX (h : Row B0 X E s w A n c row) (ho : Out T w w') (ht : ∀ k, T k → X k) : Row B0 X E s w' A n c row := h.out ho fun k hk e => (h.blk k hk).2 (ht k e)
theorem Row.up (h : Row B0 X E s w A n c row) (hu : Up w w') : Row B0 X E s w' A n c row := h.out (hu.out No) (fun _ _ h => h)
theorem Row.lt (h : Row B0 X E s w A n c row) {k : Nat} (hk : blk? A = some k) : k < w.heap.size := (row_lt h.own hk).2
theorem row_nil (B0 : Nat) (X : Nat → Prop) (E : TypeId) (s : Nat) (w : World) : Row B0 X E s w none 0 0 [] := ⟨World.ownsRow_nil _ _ _ _, fun k hk => by cases hk⟩
/-- Kept by what turns T alone. -/
def KpT (T : Nat → Prop) (φ : Value → World → Prop) : Prop := ∀ v w w', φ v w → Out T w w' → φ v w'
theorem KpT.keeps {φ : Value → World → Prop} (h : KpT T φ) : Keeps φ := fun v w w' hf hu => h v w w' hf (hu.out _)
theorem kpT_is (T : Nat → Prop) (x : Value) : KpT T (Is x) := fun _ _ _ h _ => h
theorem kpT_tru (T : Nat → Prop) : KpT T Tru := fun _ _ _ h _ => h
theorem facts_kp {l : List (Value → World → Prop)} (h : ∀ φ ∈ l, KpT T φ) : ∀ j v w w', facts l j v w → Out T w w' → facts l j v w' := by
  intro j v w w' hf hu
  unfold facts at *
  rw [List.getD] at *
  cases hx : l[j]? with
  | none => simp
  | some φ =>
    rw [hx] at hf
    exact h φ (List.mem_of_getElem? hx) v w w' hf hu
theorem facts_ne {l : List (Value → World → Prop)} {i : Nat} (h : ∀ j φ, l[j]? = some φ → j ≠ i → KpT T φ) : ∀ j v w w', j ≠ i → facts l j v w → Out T w w' → facts l j v w' := by
  intro j v w w' hj hf hu
  unfold facts at *
  rw [List.getD] at *
  cases hx : l[j]? with
  | none => simp
  | some φ =>
    rw [hx] at hf
    exact h j φ hx hj v w w' hf hu
end
section
variable {P : Program} {ops : Array Oper} {Φ : Nat → Value → World → Prop} {a0 : Act}
theorem opS_writeCall {ws : List Nat} {W : Nat → World → Prop} {i j : Nat} {o : Oper} (hg : o.guard = none) (hn : ws.Nodup) (hx : ws[j]? = some i) (hp : ∀ y, ws[j - 1]? = some y → 0 < j → (o.after.toList.any fun e => e.on == y && Region.binds .any e) = true)
    (h : ∀ (a : Act) (w : World), W j w → (∀ t, oldB ops t = true → a.tmps.getD t undef = a0.tmps.getD t undef) →
      (∀ (j : Nat) (oj : Oper) (d : Tmp), (o.after.toList.any fun e => e.on == j && Region.binds .any e) = true → ops[j]? = some oj → oj.dst = some d → Φ j (a.tmps.getD d undef) w) → ∃ f args, (execOp a.eval o).run P w = .ok (.enter f args) w ∧ Calls P f args w fun e w' => ∃ v, e = .returned v ∧ W (j + 1) w' ∧ Φ i v w' ∧ ∀ j x, j ≠ i → Φ j x w → Φ j x w') : OpS P ops Φ (Stg ws W) a0 i o := by
  intro L a w hJ hl hc hall _ ho hd
  rw [if_pos (by simp [Region.wanted, hg])]
  have hprev : ∀ y, ws[j - 1]? = some y → 0 < j → L y = true := fun y hy h0 => by
    have := hp y hy h0
    rw [List.any_eq_true] at this
    obtain ⟨e, he, h2⟩ := this
    simp only [Bool.and_eq_true, beq_iff_eq] at h2
    have := hall e (by simpa using he) h2.2
    rwa [h2.1] at this
  obtain ⟨hWj, hnext⟩ := hJ.write hn hx hl hprev
  obtain ⟨f, args, hr, hcall⟩ := h a w hWj ho hd
  unfold Oper.wp
  rw [hr]
  refine Calls.mono hcall fun e w' ⟨v, he, hw', hv, hk⟩ => ?_
  subst he
  exact ⟨⟨v, rfl, hv⟩, hnext w' hw', fun j x hlj => hk j x (fun e => by subst e; rw [hl] at hlj; cases hlj)⟩
end
end Go.Proofs.Ytjdcglioppbfhaa
namespace Go.Proofs.Ytjdcglioppbfhaa
open Go Go.RowKit
set_option linter.unusedVariables false
set_option linter.unusedSimpArgs false
section
variable {xs : List Int}
end
section
variable {xs : List Int} {t1 t2 : Int} {ng nd : Nat} {r1 r2 r3 r4 : R}
end
theorem set4 {w : World} {q : Nat} {cs : Array Value} {a b c d : Value} {T : TypeId} (h : w.heap[q]? = some (.cells cs T (0, 0))) (hs : cs.size = 4) :
    ((((w.setCell ⟨q, 0, none⟩ a).setCell ⟨q, 1, none⟩ b).setCell ⟨q, 2, none⟩ c).setCell ⟨q, 3, none⟩ d).heap[q]? = some (.cells #[a, b, c, d] T (0, 0)) ∧
    Out (fun k => k = q) w ((((w.setCell ⟨q, 0, none⟩ a).setCell ⟨q, 1, none⟩ b).setCell ⟨q, 2, none⟩ c).setCell ⟨q, 3, none⟩ d) := by
  refine ⟨?_, (((setCell_out _ _ _ _).trans (setCell_out _ _ _ _) (Sub.refl _ _)).trans (setCell_out _ _ _ _) (Sub.refl _ _)).trans (setCell_out _ _ _ _) (Sub.refl _ _)⟩
  rw [setCell_at _ (setCell_at _ (setCell_at _ (setCell_at _ h)))]
  obtain ⟨l⟩ := cs
  match l, hs with
  | [u, v, x, y], _ => rfl
end Go.Proofs.Ytjdcglioppbfhaa
namespace Go.Proofs.Ytjdcglioppbfhaa
open Go Go.RowKit
set_option linter.unusedVariables false
set_option linter.unusedSimpArgs false
theorem RH.sideT {g : Nat} {L : List (Nat × Obj)} {w0 w w' : World} {xs : List Int} {r : R} {T : Nat → Prop} (H : RH g L w0 xs r w) (ho : Out T w w') (hg : ∀ k, T k → g < k) (hL : ∀ p ∈ L, ¬ T p.1) : RH g L w0 xs r w' := by
  obtain ⟨A0, m0, c0, k1, k2, k3⟩ := H.isR.ex
  exact ⟨⟨⟨A0, m0, c0, ho.blk k1 (fun e => by have := hg _ e; omega), k2.outS' ho (fun hne k hk e => by have := k3 hne k hk; have := hg _ e; omega), k3⟩, H.isR.len, H.isR.at_⟩,
    fun p hp => ⟨ho.blk (H.kept p hp).1 (hL p hp), (H.kept p hp).2⟩, Below.out H.up ho (fun k hk => by have := H.g0; have := hg _ hk; omega) H.up.size, H.g0⟩
theorem row_cap {w : World} {A : Option Addr} {n c base : Nat} {e : TypeId} {s : Nat} {xs : List Value} (h : w.ownsRow base e s (.slice A n c) n xs) : n ≤ c := by
  rcases h.2 with ⟨h1, h2⟩ | ⟨g', cap, cur, hv, _, hh, h1, _⟩
  · omega
  · injection hv with _ _ hv
    omega
section
variable {nc : Nat} {C : R → World → Prop} {rs : Nat → R} {hb : Nat} {cf : Option Addr → Nat → Nat → Array Value} {B0 : Nat} {X : Nat → Prop} {E : TypeId} {s : Nat} {A : Option Addr} {n c : Nat} {row row' : List Value} {BB j : Nat} {w w' : World}
end
end Go.Proofs.Ytjdcglioppbfhaa
namespace Go.Proofs.Ytjdcglioppbfhaa
open Go Go.RowKit
set_option linter.unusedVariables false
set_option linter.unusedSimpArgs false
/-! Chunks: values, rows, and their bytes. -/
namespace Ck
structure Chk where
  ty : Int
  fl : Int
  bs : List Int
end Ck
/-- A chunk, and where its bytes lie. -/
structure ChB where
  ty : Int
  fl : Int
  A : Option Addr
  n : Nat
  c : Nat
  bs : List Int
def ChB.pure (x : ChB) : Ck.Chk := ⟨x.ty, x.fl, x.bs⟩
def chc (x : ChB) : List Value := [.int .u8 x.ty, .int .u8 x.fl, .slice x.A x.n x.c]
def rowc (l : List ChB) : List Value := l.flatMap chc
theorem rowc_length (l : List ChB) : (rowc l).length = l.length * 3 := by
  induction l with
  | nil => rfl
  | cons x l ih => simp only [rowc, List.flatMap_cons, List.length_append] at ih ⊢; rw [ih]; simp [chc]; omega
theorem rowc_at {l : List ChB} {i : Nat} {x : ChB} (h : l[i]? = some x) : (rowc l)[i * 3]? = some (.int .u8 x.ty) ∧ (rowc l)[i * 3 + 1]? = some (.int .u8 x.fl) ∧ (rowc l)[i * 3 + 2]? = some (.slice x.A x.n x.c) := by
  induction l generalizing i with
  | nil => simp at h
  | cons y l ih =>
    have hl : (chc y).length = 3 := rfl
    cases i with
    | zero =>
      simp at h
      subst h
      exact ⟨rfl, rfl, rfl⟩
    | succ i =>
      have h2 : l[i]? = some x := by simpa using h
      simp only [rowc, List.flatMap_cons]
      rw [List.getElem?_append_right (by rw [hl]; omega), List.getElem?_append_right (by rw [hl]; omega), List.getElem?_append_right (by rw [hl]; omega), hl]
      have := ih h2
      rw [show (i + 1) * 3 - 3 = i * 3 by omega, show (i + 1) * 3 + 1 - 3 = i * 3 + 1 by omega, show (i + 1) * 3 + 2 - 3 = i * 3 + 2 by omega]
      exact this
theorem rowc_append (l m : List ChB) : rowc (l ++ m) = rowc l ++ rowc m := by simp [rowc]
theorem rowc_one (l : List ChB) : ∀ u ∈ rowc l, u.oneCell' = true := by
  intro u hu
  simp only [rowc, List.mem_flatMap, chc, List.mem_cons, List.mem_nil_iff, or_false] at hu
  obtain ⟨x, _, hu⟩ := hu
  rcases hu with rfl | rfl | rfl <;> rfl
/-- A chunk that lies there. -/
structure ChIn (w : World) (x : ChB) : Prop where
  inb : InB w x.A x.n x.c x.bs
  ty : 0 ≤ x.ty ∧ x.ty < 256
  fl : 0 ≤ x.fl ∧ x.fl < 256
  n : x.n ≤ 140737488351232
theorem ChIn.up {w w' : World} {x : ChB} (h : ChIn w x) (hu : Up w w') : ChIn w' x := ⟨h.inb.up hu, h.ty, h.fl, h.n⟩
/-- A slice of chunks. -/
structure InL (w : World) (A : Option Addr) (n cap : Nat) (l : List ChB) : Prop where
  cells : Cells w A (rowc l)
  ch : ∀ x ∈ l, ChIn w x
  cap : n ≤ cap
  len : l.length = n
theorem InL.up {w w' : World} {A : Option Addr} {n cap : Nat} {l : List ChB} (h : InL w A n cap l) (hu : Up w w') : InL w' A n cap l := ⟨h.cells.up hu, fun x hx => (h.ch x hx).up hu, h.cap, h.len⟩
theorem inL_nil (w : World) : InL w none 0 0 [] := ⟨Cells.nil _ _, (fun x hx => by cases hx), Nat.le_refl _, rfl⟩
/-- An element of it, cell by cell. -/
theorem InL.at_ {w : World} {A : Option Addr} {n cap k : Nat} {l : List ChB} (h : InL w A n cap l) (hk : k < n) : ∃ x g o, l[k]? = some x ∧ A = some ⟨g, o, none⟩ ∧ w.cell? ⟨g, o + k * 3, none⟩ = some (.int .u8 x.ty) ∧ w.cell? ⟨g, o + k * 3 + 1, none⟩ = some (.int .u8 x.fl) ∧ w.cell? ⟨g, o + k * 3 + 2, none⟩ = some (.slice x.A x.n x.c) ∧ ChIn w x := by
  obtain ⟨x, hx⟩ : ∃ x, l[k]? = some x := ⟨_, List.getElem?_eq_getElem (by rw [h.len]; exact hk)⟩
  obtain ⟨g, o, rfl, _, hc⟩ := h.cells (by intro e; have := congrArg List.length e; rw [rowc_length, h.len] at this; simp at this; omega)
  obtain ⟨h1, h2, h3⟩ := rowc_at hx
  have k1 := hc _ _ h1
  have k2 := hc _ _ h2
  have k3 := hc _ _ h3
  rw [← Nat.add_assoc] at k2 k3
  exact ⟨x, g, o, hx, rfl, k1, k2, k3, h.ch x (List.mem_of_getElem? hx)⟩
/-- The bytes of a chunk, of chunks. -/
def encC (c : Ck.Chk) : List Int := [c.ty, c.fl] ++ be (4 + (c.bs.length : Int)) 2 ++ padL c.bs
def encL (l : List Ck.Chk) : List Int := l.flatMap encC
theorem encC_length (c : Ck.Chk) : (encC c).length = 4 + c.bs.length + padN c.bs.length := by simp [encC, be_length, padL_length]; omega
theorem encL_snoc (l : List Ck.Chk) (c : Ck.Chk) : encL (l ++ [c]) = encL l ++ encC c := by simp [encL]
theorem encL_append (l m : List Ck.Chk) : encL (l ++ m) = encL l ++ encL m := by simp [encL]
theorem encL_take_le (l : List Ck.Chk) (k : Nat) : (encL (l.take k)).length ≤ (encL l).length := by
  conv => rhs; rw [← List.take_append_drop k l, encL_append, List.length_append]
  omega
def bytL (l : List Ck.Chk) : Prop := ∀ c ∈ l, (0 ≤ c.ty ∧ c.ty < 256) ∧ (0 ≤ c.fl ∧ c.fl < 256) ∧ Byt c.bs
theorem byt_encL {l : List Ck.Chk} (h : bytL l) : Byt (encL l) := by
  intro x hx
  simp only [encL, List.mem_flatMap] at hx
  obtain ⟨c, hc, hx⟩ := hx
  obtain ⟨h1, h2, h3⟩ := h c hc
  simp only [encC, List.mem_append, List.mem_cons, List.mem_nil_iff, or_false] at hx
  rcases hx with ((rfl | rfl) | hx) | hx
  · exact h1
  · exact h2
  · exact be_byt _ _ x hx
  · exact byt_padL h3 x hx
/-- What Put answers. -/
def PutRes (l : List Ck.Chk) (ys : List Int) (k : Int) : Prop := (k = 0 ∧ ys = encL l ∧ l.length ≤ 32 ∧ (encL l).length ≤ 4096) ∨ (k = 4 ∧ ys = [] ∧ ¬ (l.length ≤ 32 ∧ (encL l).length ≤ 4096))
def PutPost (l : List Ck.Chk) (w : World) (e : Ending) (w' : World) : Prop := ∃ ys k A N c, e = .returned (.tuple #[.slice A N c, .int .i64 k]) ∧ Hid (PutRes l ys k) ∧ Hid (N = ys.length) ∧ Hid (OwnI .u8 5 w.heap.size w' A N c ys) ∧ Hid (Up w w')
theorem putRes_inj {l : List Ck.Chk} {ys zs : List Int} {k k' : Int} (a : PutRes l ys k) (b : PutRes l zs k') : ys = zs ∧ k = k' := by
  rcases a with ⟨a1, a2, a3, a4⟩ | ⟨a1, a2, a3⟩ <;> rcases b with ⟨b1, b2, b3, b4⟩ | ⟨b1, b2, b3⟩
  · exact ⟨by rw [a2, b2], by omega⟩
  · exact absurd ⟨a3, a4⟩ b3
  · exact absurd ⟨b3, b4⟩ a3
  · exact ⟨by rw [a2, b2], by omega⟩
theorem make_cap (n : Nat) (hn : n ≤ 100000) (W : World) : (Instr.makeSlice 22 (.int .i64 0) (.int .i64 (n : Int))).run Try.prog W =
    .ok (.slice (some ⟨W.heap.size, 0, none⟩) 0 n) (W.alloc (.cells (Array.replicate n (.int .u8 0)) 5)) := by
  rw [← List.toArray_replicate]
  obtain ⟨i0, hi, hz0, hz1, hz2⟩ := info_parts winfo5
  have h := run_make (P := Try.prog) W 22 5 i0 (.int .u8 0) Try.underlying22 hi hz0 .i64 .i64 0 n (by omega) (by omega) (by rw [hz2]; omega) (by omega)
  have e : madeCells (Value.int .u8 0).cells (n * 1) = (List.replicate n (.int .u8 0)).toArray := by
    apply Array.toList_inj.1
    show (madeCells #[Value.int .u8 0] (n * 1)).toList = _
    rw [toList_madeCells_one]; simp
  rw [hz1] at h
  simp only [Int.toNat_natCast] at h
  rw [e] at h
  exact h
theorem WH.fin {g : Nat} {L : List (Nat × Obj)} {w0 w : World} {xs : List Int} (h : WH g L w0 xs w) : ∃ A N c, w.cell? ⟨g, 0, none⟩ = some (.slice A N c) ∧ Hid (N = xs.length) ∧ Hid (OwnI .u8 5 w0.heap.size w A N c xs) ∧ Hid (Up w0 w) := by
  obtain ⟨S, h1, h2, h5, h6⟩ := h
  obtain ⟨A, N, c, k1, k2, k3, k4⟩ := h1.ex
  exact ⟨A, N, c, cell_of k1 rfl, Lib.hid k2.len.symm, Lib.hid (k2.rebase fun k hk => h5 k (k4 k hk).1), Lib.hid h6⟩
theorem WH.start {w0 w : World} (n : Nat) (hn : n ≤ 100000) (hu : Up w0 w) : WH (w.heap.size + 1) [] w0 [] ((w.alloc (.cells (Array.replicate n (.int .u8 0)) 5)).alloc (.cells #[.slice (some ⟨w.heap.size, 0, none⟩) 0 n] 70)) := by
  have u1 := up_alloc w (.cells (Array.replicate n (.int .u8 0)) 5)
  have a1 := new_at w (.cells (Array.replicate n (.int .u8 0)) 5)
  have s1 : (w.alloc (.cells (Array.replicate n (.int .u8 0)) 5)).heap.size = w.heap.size + 1 := by simp
  have u2 := up_alloc (w.alloc (.cells (Array.replicate n (.int .u8 0)) 5)) (.cells #[.slice (some ⟨w.heap.size, 0, none⟩) 0 n] 70)
  have a2 := new_at (w.alloc (.cells (Array.replicate n (.int .u8 0)) 5)) (.cells #[.slice (some ⟨w.heap.size, 0, none⟩) 0 n] 70)
  rw [s1] at a2
  refine ⟨fun k => k = w.heap.size ∨ k = w.heap.size + 1, ⟨some ⟨w.heap.size, 0, none⟩, 0, n, a2, ⟨rfl, .inr ⟨w.heap.size, n, _, rfl, Nat.zero_le _, (u2.block _ (lt_of_blk a1)).trans a1, Nat.zero_le _, by unfold maxLen; omega, by simp, by simp [ints]⟩⟩, .inr rfl, fun k hk => ?_⟩, (fun p hp => by cases hp), fun k hk => ?_, (hu.trans u1).trans u2⟩
  · have e : w.heap.size = k := by simpa [blk?] using hk
    subst e
    exact ⟨.inl rfl, by omega⟩
  · have := hu.size
    rcases hk with hk | hk <;> omega
end Go.Proofs.Ytjdcglioppbfhaa
namespace Go.Proofs.Ytjdcglioppbfhaa
open Go Go.RowKit
set_option linter.unusedVariables false
set_option linter.unusedSimpArgs false
/-! Which chunks bytes are: mathematics. -/
/-- The first chunk of bytes, and the rest. -/
def stepG : List Int → Except Int (Ck.Chk × List Int)
  | a :: b :: c :: d :: rest =>
    if (c * 256 + d).toNat < 4 then .error 2
    else if rest.length < (c * 256 + d).toNat - 4 + padN (c * 256 + d).toNat then .error 3
    else if (rest.drop ((c * 256 + d).toNat - 4)).take (padN (c * 256 + d).toNat) = List.replicate (padN (c * 256 + d).toNat) 0 then .ok (⟨a, b, rest.take ((c * 256 + d).toNat - 4)⟩, rest.drop ((c * 256 + d).toNat - 4 + padN (c * 256 + d).toNat))
    else .error 2
  | _ => .error 3
/-- All of them, at most so many. -/
def getS : Nat → List Int → List Ck.Chk × Int
  | 0, l => ([], if l = [] then 0 else 4)
  | b + 1, l => if l = [] then ([], 0) else match stepG l with
    | .error k => ([], k)
    | .ok (c, rest) => if (getS b rest).2 = 0 then (c :: (getS b rest).1, 0) else ([], (getS b rest).2)
def GetRes (xs : List Int) (cs : List Ck.Chk) (k : Int) : Prop := (xs.length ≤ 4096 ∧ getS 32 xs = (cs, k)) ∨ (4096 < xs.length ∧ cs = [] ∧ k = 4)
theorem getRes_inj {xs : List Int} {cs ds : List Ck.Chk} {k k' : Int} (a : GetRes xs cs k) (b : GetRes xs ds k') : cs = ds ∧ k = k' := by
  rcases a with ⟨a1, a2⟩ | ⟨a1, a2, a3⟩ <;> rcases b with ⟨b1, b2⟩ | ⟨b1, b2, b3⟩
  · have := a2.symm.trans b2; injection this with e1 e2; exact ⟨e1, e2⟩
  · omega
  · omega
  · exact ⟨by rw [a2, b2], by omega⟩
/-- What is found behind those that were found. -/
def joinG (out : List Ck.Chk) (p : List Ck.Chk × Int) : List Ck.Chk × Int := if p.2 = 0 then (out ++ p.1, 0) else ([], p.2)
theorem getS_err : ∀ (b : Nat) (l : List Int), (getS b l).2 ≠ 0 → (getS b l).1 = [] := by
  intro b
  cases b with
  | zero => intro l _; rfl
  | succ b =>
    intro l h
    unfold getS at h ⊢
    split
    · rfl
    · rename_i hl
      rw [if_neg hl] at h
      split
      · rfl
      · rename_i c rest hs
        rw [hs] at h
        simp only at h
        split
        · rename_i h0; rw [if_pos h0] at h; exact absurd rfl h
        · rfl
theorem joinG_nil (p : List Ck.Chk × Int) (h : p.2 ≠ 0 → p.1 = []) : joinG [] p = p := by
  unfold joinG
  split
  · rename_i h0; obtain ⟨a, b⟩ := p; simp only at h0; subst h0; rfl
  · rename_i h0; obtain ⟨a, b⟩ := p; have := h h0; simp only at this; subst this; rfl
theorem joinG_step {b : Nat} {l rest : List Int} {c : Ck.Chk} {out : List Ck.Chk} (hl : l ≠ []) (hs : stepG l = .ok (c, rest)) : joinG out (getS (b + 1) l) = joinG (out ++ [c]) (getS b rest) := by
  rw [getS, if_neg hl, hs]
  by_cases h0 : (getS b rest).2 = 0
  · simp [joinG, h0]
  · simp [joinG, h0]
theorem joinG_err {b : Nat} {l : List Int} {k : Int} {out : List Ck.Chk} (hl : l ≠ []) (hs : stepG l = .error k) (hk : k ≠ 0) : joinG out (getS (b + 1) l) = ([], k) := by
  rw [getS, if_neg hl, hs]
  simp only [joinG]
  rw [if_neg hk]
theorem joinG_end {b : Nat} {out : List Ck.Chk} : joinG out (getS b []) = (out, 0) := by
  cases b <;> simp [getS, joinG]
theorem joinG_full {l : List Int} {out : List Ck.Chk} (hl : l ≠ []) : joinG out (getS 0 l) = ([], 4) := by
  simp [getS, joinG, hl]
section
variable {xs : List Int} {r : R}
theorem failR_keep (k : Int) (h : r.e ≠ 0) : failR k r = r := by
  unfold failR; rw [if_neg h]
theorem rdN_e (s : Nat) (h : r.e ≠ 0) : (rdN xs s r).e = r.e := by
  unfold rdN; split
  · rfl
  · rw [failR_keep 3 h]
theorem reqR_e (b : Bool) (h : r.e ≠ 0) : reqR b r = r := by
  cases b
  · exact failR_keep 2 h
  · rfl
theorem rdNI_e (n : Int) (h : r.e ≠ 0) : (rdNI xs n r).e = r.e := by
  unfold rdNI; split
  · rw [failR_keep 1 h]
  · exact rdN_e _ h
theorem zerR_e (zs : List Int) (h : r.e ≠ 0) : zerR zs r = r := by
  induction zs generalizing r with
  | nil => rfl
  | cons z zs ih =>
    show zerR zs (reqR (z == 0) r) = r
    rw [reqR_e _ h, ih h]
theorem zerR_bad {zs : List Int} (h0 : r.e = 0) (hz : zs ≠ List.replicate zs.length 0) : (zerR zs r).e = 2 := by
  induction zs generalizing r with
  | nil => exact absurd rfl hz
  | cons z zs ih =>
    show (zerR zs (reqR (z == 0) r)).e = 2
    by_cases hz0 : z = 0
    · subst hz0
      exact ih h0 (fun e => hz (by rw [List.length_cons, List.replicate_succ, ← e]))
    · have e1 : reqR (z == 0) r = failR 2 r := by
        have : (z == 0) = false := by rw [beq_eq_false_iff_ne]; exact hz0
        rw [this]; rfl
      rw [e1, zerR_e _ (failR_ne (by decide) r)]
      simp [failR, h0]
theorem pd_e {bs : List Int} {r' : R} (h : PdStep xs bs r r') (he : r.e ≠ 0) : r'.e = r.e := by
  obtain ⟨n, r1, h1, h2, h3⟩ := h.ex
  have e1 : r1.e = r.e := by rw [h1.st]; exact rdN_e 2 he
  have n1 : r1.e ≠ 0 := by rw [e1]; exact he
  rw [reqR_e _ n1] at h3
  have e2 := rdNI_e (xs := xs) ((n : Int) - 4) n1
  have n2 : (rdNI xs ((n : Int) - 4) r1).e ≠ 0 := by rw [e2]; exact n1
  have e3 := rdN_e (xs := xs) (padN n) n2
  have n3 : (rdN xs (padN n) (rdNI xs ((n : Int) - 4) r1)).e ≠ 0 := by rw [e3]; exact n2
  rw [h3, zerR_e _ n3, e3, e2, e1]
theorem rdN_short {s : Nat} (h0 : r.e = 0) (h : xs.length < r.at_ + s) : (rdN xs s r).e = 3 := by
  unfold rdN; rw [if_neg (by omega)]; simp [failR, h0]
theorem rdN_fit {s : Nat} (h : r.at_ + s ≤ xs.length) : rdN xs s r = ⟨r.at_ + s, r.e⟩ := by
  unfold rdN; rw [if_pos h]
theorem drop4 {l : List Int} (h : 4 ≤ l.length) : ∃ a b c d rest, l = a :: b :: c :: d :: rest := by
  match l, h with
  | a :: b :: c :: d :: rest, _ => exact ⟨a, b, c, d, rest, rfl⟩
theorem stepG_short {l : List Int} (h : l.length < 4) : stepG l = .error 3 := by
  match l, h with
  | [], _ => rfl
  | [_], _ => rfl
  | [_, _], _ => rfl
  | [_, _, _], _ => rfl
theorem stepP {bs : List Int} {t f : Int} {r1 r2 r3 : R} (hb : Byt xs) (he : r.e = 0) (hat : r.at_ < xs.length) (s1 : RdStep xs 1 t r r1) (s2 : RdStep xs 1 f r1 r2) (pd : PdStep xs bs r2 r3) :
    stepG (xs.drop r.at_) = if r3.e = 0 then .ok (⟨t, f, bs⟩, xs.drop r3.at_) else .error r3.e := by
  have a1 : r1 = ⟨r.at_ + 1, 0⟩ := by rw [s1.st, rdN_fit (by omega), he]
  by_cases h4 : xs.length < r.at_ + 4
  · have e3 : r3.e = 3 := by
      by_cases h2 : xs.length < r.at_ + 2
      · have e2 : r2.e = 3 := by rw [s2.st, a1]; exact rdN_short rfl (by show xs.length < r.at_ + 1 + 1; omega)
        rw [pd_e pd (by rw [e2]; decide), e2]
      · have a2 : r2 = ⟨r.at_ + 2, 0⟩ := by rw [s2.st, a1, rdN_fit (by show r.at_ + 1 + 1 ≤ _; omega)]
        obtain ⟨n, q, h1, h2', h3⟩ := pd.ex
        have eq : q.e = 3 := by rw [h1.st, a2]; exact rdN_short rfl (by show xs.length < r.at_ + 2 + 2; omega)
        have n1 : q.e ≠ 0 := by rw [eq]; decide
        rw [reqR_e _ n1] at h3
        have e2 := rdNI_e (xs := xs) ((n : Int) - 4) n1
        have n2 : (rdNI xs ((n : Int) - 4) q).e ≠ 0 := by rw [e2]; exact n1
        have e4 := rdN_e (xs := xs) (padN n) n2
        rw [h3, zerR_e _ (by rw [e4]; exact n2), e4, e2, eq]
    rw [e3, if_neg (by decide)]
    exact stepG_short (by simp; omega)
  · obtain ⟨a, b, c, d, rest, hl⟩ := drop4 (l := xs.drop r.at_) (by simp; omega)
    have hlen := congrArg List.length hl
    simp only [List.length_drop, List.length_cons] at hlen
    have a2 : r2 = ⟨r.at_ + 2, 0⟩ := by rw [s2.st, a1, rdN_fit (by show r.at_ + 1 + 1 ≤ _; omega)]
    obtain ⟨n, q, h1, h2', h3⟩ := pd.ex
    have aq : q = ⟨r.at_ + 4, 0⟩ := by rw [h1.st, a2, rdN_fit (by show r.at_ + 2 + 2 ≤ _; omega)]
    have ht : t = a := by rw [s1.val]; unfold rdV; rw [if_pos (by omega), hl]; simp [num]
    have hd1 : xs.drop (r.at_ + 1) = b :: c :: d :: rest := by rw [← List.drop_drop, hl]; rfl
    have hd2 : xs.drop (r.at_ + 2) = c :: d :: rest := by rw [← List.drop_drop, hl]; rfl
    have hd4 : xs.drop (r.at_ + 4) = rest := by rw [← List.drop_drop, hl]; rfl
    have hf : f = b := by rw [s2.val, a1]; unfold rdV; rw [if_pos (by show r.at_ + 1 + 1 ≤ _; omega)]; show num 0 ((xs.drop (r.at_ + 1)).take 1) = b; rw [hd1]; simp [num]
    have hn : (n : Int) = c * 256 + d := by rw [h1.val, a2]; unfold rdV; rw [if_pos (by show r.at_ + 2 + 2 ≤ _; omega)]; show num 0 ((xs.drop (r.at_ + 2)).take 2) = _; rw [hd2]; simp [num]
    have hN : (c * 256 + d).toNat = n := by omega
    have hrl : rest.length = xs.length - (r.at_ + 4) := by omega
    rw [hl]
    rw [stepG, hN]
    rw [aq] at h3 h2'
    by_cases hn4 : n < 4
    · rw [if_pos hn4]
      have hd : decide (4 ≤ (n : Int)) = false := by simp; omega
      rw [hd] at h3
      have er : reqR false (R.mk (r.at_ + 4) 0) = ⟨r.at_ + 4, 2⟩ := rfl
      rw [er] at h3
      have n1 : (R.mk (r.at_ + 4) 2).e ≠ 0 := (show (2 : Int) ≠ 0 by decide)
      have e2 := rdNI_e (xs := xs) ((n : Int) - 4) n1
      have n2 : (rdNI xs ((n : Int) - 4) ⟨r.at_ + 4, 2⟩).e ≠ 0 := by rw [e2]; exact n1
      have e4 := rdN_e (xs := xs) (padN n) n2
      have e5 : r3.e = 2 := by rw [h3, zerR_e _ (by rw [e4]; exact n2), e4, e2]
      rw [e5, if_neg (by decide)]
    · rw [if_neg hn4]
      have hd : decide (4 ≤ (n : Int)) = true := by simp; omega
      rw [hd] at h3 h2'
      have er : reqR true (R.mk (r.at_ + 4) 0) = ⟨r.at_ + 4, 0⟩ := rfl
      rw [er] at h3 h2'
      have hneg : ¬ ((n : Int) - 4 < 0) := by omega
      have htn : ((n : Int) - 4).toNat = n - 4 := by omega
      have eI : rdNI xs ((n : Int) - 4) ⟨r.at_ + 4, 0⟩ = rdN xs (n - 4) ⟨r.at_ + 4, 0⟩ := by unfold rdNI; rw [if_neg hneg, htn]
      have eB : rdBI xs ((n : Int) - 4) ⟨r.at_ + 4, 0⟩ = rdB xs (n - 4) ⟨r.at_ + 4, 0⟩ := by unfold rdBI; rw [if_neg hneg, htn]
      rw [eI] at h3
      rw [eB] at h2'
      by_cases hs1 : r.at_ + 4 + (n - 4) ≤ xs.length
      · have e6 : rdN xs (n - 4) ⟨r.at_ + 4, 0⟩ = ⟨r.at_ + 4 + (n - 4), 0⟩ := rdN_fit hs1
        rw [e6] at h3
        have hbs : bs = rest.take (n - 4) := by rw [h2']; unfold rdB; rw [if_pos hs1]; show (xs.drop (r.at_ + 4)).take (n - 4) = _; rw [hd4]
        by_cases hs2 : r.at_ + 4 + (n - 4) + padN n ≤ xs.length
        · rw [if_neg (by omega)]
          have e7 : rdN xs (padN n) ⟨r.at_ + 4 + (n - 4), 0⟩ = ⟨r.at_ + 4 + (n - 4) + padN n, 0⟩ := rdN_fit hs2
          rw [e7] at h3
          have hz : rdB xs (padN n) ⟨r.at_ + 4 + (n - 4), 0⟩ = (rest.drop (n - 4)).take (padN n) := by
            unfold rdB; rw [if_pos hs2]; show (xs.drop (r.at_ + 4 + (n - 4))).take (padN n) = _; rw [← List.drop_drop, hd4]
          rw [hz] at h3
          have hzl : ((rest.drop (n - 4)).take (padN n)).length = padN n := by simp; omega
          by_cases hz0 : (rest.drop (n - 4)).take (padN n) = List.replicate (padN n) 0
          · rw [if_pos hz0]
            rw [hz0, zer_bwd] at h3
            rw [h3, if_pos rfl, ht, hf, hbs]
            show _ = Except.ok (_, xs.drop (r.at_ + 4 + (n - 4) + padN n))
            have hdd : xs.drop (r.at_ + 4 + (n - 4) + padN n) = rest.drop (n - 4 + padN n) := by rw [Nat.add_assoc (r.at_ + 4), ← List.drop_drop, hd4]
            rw [hdd]
          · rw [if_neg hz0]
            have e8 : r3.e = 2 := by rw [h3]; exact zerR_bad rfl (by rw [hzl]; exact hz0)
            rw [e8, if_neg (by decide)]
        · rw [if_pos (by omega)]
          have e7 : (rdN xs (padN n) ⟨r.at_ + 4 + (n - 4), 0⟩).e = 3 := rdN_short rfl (by show xs.length < r.at_ + 4 + (n - 4) + padN n; omega)
          have e8 : r3.e = 3 := by rw [h3, zerR_e _ (by rw [e7]; decide), e7]
          rw [e8, if_neg (by decide)]
      · rw [if_pos (by omega)]
        have e6 : (rdN xs (n - 4) ⟨r.at_ + 4, 0⟩).e = 3 := rdN_short rfl (by show xs.length < r.at_ + 4 + (n - 4); omega)
        have n2 : (rdN xs (n - 4) ⟨r.at_ + 4, 0⟩).e ≠ 0 := by rw [e6]; decide
        have e7 := rdN_e (xs := xs) (padN n) n2
        have e8 : r3.e = 3 := by rw [h3, zerR_e _ (by rw [e7]; exact n2), e7, e6]
        rw [e8, if_neg (by decide)]
end
end Go.Proofs.Ytjdcglioppbfhaa
namespace Go.Proofs.Ytjdcglioppbfhaa
open Go Go.RowKit
set_option linter.unusedVariables false
set_option linter.unusedSimpArgs false
/-! The program's Get. -/
theorem info41 : (Try.prog.info? 43).map (fun i => (i.zero, i.size, i.bytes)) = some (some (.agg #[.int .u8 0, .int .u8 0, .slice none 0 0]), 3, 32) := by kernel_rfl
/-- A chunk with bytes of its own, out of X. -/
structure OwnC (B0 : Nat) (X : Nat → Prop) (w : World) (x : ChB) : Prop where
  own : OwnI .u8 5 0 w x.A x.n x.c x.bs
  byt : Byt x.bs
  ty : 0 ≤ x.ty ∧ x.ty < 256
  fl : 0 ≤ x.fl ∧ x.fl < 256
  n : x.n ≤ 140737488351232
  blk : ∀ k, blk? x.A = some k → B0 ≤ k ∧ ¬ X k
theorem OwnC.chIn {B0 : Nat} {X : Nat → Prop} {w : World} {x : ChB} (h : OwnC B0 X w x) : ChIn w x := ⟨own_inB h.own h.byt, h.ty, h.fl, h.n⟩
theorem OwnC.out {B0 : Nat} {X T : Nat → Prop} {w w' : World} {x : ChB} (h : OwnC B0 X w x) (ho : Out T w w') (ht : ∀ k, blk? x.A = some k → ¬ T k) : OwnC B0 X w' x := ⟨ho.own h.own (fun g hg => ht g (by rwa [ownBlock_slice] at hg)), h.byt, h.ty, h.fl, h.n, h.blk⟩
theorem OwnC.lt {B0 : Nat} {X : Nat → Prop} {w : World} {x : ChB} (h : OwnC B0 X w x) {k : Nat} (hk : blk? x.A = some k) : k < w.heap.size := (row_lt h.own hk).2
/-- Chunks in a row of one's own, each with bytes of its own. -/
structure GL (B0 : Nat) (X : Nat → Prop) (w : World) (A : Option Addr) (n c : Nat) (out : List ChB) : Prop where
  row : Row B0 X 43 3 w A n c (rowc out)
  len : out.length = n
  ch : ∀ x ∈ out, OwnC B0 X w x ∧ ∀ k, blk? x.A = some k → blk? A ≠ some k
section
variable {B0 : Nat} {X T : Nat → Prop} {w w' : World} {A : Option Addr} {n c : Nat} {out : List ChB}
theorem GL.inL (h : GL B0 X w A n c out) : InL w A n c out := ⟨row_cells h.row.own, fun x hx => (h.ch x hx).1.chIn, row_cap h.row.own, h.len⟩
theorem GL.outX (h : GL B0 X w A n c out) (ho : Out T w w') (ht : ∀ k, T k → X k) : GL B0 X w' A n c out :=
  ⟨h.row.outX ho ht, h.len, fun x hx => ⟨(h.ch x hx).1.out ho (fun k hk e => ((h.ch x hx).1.blk k hk).2 (ht k e)), (h.ch x hx).2⟩⟩
theorem GL.up (h : GL B0 X w A n c out) (hu : Up w w') : GL B0 X w' A n c out := h.outX (hu.out No) (fun _ h => h.elim)
theorem gl_nil (B0 : Nat) (X : Nat → Prop) (w : World) : GL B0 X w none 0 0 [] := ⟨row_nil _ _ _ _ _, rfl, fun x hx => by cases hx⟩
/-- One more behind them. -/
theorem GL.push (h : GL B0 X w A n c out) {x : ChB} {A' : Option Addr} {c' N : Nat} (hx : OwnC B0 X w x) (hxA : ∀ k, blk? x.A = some k → blk? A ≠ some k) (hN : N = n + 1) (hrow : w'.ownsRow 0 43 3 (.slice A' N c') N (rowc out ++ rowc [x]))
    (ho : Out (fun k => blk? A = some k) w w') (hb : blk? A' = blk? A ∨ blk? A' = some w.heap.size) (hX : ∀ k, X k → k < w.heap.size) (hB : B0 ≤ w.heap.size) : GL B0 X w' A' N c' (out ++ [x]) := by
  subst hN
  have key : ∀ y ∈ out ++ [x], OwnC B0 X w y ∧ ∀ k, blk? y.A = some k → blk? A ≠ some k := by
    intro y hy
    rcases List.mem_append.1 hy with h1 | h1
    · exact h.ch y h1
    · rw [List.mem_singleton.1 h1]; exact ⟨hx, hxA⟩
  refine ⟨⟨by rw [rowc_append]; exact hrow, fun k hk => ?_⟩, by simp [h.len], fun y hy => ⟨(key y hy).1.out ho (fun k hk e => (key y hy).2 k hk e), fun k hk e => ?_⟩⟩
  · rcases hb with hb | hb
    · exact h.row.blk k (by rw [← hb]; exact hk)
    · rw [hb] at hk; injection hk with hk
      exact ⟨by omega, fun e => by have := hX k e; omega⟩
  · rcases hb with hb | hb
    · exact (key y hy).2 k hk (by rw [← hb]; exact e)
    · rw [hb] at e; injection e with e
      have := (key y hy).1.lt hk
      omega
end
theorem GL.weak {B0 B : Nat} {X : Nat → Prop} {w : World} {A : Option Addr} {n c : Nat} {out : List ChB} (h : GL B0 X w A n c out) (hb : B ≤ B0) : GL B No w A n c out :=
  ⟨⟨h.row.own, fun k hk => ⟨Nat.le_trans hb (h.row.blk k hk).1, fun h => h⟩⟩, h.len, fun x hx => ⟨⟨(h.ch x hx).1.own, (h.ch x hx).1.byt, (h.ch x hx).1.ty, (h.ch x hx).1.fl, (h.ch x hx).1.n, fun k hk => ⟨Nat.le_trans hb ((h.ch x hx).1.blk k hk).1, fun h => h⟩⟩, (h.ch x hx).2⟩⟩
/-- None of its blocks turns. -/
theorem GL.outS {B0 : Nat} {X S : Nat → Prop} {w w' : World} {A : Option Addr} {n c : Nat} {out : List ChB} (h : GL B0 X w A n c out) (ho : Out S w w') (hs : ∀ k, S k → k < B0) : GL B0 X w' A n c out :=
  ⟨h.row.out ho (fun k hk e => by have h1 := (h.row.blk k hk).1; have h2 := hs k e; omega), h.len, fun x hx => ⟨(h.ch x hx).1.out ho (fun k hk e => by have h1 := ((h.ch x hx).1.blk k hk).1; have h2 := hs k e; omega), (h.ch x hx).2⟩⟩
def GetPost (xs : List Int) (w : World) (e : Ending) (w' : World) : Prop := ∃ l k A n c, e = .returned (.tuple #[.slice A n c, .int .i64 k]) ∧ Hid (GetRes xs (l.map ChB.pure) k) ∧ Hid (GL w.heap.size No w' A n c l) ∧ Hid (bytL (l.map ChB.pure)) ∧ Hid (n ≤ 32) ∧ Hid (Up w w')
theorem GetPost.no {xs : List Int} {k : Int} {w w' : World} {e : Ending} (h : e = .returned (.tuple #[.slice none 0 0, .int .i64 k])) (hr : GetRes xs [] k) (hu : Up w w') : GetPost xs w e w' :=
  ⟨[], k, none, 0, 0, h, Lib.hid hr, Lib.hid (gl_nil _ _ _), Lib.hid (fun c hc => by cases hc), Lib.hid (by omega), Lib.hid hu⟩
theorem inL_bytL {w : World} {A : Option Addr} {n c : Nat} {l : List ChB} (h : InL w A n c l) : bytL (l.map ChB.pure) := by
  intro c hc
  obtain ⟨x, hx, rfl⟩ := List.mem_map.1 hc
  exact ⟨(h.ch x hx).ty, (h.ch x hx).fl, (h.ch x hx).inb.byt⟩
set_option maxRecDepth 100000 in
theorem get_large (A : Option Addr) (m c : Nat) (xs : List Int) (w : World) (hm : xs.length = m) (hn : 4096 < m) (hn2 : m ≤ 140737488351232) : Calls Try.prog 16 #[.slice A m c] w (GetPost xs w) := by
  have HM := Lib.hid hm
  clear hm
  have d1 : decide (4096 < (m : Int)) = true := by simp; omega
  go_enter Try.func16, Try.ntmps16
  go_wp2_with fail
  go_ret2
  exact GetPost.no rfl (.inr ⟨by rw [HM.out]; exact hn, rfl, rfl⟩) (Up.refl _)
set_option maxRecDepth 100000 in
set_option maxHeartbeats 2000000 in
theorem get_small (A : Option Addr) (m c : Nat) (xs : List Int) (w : World) (hin : InB w A m c xs) (hn : m ≤ 4096) : Calls Try.prog 16 #[.slice A m c] w (GetPost xs w) := by
  have d1 : decide (4096 < (m : Int)) = false := by simp; omega
  have HI := Lib.hid hin
  have HXL := Lib.hid (show xs.length ≤ 4096 by rw [hin.len]; exact hn)
  have G0 := Lib.hid (RH.start (L := []) hin (by omega) (Up.refl w) (fun p hp => by cases hp))
  clear hin
  go_enter Try.func16, Try.ntmps16
  go_upto_region 5 with (fail)
  generalize (w.alloc (.cells #[.slice A m c, .int .i64 0, .int .i64 0] 59)) = w0 at G0 ⊢
  have HGE := Lib.hid (show w.heap.size = w.heap.size from rfl)
  generalize hgg : w.heap.size = g at G0 ⊢
  have HGW := Lib.hid hgg
  clear hgg HGE
  go_loopw [4] (fun v wr => ∃ (out : List ChB) (A1 : Option Addr) (n c1 : Nat) (r : R), n ≤ 32 ∧ v = .slice A1 n c1 ∧ Hid (RH g [] w xs r wr) ∧ Hid (GL (g + 1) (fun q => q = g) wr A1 n c1 out) ∧ Hid (r.e = 0) ∧ Hid (getS 32 xs = joinG (out.map ChB.pure) (getS (32 - n) (xs.drop r.at_)))) (fun v _ => match v with | .slice _ n _ => 33 - n | _ => 0)
  case atStart => exact ⟨[], none, 0, 0, ⟨0, 0⟩, by omega, rfl, G0, Lib.hid (gl_nil _ _ _), Lib.hid rfl, Lib.hid (by rw [List.map_nil, joinG_nil _ (getS_err _ _)]; rfl)⟩
  case round =>
    obtain ⟨out, A1, n, c1, r, hn32, rfl, hG, hL, he, hS⟩ := hrel
    go_wp2_with fail
    refine (rdone wr hG.out.isR).mono ?_
    rintro e wa ⟨b, rfl, hb, hu⟩
    have hGa := Lib.hid (hG.out.next hu.out)
    have hLa := Lib.hid (hL.out.up hu.out)
    clear hu hG hL
    cases b
    · have HAT := Lib.hid (show r.at_ < xs.length by
        have h1 := hGa.out.isR.at_
        have h2 : ¬ r.at_ = xs.length := fun e => by have := hb.out.2 e; cases this
        omega)
      have HNE := Lib.hid (show xs.drop r.at_ ≠ [] from fun e => by have := congrArg List.length e; simp at this; have := HAT.out; omega)
      clear hb
      by_cases h32 : n = 32
      · subst h32
        go_wp2_with fail
        go_ret2
        exact GetPost.no rfl (.inl ⟨HXL.out, by rw [hS.out]; exact joinG_full HNE.out⟩) hGa.out.up
      · have d2 : ((n : Int) == 32) = false := by rw [beq_eq_false_iff_ne]; omega
        have HNB := Lib.hid (show 32 - n = (32 - (n + 1)) + 1 by omega)
        go_wp2_with fail
        refine (rone wa hGa.out.isR).mono ?_
        rintro e wb ⟨t, r1, rfl, s1, b1, i1, o1⟩
        have hGb := Lib.hid (hGa.out.step i1 o1)
        have hLb := Lib.hid (hLa.out.outX o1.out (fun k hk => hk))
        clear i1 o1 hGa hLa
        go_wp2_with fail
        refine (rone wb hGb.out.isR).mono ?_
        rintro e wc ⟨f, r2, rfl, s2, b2, i1, o1⟩
        have hGc := Lib.hid (hGb.out.step i1 o1)
        have hLc := Lib.hid (hLb.out.outX o1.out (fun k hk => hk))
        clear i1 o1 hGb hLb
        go_wp2_with fail
        refine (rpadded wc hGc.out.isR).mono ?_
        rintro e wd ⟨A9, N9, c9, bs, r3, rfl, s3, hN9, hB9, hO9, i1, o1⟩
        have hGd := Lib.hid (hGc.out.step i1 o1)
        have hLd := Lib.hid (hLc.out.outX o1.out (fun k hk => hk))
        have HST := Lib.hid (stepP HI.out.byt he.out HAT.out s1.out s2.out s3.out)
        have HCB := Lib.hid (show ∀ k, blk? A9 = some k → (g + 1 ≤ k ∧ ¬ k = g) ∧ blk? A1 ≠ some k from fun k hk => by
          have h1 := (row_lt hO9.out hk).1
          have h2 := hGc.out.isR.lt
          exact ⟨⟨by omega, by omega⟩, fun e => by have := hLc.out.row.lt e; omega⟩)
        have HN9 := Lib.hid (show N9 ≤ 70000 by
          have h1 := hN9.out
          by_cases h3 : r3.e = 0
          · have := (pd_fwd s3.out HI.out.byt h3).2.2.1; omega
          · rw [h1]; obtain ⟨n', q, p1, p2, p3⟩ := s3.out.ex
            have p65 : (n' : Int) < 256 ^ 2 := p1.hi
            have e65 : (256 : Int) ^ 2 = 65536 := by decide
            rw [p2]; unfold rdBI rdB; split
            · simp
            · split
              · simp; omega
              · simp)
        have ht := b1.out
        have hf := b2.out
        have HTF := Lib.hid (show (0 ≤ t ∧ t < 256) ∧ 0 ≤ f ∧ f < 256 from ⟨by simpa using ht, by simpa using hf⟩)
        clear i1 o1 hGc hLc s1 s2 s3 b1 b2 ht hf
        obtain ⟨A0, m0, c0, q1, q2, q3⟩ := hGd.out.isR.ex
        have HR := Lib.hid q1
        clear q1 q2 q3
        have hW1 := Lib.hid (hGd.out.add (.cells #[.int .u8 t, .int .u8 f, .slice A9 N9 c9] 43))
        have hL1 := Lib.hid (hLd.out.up (up_alloc wd (.cells #[.int .u8 t, .int .u8 f, .slice A9 N9 c9] 43)))
        have hO1 := Lib.hid (show OwnI .u8 5 wc.heap.size _ A9 N9 c9 bs from own_up hO9.out (up_alloc wd (.cells #[.int .u8 t, .int .u8 f, .slice A9 N9 c9] 43)))
        have HR1 := Lib.hid (((up_alloc wd (.cells #[.int .u8 t, .int .u8 f, .slice A9 N9 c9] 43)).block _ (lt_of_blk HR.out)).trans HR.out)
        go_upto_region 9 with (fail)
        generalize wd.alloc (.cells #[.int .u8 t, .int .u8 f, .slice A9 N9 c9] 43) = we at hW1 hL1 hO1 HR1 ⊢
        generalize wd.heap.size = pb at hW1 ⊢
        have z2 := cell_of HR1.out (j := 2) rfl
        clear hGd hLd hO9 HR
        obtain ⟨a3, e3⟩ := r3
        by_cases h3 : e3 = 0
        · subst h3
          have HOK := Lib.hid (show stepG (xs.drop r.at_) = .ok (⟨t, f, bs⟩, xs.drop a3) by rw [HST.out, if_pos rfl])
          have z := (hW1.out.kept _ List.mem_cons_self).1
          simp only at z
          have y0 := cell_of z (j := 0) rfl
          have y1 := cell_of z (j := 1) rfl
          have y2 := cell_of z (j := 2) rfl
          clear z
          have HXC := Lib.hid (show OwnC (g + 1) (fun q => q = g) we ⟨t, f, A9, N9, c9, bs⟩ from ⟨hO1.out.base (Nat.zero_le _), hB9.out, HTF.out.1, HTF.out.2, by have := HN9.out; show N9 ≤ _; omega, fun k hk => (HCB.out k hk).1⟩)
          have HCL := Lib.hid (show Cells (we.alloc (.cells #[.int .u8 t, .int .u8 f, .slice A9 N9 c9] 43)) (some ⟨we.heap.size, 0, none⟩) (rowc [⟨t, f, A9, N9, c9, bs⟩]) from fun _ => ⟨we.heap.size, 0, rfl, lt_of_blk (new_at we _), fun j u hu => cell_of (new_at we _) (by rw [Nat.zero_add]; simpa [rowc, chc] using hu)⟩)
          have HUA := Lib.hid (up_alloc we (.cells #[.int .u8 t, .int .u8 f, .slice A9 N9 c9] 43))
          go_wp2_with (at_builtin; refine wpList_appendG rfl (.tmp 26) (.tmp 28) 25 rfl 0 43 (.agg #[.int .u8 0, .int .u8 0, .slice none 0 0]) 3 32 Try.underlying25 info41 rfl (by decide) A1 n c1 (rowc out) rfl (hL1.out.up HUA.out).row.own (some ⟨we.heap.size, 0, none⟩) 1 1 (rowc [⟨t, f, A9, N9, c9, bs⟩]) rfl (by simp [rowc, chc]) HCL.out (rowc_one _) (by omega) (by omega) (Nat.zero_le _) ?_; intro A' N' c' w' HN HW HO HB)
          have HGX := Lib.hid ((hW1.out.next HUA.out))
          have HL9 := Lib.hid ((hL1.out.up HUA.out).push (HXC.out.out (HUA.out.out No) (fun _ _ h => h)) (fun k hk => (HCB.out k hk).2) HN.out HW.out HO.out HB.out (fun k hk => by rw [hk]; exact HGX.out.isR.lt) (by have := HGX.out.isR.lt; omega))
          have HG9 := Lib.hid ((show RH g [] w xs ⟨a3, 0⟩ _ from ⟨HGX.out.isR, (fun p hp => by cases hp), HGX.out.up, HGX.out.g0⟩).sideT HO.out (fun k hk => ((hL1.out.up HUA.out).row.blk k hk).1) (fun p hp => by cases hp))
          go_roundw
          case rel => exact ⟨out ++ [⟨t, f, A9, N9, c9, bs⟩], A', N', c', ⟨a3, 0⟩, by have := HN.out; omega, rfl, HG9, HL9, Lib.hid rfl, Lib.hid (by rw [hS.out, HNB.out, joinG_step HNE.out HOK.out, HN.out]; simp [ChB.pure])⟩
          case measure => have := HN.out; show 33 - N' < 33 - n; omega
        · have HER := Lib.hid (show stepG (xs.drop r.at_) = .error e3 by rw [HST.out, if_neg h3])
          have H3 := Lib.hid h3
          have d3 : (e3 == 0) = false := by rw [beq_eq_false_iff_ne]; exact h3
          clear h3
          go_upto_region 10 with (fail)
          go_quiet (fail)
          go_wp2_with fail
          go_ret2
          exact GetPost.no rfl (.inl ⟨HXL.out, by rw [hS.out, HNB.out]; exact joinG_err HNE.out HER.out H3.out⟩) (hW1.out.up.trans (up_drewN _ _))
    · have HAT := Lib.hid (hb.out.1 rfl)
      clear hb
      go_wp2_with fail
      go_ret2
      exact ⟨out, 0, A1, n, c1, rfl, Lib.hid (.inl ⟨HXL.out, by rw [hS.out, HAT.out, List.drop_length]; exact joinG_end⟩), Lib.hid (hLa.out.weak (by rw [HGW.out]; omega)), Lib.hid (inL_bytL hLa.out.inL), Lib.hid hn32, Lib.hid hGa.out.up⟩
theorem get_any' (A : Option Addr) (m c : Nat) (xs : List Int) (w : World) (hin : InB w A m c xs) (hm : m ≤ 140737488351232) : Calls Try.prog 16 #[.slice A m c] w (GetPost xs w) := by
  by_cases h : 4096 < m
  · exact get_large A m c xs w hin.len h hm
  · exact get_small A m c xs w hin (by omega)
end Go.Proofs.Ytjdcglioppbfhaa
