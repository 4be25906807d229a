import Derived.Test.YtpdhgjhcjnpkeaaWhPop
import Derived.Maps.AppendAt
namespace Go.Proofs.Ytpdhgjhcjnpkeaa
open Go Go.RowKit
set_option linter.unusedVariables false
theorem info33 : (Try.prog.info? 33).map (fun i => (i.zero, i.size, i.bytes)) = some (some (.agg #[.int .i64 0, .int .i64 0]), 2, 16) := by kernel_rfl
theorem bslice30 (x : Tm.T) (w : World) : (Instr.buildSlice 30 1 #[(0, .agg #[.int .i64 x.1, .int .i64 x.2])]).run Try.prog w = .ok (.slice (some ⟨w.heap.size, 0, none⟩) 1 1) (w.alloc (.cells #[.int .i64 x.1, .int .i64 x.2] 33)) := by kernel_rfl
theorem run_load33t {b : Nat} {w : World} {x : Tm.T} (h0 : w.cell? ⟨b, 0, none⟩ = some (.int .i64 x.1)) (h1 : w.cell? ⟨b, 1, none⟩ = some (.int .i64 x.2)) : (Instr.loadAt 33 (.pointer (some ⟨b, 0, none⟩))).run Try.prog w = .ok (.agg #[.int .i64 x.1, .int .i64 x.2]) w := by
  refine run_load33 (cs := [.int .i64 x.1, .int .i64 x.2]) rfl fun j v hv => ?_
  rw [Addr.add_lit]
  match j, hv with
  | 0, hv => cases hv; exact h0
  | 1, hv => cases hv; exact h1
theorem ownBlock_slice (A : Option Addr) (n c : Nat) : (Value.slice A n c).ownBlock = A.map (·.block) := by cases A <;> rfl
theorem own_slice {w : World} {base : Nat} {e : TypeId} {s : Nat} {v : Value} {n : Nat} {xs : List Value} (h : w.ownsRow base e s v n xs) : ∃ A c, v = .slice A n c := by
  rcases h.2 with ⟨h1, h2⟩ | ⟨g, cap, cur, hv, _⟩
  · exact ⟨none, 0, by rw [h1, h2]⟩
  · exact ⟨_, _, hv⟩
theorem own_up {w w' : World} {base : Nat} {e : TypeId} {s : Nat} {v : Value} {n : Nat} {xs : List Value} (h : w.ownsRow base e s v n xs) (hu : Up w w') : w'.ownsRow base e s v n xs := (hu.out No).own h (fun _ _ h => h)
/-- 'append' of one alarm. -/
theorem append_T {w : World} {A : Option Addr} {n c : Nat} {xs : List Value} {x : Tm.T} {g1 ty base : Nat} (h : w.ownsRow base 33 2 (.slice A n c) n xs) (q0 : w.cell? ⟨g1, 0, none⟩ = some (.int .i64 x.1)) (q1 : w.cell? ⟨g1, 1, none⟩ = some (.int .i64 x.2)) (hn : n ≤ 5000) (hb : base ≤ w.heap.size) :
    ∃ v w', (Builtin.append_ #[30, 30] ty #[.slice A n c, .slice (some ⟨g1, 0, none⟩) 1 1]).run Try.prog w = .ok v w' ∧ Out (fun k => A.map (·.block) = some k) w w' ∧ w'.ownsRow base 33 2 v (n + 1) (xs ++ [.int .i64 x.1, .int .i64 x.2]) ∧ (v.ownBlock = A.map (·.block) ∨ v.ownBlock = some w.heap.size) := by
  obtain ⟨i, hi, hz0, hz1, hz2⟩ := info_parts info33
  obtain ⟨v, w', h1, h2, h3, _, h5⟩ := run_append_own_at (P := Try.prog) w base 30 ty 33 i _ 2 16 Try.underlying30 hi hz0 hz1 hz2 rfl (by decide) (.slice A n c) n xs h ⟨g1, 0, none⟩ 1 1 [.int .i64 x.1, .int .i64 x.2] rfl (fun j u hu => by
    rw [Addr.add_lit]
    match j, hu with
    | 0, hu => cases hu; exact q0
    | 1, hu => cases hu; exact q1) (by simp [Value.oneCell']) (by unfold maxLen; omega) (by omega) hb
  refine ⟨v, w', h1, ⟨h3.os, h3.tape, h3.output, h3.size, fun k hk hn => h3.block k hk (fun e => hn ?_)⟩, h2, by rw [← ownBlock_slice A n c]; exact h5⟩
  rw [← ownBlock_slice A n c]; exact e.symm
def OneT (B : Nat) (x : Tm.T) : Value → World → Prop := fun v w => ∃ g, v = .slice (some ⟨g, 0, none⟩) 1 1 ∧ w.cell? ⟨g, 0, none⟩ = some (.int .i64 x.1) ∧ w.cell? ⟨g, 1, none⟩ = some (.int .i64 x.2) ∧ B ≤ g
def NewT (B : Nat) (A : Option Addr) (pb n : Nat) (xs : List Value) : Value → World → Prop := fun v w => w.ownsRow 0 33 2 v n xs ∧ (v.ownBlock = A.map (·.block) ∨ ∃ g, v.ownBlock = some g ∧ B ≤ g) ∧ v.ownBlock ≠ some pb
theorem oneT_new {B : Nat} (x : Tm.T) (w : World) (h : B ≤ w.heap.size) : OneT B x (.slice (some ⟨w.heap.size, 0, none⟩) 1 1) (w.alloc (.cells #[.int .i64 x.1, .int .i64 x.2] 33)) :=
  ⟨_, rfl, cell_of (MapKept.heap_alloc w _).1 rfl, cell_of (MapKept.heap_alloc w _).1 rfl, h⟩
theorem OneT.up {B : Nat} {x : Tm.T} {v : Value} {w w' : World} (h : OneT B x v w) (hu : Up w w') : OneT B x v w' := by
  obtain ⟨g, h1, h2, h3, h4⟩ := h
  exact ⟨g, h1, cell_up h2 hu, cell_up h3 hu, h4⟩
theorem NewT.up {B pb n : Nat} {A : Option Addr} {xs : List Value} {v : Value} {w w' : World} (h : NewT B A pb n xs v w) (hu : Up w w') : NewT B A pb n xs v w' := ⟨own_up h.1 hu, h.2⟩
theorem OneT.out {B : Nat} {x : Tm.T} {v : Value} {w w' : World} {S : Nat → Prop} (h : OneT B x v w) (ho : Out S w w') (hS : ∀ k, S k → k < B) : OneT B x v w' := by
  obtain ⟨g, h1, h2, h3, h4⟩ := h
  have hb : w'.heap[g]? = w.heap[g]? := ho.block g (cell_lt h2) (fun hs => by have := hS g hs; omega)
  exact ⟨g, h1, by rw [← h2]; exact World.cell?_of_block hb, by rw [← h3]; exact World.cell?_of_block hb, h4⟩
theorem facts_by {l : List (Value → World → Prop)} {w w' : World} (h : ∀ φ ∈ l, ∀ v, φ v w → φ v w') (i : Nat) (v : Value) (hf : facts l i v w) : facts l i v w' := by
  unfold facts at *
  rw [List.getD] at *
  cases hx : l[i]? with
  | none => simp
  | some φ =>
    rw [hx] at hf
    exact h φ (List.mem_of_getElem? hx) v hf
theorem facts_but {l : List (Value → World → Prop)} {w w' : World} (n : Nat) (h : ∀ φ ∈ l.set n Tru, ∀ v, φ v w → φ v w') (i : Nat) (v : Value) (hi : i ≠ n) (hf : facts l i v w) : facts l i v w' := by
  unfold facts at *
  rw [List.getD] at *
  cases hx : l[i]? with
  | none => simp
  | some φ =>
    rw [hx] at hf
    exact h φ (List.mem_of_getElem? (by rw [List.getElem?_set_ne (Ne.symm hi)]; exact hx)) v hf
/-- The world while Push appends and stores. -/
def PushW (V : World) (A : Option Addr) (pb m n : Nat) (xs : List Value) : Nat → World → Prop
  | 0, w => Up V w
  | 1, w => Out (fun k => A.map (·.block) = some k) V w
  | _ + 2, w => Out (fun k => k = pb ∨ A.map (·.block) = some k) V w ∧ ∃ A' c', w.heap[pb]? = some (.cells #[.slice A' n c', .map (some m)] 45 (0, 0)) ∧ NewT V.heap.size A pb n xs (.slice A' n c') w
section
variable {V w : World} {A : Option Addr} {pb m n : Nat} {xs : List Value}
theorem PushW.out : ∀ {k : Nat}, PushW V A pb m n xs k w → Out (fun k => k = pb ∨ A.map (·.block) = some k) V w
  | 0, h => Up.out (show Up V w from h) _
  | 1, h => Out.mono (show Out (fun k => A.map (·.block) = some k) V w from h) (fun _ h => .inr h)
  | _ + 2, h => h.1
theorem PushW.top {o : Obj} (hp : V.heap[pb]? = some o) (hA : A.map (·.block) ≠ some pb) : ∀ {k : Nat}, k ≤ 1 → PushW V A pb m n xs k w → w.heap[pb]? = some o
  | 0, _, h => by rw [← hp]; exact (show Up V w from h).block pb (lt_of_blk hp)
  | 1, _, h => Out.blk (show Out (fun k => A.map (·.block) = some k) V w from h) hp hA
  | _ + 2, h, _ => by omega
theorem PushW.upTo {w' : World} (hu : Up w w') (hs : pb < w.heap.size) : ∀ {k : Nat}, PushW V A pb m n xs k w → PushW V A pb m n xs k w'
  | 0, h => Up.trans (show Up V w from h) hu
  | 1, h => Out.trans (S' := No) (show Out (fun k => A.map (·.block) = some k) V w from h) (hu.out _) (fun _ h => h.elim)
  | _ + 2, h => ⟨h.1.trans (S' := No) (hu.out _) (fun _ h => h.elim), by
      obtain ⟨A', c', h1, h2⟩ := h.2
      exact ⟨A', c', by rw [hu.block pb hs]; exact h1, h2.up hu⟩⟩
end
end Go.Proofs.Ytpdhgjhcjnpkeaa
