import Derived.Test.YtdhkbpnhbbedmaaChecked
import Derived.Test.YtdhkbpnhbbedmaaSteady
import Derived.WalkKit
import Derived.Lib.Hide
import Derived.Deep.QuietTactic
import Derived.BigQuiet
import Derived.Deep.DeepCutAuto
namespace Go.Proofs.Ytdhkbpnhbbedmaa
open Go Go.RowKit
set_option linter.unusedVariables false
set_option linter.unusedSimpArgs false
/-! What is known of a peer, what is to be done, and both in memory. -/
structure Wt where
  s : Int
  p : Bool
  n : Int
abbrev Wt.cs (x : Wt) : Array Value := #[.int .i64 x.s, .bool x.p, .int .i64 x.n]
structure Du where
  a : Bool
  f : Bool
  b : Bool
  c : Bool
  t : Bool
  w : Bool
abbrev Du.cs (d : Du) : Array Value := #[.bool d.a, .bool d.f, .bool d.b, .bool d.c, .bool d.t, .bool d.w]
abbrev D0 : Du := ⟨false, false, false, false, false, false⟩
def At (w : World) (b : Nat) (cs : Array Value) (t : TypeId) : Prop := w.heap[b]? = some (.cells cs t (0, 0))
/-- The block behind a pointer, and nothing else, has turned. -/
structure Tr (b : Nat) (cs : Array Value) (w w' : World) : Prop where
  hb : w'.heap[b]? = some (.cells cs 23 (0, 0))
  out : Out (fun k => k = b) w w'
theorem Tr.refl {b : Nat} {cs : Array Value} {w : World} (h : w.heap[b]? = some (.cells cs 23 (0, 0))) : Tr b cs w w := ⟨h, Out.refl _ _⟩
theorem Tr.set {b : Nat} {cs : Array Value} {w w' : World} (h : Tr b cs w w') (j : Nat) (v : Value) : Tr b (cs.setIfInBounds j v) w (w'.setCell ⟨b, j, none⟩ v) :=
  ⟨setCell_at v h.hb, h.out.trans (setCell_out w' b j v) (fun _ h => .inl h)⟩
/-- Beside it a new block q of what is to be done. -/
structure Tw (b q : Nat) (cs ds : Array Value) (w w' : World) : Prop where
  hb : w'.heap[b]? = some (.cells cs 23 (0, 0))
  hq : w'.heap[q]? = some (.cells ds 25 (0, 0))
  lt : b < w.heap.size
  nw : w.heap.size ≤ q
  out : Out (fun k => k = b) w w'
theorem lt_at {w : World} {b : Nat} {o : Obj} (h : w.heap[b]? = some o) : b < w.heap.size := (Array.getElem?_eq_some_iff.1 h).1
theorem Tw.start {b : Nat} {cs : Array Value} {w : World} (h : w.heap[b]? = some (.cells cs 23 (0, 0))) : Tw b w.heap.size cs #[.bool false, .bool false, .bool false, .bool false, .bool false, .bool false] w (w.alloc (.cells #[.bool false, .bool false, .bool false, .bool false, .bool false, .bool false] 25)) :=
  ⟨((up_alloc w _).block _ (lt_at h)).trans h, new_at w _, lt_at h, Nat.le_refl _, (up_alloc w _).out _⟩
section
variable {b q : Nat} {cs ds cs' : Array Value} {w w1 w2 : World}
theorem Tw.ne (h : Tw b q cs ds w w1) : ¬ b = q := by have := h.lt; have := h.nw; omega
theorem heap_set_ne {w : World} {b q j : Nat} {v : Value} (h : ¬ b = q) : (w.setCell ⟨b, j, none⟩ v).heap[q]? = w.heap[q]? := by
  simp [World.setCell, Array.getElem?_modify, h]
theorem Tw.setb (h : Tw b q cs ds w w1) (j : Nat) (v : Value) : Tw b q (cs.setIfInBounds j v) ds w (w1.setCell ⟨b, j, none⟩ v) :=
  ⟨setCell_at v h.hb, (heap_set_ne h.ne).trans h.hq, h.lt, h.nw, h.out.trans (setCell_out w1 b j v) (fun _ h => .inl h)⟩
theorem Tw.setq (h : Tw b q cs ds w w1) (j : Nat) (v : Value) : Tw b q cs (ds.setIfInBounds j v) w (w1.setCell ⟨q, j, none⟩ v) :=
  ⟨(heap_set_ne (Ne.symm h.ne)).trans h.hb, setCell_at v h.hq, h.lt, h.nw, h.out.trans (setCell_out w1 q j v) (fun k hk => .inr (by rw [hk]; exact h.nw))⟩
theorem Tw.call (h : Tw b q cs ds w w1) (t : Tr b cs' w1 w2) : Tw b q cs' ds w w2 :=
  ⟨t.hb, (t.out.block q (lt_at h.hq) (Ne.symm h.ne)).trans h.hq, h.lt, h.nw, h.out.trans t.out (fun _ h => .inl h)⟩
theorem Tw.tr (h : Tw b q cs ds w w1) : Tr b cs w w1 := ⟨h.hb, h.out⟩
end
/-- A call without results that turns the block. -/
def Sn (b : Nat) (x : Wt) (w : World) (e : Ending) (w' : World) : Prop := e = .returned (.tuple #[]) ∧ Tr b x.cs w w'
/-- A call that turns the block and tells what is to be done. -/
def Dn (b : Nat) (x : Wt) (d : Du) (w : World) (e : Ending) (w' : World) : Prop := e = .returned (.agg d.cs) ∧ Tr b x.cs w w'
theorem settle_any (x : Wt) (s : Int) (b : Nat) (w : World) (h : w.heap[b]? = some (.cells x.cs 23 (0, 0))) : Calls Try.prog 18 #[.pointer (some ⟨b, 0, none⟩), .int .i64 s] w (Sn b ⟨s, false, x.n⟩ w) := by
  have hb := lt_of_blk h
  have T := Lib.hid (Tr.refl h)
  have k0 : w.cell? ⟨b, 0, none⟩ = some (.int .i64 x.s) := cell_of h rfl
  have k1 : w.cell? ⟨b, 1, none⟩ = some (.bool x.p) := cell_of h rfl
  have fz : ∀ j, w.frozen? ⟨b, j, none⟩ = false := fun j => frozen_at h
  clear h
  go_enter Try.func18, Try.ntmps18
  go_wp2_with fail
  go_end0
  exact ⟨rfl, (T.out.set 0 (.int .i64 s)).set 1 (.bool false)⟩
theorem leave_any (x : Wt) (s : Int) (b : Nat) (w : World) (h : w.heap[b]? = some (.cells x.cs 23 (0, 0))) : Calls Try.prog 23 #[.pointer (some ⟨b, 0, none⟩), .int .i64 s] w (Sn b ⟨s, false, 0⟩ w) := by
  have hb := lt_of_blk h
  have T := Lib.hid (Tr.refl h)
  have HS := Lib.hid (settle_any x s b w h)
  clear h
  go_enter Try.func23, Try.ntmps23
  go_wp2_with fail
  refine HS.out.mono ?_
  rintro e w1 ⟨rfl, HT⟩
  have T1 := Lib.hid HT
  have k2 : w1.cell? ⟨b, 2, none⟩ = some (.int .i64 x.n) := cell_of HT.hb rfl
  have fz : ∀ j, w1.frozen? ⟨b, j, none⟩ = false := fun j => frozen_at HT.hb
  clear HT HS
  go_wp2_with fail
  go_end0
  exact ⟨rfl, T1.out.set 2 (.int .i64 0)⟩
end Go.Proofs.Ytdhkbpnhbbedmaa
