import Derived.Test.YtdhkbpnhbbedmaaWt7a
import Derived.Test.YtdhkbpnhbbedmaaBytes
namespace Go.Proofs.Ytdhkbpnhbbedmaa
open Go Go.RowKit
set_option linter.unusedVariables false
set_option linter.unusedSimpArgs false
/-- One new block: a watch. -/
structure L1 (a : Nat) (cs : Array Value) (w w' : World) : Prop where
  ha : w'.heap[a]? = some (.cells cs 23 (0, 0))
  na : w.heap.size ≤ a
  up : Up w w'
section
variable {a : Nat} {cs : Array Value} {w w1 w2 : World}
theorem L1.seta (h : L1 a cs w w1) (j : Nat) (v : Value) : L1 a (cs.setIfInBounds j v) w (w1.setCell ⟨a, j, none⟩ v) := ⟨setCell_at v h.ha, h.na, up_set h.up h.na⟩
theorem L1.more (h : L1 a cs w w1) (u : Up w1 w2) : L1 a cs w w2 := ⟨kept h.ha u, h.na, h.up.trans u⟩
theorem L1.start (w : World) (cs : Array Value) : L1 w.heap.size cs w (w.alloc (.cells cs 23)) := ⟨new_at w _, Nat.le_refl _, up_alloc w _⟩
end
/-- Beside it two newer ones. -/
structure L3 (a b : Nat) (cs c2 ds : Array Value) (w w' : World) : Prop where
  ha : w'.heap[a]? = some (.cells cs 23 (0, 0))
  hb : w'.heap[b]? = some (.cells c2 23 (0, 0))
  hc : w'.heap[b + 1]? = some (.cells ds 25 (0, 0))
  na : w.heap.size ≤ a
  ab : a < b
  up : Up w w'
section
variable {a b : Nat} {cs c2 ds : Array Value} {w w1 w2 : World}
theorem L3.start (h : L1 a cs w w1) (c2 ds : Array Value) : L3 a w1.heap.size cs c2 ds w ((w1.alloc (.cells c2 23)).alloc (.cells ds 25)) := by
  obtain ⟨h1, h2, h3⟩ := two_new w1 c2 ds 23 25
  exact ⟨kept h.ha h3, h1, h2, h.na, lt_at h.ha, h.up.trans h3⟩
theorem L3.seta (h : L3 a b cs c2 ds w w1) (j : Nat) (v : Value) : L3 a b (cs.setIfInBounds j v) c2 ds w (w1.setCell ⟨a, j, none⟩ v) :=
  ⟨setCell_at v h.ha, (heap_set_ne (by have := h.ab; omega)).trans h.hb, (heap_set_ne (by have := h.ab; omega)).trans h.hc, h.na, h.ab, up_set h.up h.na⟩
theorem L3.setb (h : L3 a b cs c2 ds w w1) (j : Nat) (v : Value) : L3 a b cs (c2.setIfInBounds j v) ds w (w1.setCell ⟨b, j, none⟩ v) :=
  ⟨(heap_set_ne (by have := h.ab; omega)).trans h.ha, setCell_at v h.hb, (heap_set_ne (by omega)).trans h.hc, h.na, h.ab, up_set h.up (by have := h.na; have := h.ab; omega)⟩
theorem L3.setc (h : L3 a b cs c2 ds w w1) (j : Nat) (v : Value) : L3 a b cs c2 (ds.setIfInBounds j v) w (w1.setCell ⟨b + 1, j, none⟩ v) :=
  ⟨(heap_set_ne (by have := h.ab; omega)).trans h.ha, (heap_set_ne (by omega)).trans h.hb, setCell_at v h.hc, h.na, h.ab, up_set h.up (by have := h.na; have := h.ab; omega)⟩
theorem L3.more (h : L3 a b cs c2 ds w w1) (u : Up w1 w2) : L3 a b cs c2 ds w w2 := ⟨kept h.ha u, kept h.hb u, kept h.hc u, h.na, h.ab, h.up.trans u⟩
theorem L3.one (h : L3 a b cs c2 ds w w1) : L1 a cs w w1 := ⟨h.ha, h.na, h.up⟩
end
theorem byte_at {w : World} {A : Option Addr} {n c : Nat} {xs : List Int} (h : InB w A n c xs) {k : Nat} (hk : k < n) : ∃ (b o : Nat) (x : Int), A = some ⟨b, o, none⟩ ∧ w.cell? ⟨b, o + k, none⟩ = some (.int .u8 x) ∧ 0 ≤ x ∧ x < 256 := by
  have hl : k < xs.length := by rw [h.len]; exact hk
  obtain ⟨b, o, e, _, hc⟩ := h.cells (by intro e; simp [ints] at e; rw [e] at hl; simp at hl)
  have hx := h.byt xs[k] (List.getElem_mem hl)
  exact ⟨b, o, xs[k], e, hc k _ (by simp [ints, hl]), hx.1, hx.2⟩
end Go.Proofs.Ytdhkbpnhbbedmaa
