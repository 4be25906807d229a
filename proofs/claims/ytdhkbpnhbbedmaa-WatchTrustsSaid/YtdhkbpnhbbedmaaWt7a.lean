import Derived.Test.YtdhkbpnhbbedmaaWt6
import Derived.Deep.DeepCutAuto
namespace Go.Proofs.Ytdhkbpnhbbedmaa
open Go Go.RowKit
set_option linter.unusedVariables false
set_option linter.unusedSimpArgs false
/-- Two new blocks: a watch, and what is to be done. -/
structure L2 (a b : Nat) (cs ds : Array Value) (w w' : World) : Prop where
  ha : w'.heap[a]? = some (.cells cs 23 (0, 0))
  hb : w'.heap[b]? = some (.cells ds 25 (0, 0))
  na : w.heap.size ≤ a
  ab : a < b
  up : Up w w'
section
variable {a b : Nat} {cs ds : Array Value} {w w1 w2 : World}
theorem L2.seta (h : L2 a b cs ds w w1) (j : Nat) (v : Value) : L2 a b (cs.setIfInBounds j v) ds w (w1.setCell ⟨a, j, none⟩ v) :=
  ⟨setCell_at v h.ha, (heap_set_ne (by have := h.ab; omega)).trans h.hb, h.na, h.ab, up_set h.up h.na⟩
theorem L2.setb (h : L2 a b cs ds w w1) (j : Nat) (v : Value) : L2 a b cs (ds.setIfInBounds j v) w (w1.setCell ⟨b, j, none⟩ v) :=
  ⟨(heap_set_ne (by have := h.ab; omega)).trans h.ha, setCell_at v h.hb, h.na, h.ab, up_set h.up (by have := h.na; have := h.ab; omega)⟩
theorem L2.more (h : L2 a b cs ds w w1) (u : Up w1 w2) : L2 a b cs ds w w2 := ⟨kept h.ha u, kept h.hb u, h.na, h.ab, h.up.trans u⟩
theorem L2.start (h : Up w w1) (cs ds : Array Value) : L2 w1.heap.size (w1.heap.size + 1) cs ds w ((w1.alloc (.cells cs 23)).alloc (.cells ds 25)) := by
  obtain ⟨h1, h2, h3⟩ := two_new w1 cs ds 23 25
  exact ⟨h1, h2, h.size, by omega, h.trans h3⟩
end
theorem ar6_0 (v0 x0 x1 x2 x3 x4 x5 : Value) : (#[x0, x1, x2, x3, x4, x5] : Array Value).setIfInBounds 0 v0 = #[v0, x1, x2, x3, x4, x5] := rfl
theorem ar6_1 (v0 v1 x1 x2 x3 x4 x5 : Value) : (#[v0, x1, x2, x3, x4, x5] : Array Value).setIfInBounds 1 v1 = #[v0, v1, x2, x3, x4, x5] := rfl
theorem ar6_2 (v0 v1 v2 x2 x3 x4 x5 : Value) : (#[v0, v1, x2, x3, x4, x5] : Array Value).setIfInBounds 2 v2 = #[v0, v1, v2, x3, x4, x5] := rfl
theorem ar6_3 (v0 v1 v2 v3 x3 x4 x5 : Value) : (#[v0, v1, v2, x3, x4, x5] : Array Value).setIfInBounds 3 v3 = #[v0, v1, v2, v3, x4, x5] := rfl
theorem ar6_4 (v0 v1 v2 v3 v4 x4 x5 : Value) : (#[v0, v1, v2, v3, x4, x5] : Array Value).setIfInBounds 4 v4 = #[v0, v1, v2, v3, v4, x5] := rfl
theorem ar6_5 (v0 v1 v2 v3 v4 v5 x5 : Value) : (#[v0, v1, v2, v3, v4, x5] : Array Value).setIfInBounds 5 v5 = #[v0, v1, v2, v3, v4, v5] := rfl
theorem L2.set6 {a b : Nat} {cs : Array Value} {w w1 : World} {x0 x1 x2 x3 x4 x5 : Value} (h : L2 a b cs #[x0, x1, x2, x3, x4, x5] w w1) (v0 v1 v2 v3 v4 v5 : Value) : L2 a b cs #[v0, v1, v2, v3, v4, v5] w ((((((w1.setCell ⟨b, 0, none⟩ v0).setCell ⟨b, 1, none⟩ v1).setCell ⟨b, 2, none⟩ v2).setCell ⟨b, 3, none⟩ v3).setCell ⟨b, 4, none⟩ v4).setCell ⟨b, 5, none⟩ v5) := by
  have h1 := ((((((h.setb 0 v0).setb 1 v1).setb 2 v2).setb 3 v3).setb 4 v4).setb 5 v5)
  rw [ar6_0, ar6_1, ar6_2, ar6_3, ar6_4, ar6_5] at h1
  exact h1
theorem st_of (y z : Wt) (ev : Int) (d : Du) (h : stepM y ev = (z, d)) (hy : y.Ok) (hev : Ev ev) : Hid (∀ wx, Calls Try.prog 7 #[.agg y.cs, .int .i64 ev] wx (Rs z d 0 wx)) := Lib.hid fun wx => by
  have := stepE_any y ev hy hev wx
  rw [h] at this
  exact this
end Go.Proofs.Ytdhkbpnhbbedmaa
