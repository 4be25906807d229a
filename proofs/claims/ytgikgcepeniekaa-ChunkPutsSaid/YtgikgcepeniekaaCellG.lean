import Derived.Test.YtgikgcepeniekaaFoot
import Derived.MapKept
import Derived.Laws.Rows
import Derived.Laws.IdiomCopy
namespace Go.Proofs.Ytgikgcepeniekaa
open Go Go.RowKit
set_option linter.unusedVariables false
/-! Cells, blocks and stores, of no program. -/
theorem cell_of {w : World} {b : Nat} {cs : Array Value} {t : TypeId} {f : Nat × Nat} (h : w.heap[b]? = some (.cells cs t f)) {j : Nat} {v : Value} (hv : cs[j]? = some v) : w.cell? ⟨b, j, none⟩ = some v := by
  simp [World.cell?, h, hv]
theorem cell_alloc {w : World} {b j : Nat} {v : Value} (h : w.cell? ⟨b, j, none⟩ = some v) (hb : b < w.heap.size) (o : Obj) : (w.alloc o).cell? ⟨b, j, none⟩ = some v := by
  rw [← h]
  exact World.cell?_of_block (MapKept.heap_alloc w o |>.2 b hb)
theorem up_alloc (w : World) (o : Obj) : Up w (w.alloc o) := (Below.refl _ _).alloc (Nat.le_refl _) o
theorem cell_lt {w : World} {A : Addr} {v : Value} (h : w.cell? A = some v) : A.block < w.heap.size := by
  unfold World.cell? at h
  cases hb : w.heap[A.block]? with
  | none => rw [hb] at h; cases h
  | some o => exact (Array.getElem?_eq_some_iff.1 hb).1
theorem cell_up {w w' : World} {A : Addr} {v : Value} (h : w.cell? A = some v) (hu : Up w w') : w'.cell? A = some v := by
  rw [← h]; exact World.cell?_of_block (hu.block _ (cell_lt h))
theorem cell_out {S : Nat → Prop} {w w' : World} {A : Addr} {v : Value} (h : w.cell? A = some v) (ho : Out S w w') (hn : ¬ S A.block) : w'.cell? A = some v := by
  rw [← h]; exact World.cell?_of_block (ho.block _ (cell_lt h) hn)
theorem setCell_out (w : World) (b j : Nat) (v : Value) : Out (fun k => k = b) w (w.setCell ⟨b, j, none⟩ v) := ⟨rfl, rfl, rfl, by simp [World.setCell], fun k hk hn => by
  simp [World.setCell, Array.getElem?_modify, Ne.symm hn]⟩
theorem setCell_at {w : World} {b j : Nat} {cs : Array Value} {T : TypeId} (v : Value) (h : w.heap[b]? = some (.cells cs T (0, 0))) : (w.setCell ⟨b, j, none⟩ v).heap[b]? = some (.cells (cs.setIfInBounds j v) T (0, 0)) := heap_setCell_same w b j cs T v h
theorem frozen_at {w : World} {b j : Nat} {cs : Array Value} {T : TypeId} (h : w.heap[b]? = some (.cells cs T (0, 0))) : w.frozen? ⟨b, j, none⟩ = false := by
  simp [World.frozen?, h]
theorem cell_at {w : World} {b j : Nat} {cs : Array Value} {T : TypeId} (h : w.heap[b]? = some (.cells cs T (0, 0))) (hj : j < cs.size) : (w.cell? ⟨b, j, none⟩).isSome = true := by
  simp [World.cell?, h, hj]
/-- A store of one cell. -/
theorem run_store1 {P : Program} {t : TypeId} (ht : ∀ w, (Go.sizeOf t).run P w = .ok 1 w) {w : World} {b j : Nat} {cs : Array Value} {T : TypeId} {v : Value} (hb : w.heap[b]? = some (.cells cs T (0, 0))) (hj : j < cs.size) (h1 : v.oneCell' = true) (h2 : v.cells = #[v]) :
    (Instr.storeAt t (.pointer (some ⟨b, j, none⟩)) v).run P w = .ok () (w.setCell ⟨b, j, none⟩ v) := by
  have := run_storeCells_cells (P := P) b j [v] 0 w (fun k hk => by
    have : k = 0 := by simpa using hk
    subst this; exact cell_at hb hj) (fun k hk => frozen_at hb) (by simpa using h1)
  simp [Instr.storeAt, Instr.sureAddr, storeVar, ht, h2, Result.andThen]
  simpa [World.setCells] using this
theorem run_load1 {P : Program} {t : TypeId} (h : ∀ w, (isAgg t).run P w = .ok false w) {A : Addr} {v : Value} {w : World} (hc : w.cell? A = some v) : (Instr.loadAt t (.pointer (some A))).run P w = .ok v w := by
  simp [Instr.loadAt, Instr.sureAddr, loadVar, h, Result.andThen, hc]
theorem new_at (w : World) (o : Obj) : (w.alloc o).heap[w.heap.size]? = some o := (MapKept.heap_alloc w o).1
theorem ownBlock_slice (A : Option Addr) (n c : Nat) : (Value.slice A n c).ownBlock = A.map (·.block) := by cases A <;> rfl
theorem own_slice {w : World} {base : Nat} {e : TypeId} {s : Nat} {v : Value} {n : Nat} {xs : List Value} (h : w.ownsRow base e s v n xs) : ∃ A c, v = .slice A n c := by
  rcases h.2 with ⟨h1, h2⟩ | ⟨g, cap, cur, hv, _⟩
  · exact ⟨none, 0, by rw [h1, h2]⟩
  · exact ⟨_, _, hv⟩
theorem own_up {w w' : World} {base : Nat} {e : TypeId} {s : Nat} {v : Value} {n : Nat} {xs : List Value} (h : w.ownsRow base e s v n xs) (hu : Up w w') : w'.ownsRow base e s v n xs := (hu.out No).own h (fun _ _ h => h)
end Go.Proofs.Ytgikgcepeniekaa
