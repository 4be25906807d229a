import Derived.Test.YtpdhgjhcjnpkeaaWhRow
import Derived.Laws.Rows
import Derived.Laws.IdiomCopy
namespace Go.Proofs.Ytpdhgjhcjnpkeaa
open Go Go.RowKit
set_option linter.unusedVariables false
theorem setCell_out (w : World) (b j : Nat) (v : Value) : Out (fun k => k = b) w (w.setCell ⟨b, j, none⟩ v) := ⟨rfl, rfl, rfl, by simp [World.setCell], fun k hk hn => by
  simp [World.setCell, Array.getElem?_modify, Ne.symm hn]⟩
theorem setCell_at {w : World} {b j : Nat} {cs : Array Value} {T : TypeId} (v : Value) (h : w.heap[b]? = some (.cells cs T (0, 0))) : (w.setCell ⟨b, j, none⟩ v).heap[b]? = some (.cells (cs.setIfInBounds j v) T (0, 0)) := heap_setCell_same w b j cs T v h
theorem frozen_at {w : World} {b j : Nat} {cs : Array Value} {T : TypeId} (h : w.heap[b]? = some (.cells cs T (0, 0))) : w.frozen? ⟨b, j, none⟩ = false := by
  simp [World.frozen?, h]
theorem cell_at {w : World} {b j : Nat} {cs : Array Value} {T : TypeId} (h : w.heap[b]? = some (.cells cs T (0, 0))) (hj : j < cs.size) : (w.cell? ⟨b, j, none⟩).isSome = true := by
  simp [World.cell?, h, hj]
/-- A store of one cell. -/
theorem run_store1 {P : Program} {t : TypeId} (ht : ∀ w, (Go.sizeOf t).run P w = .ok 1 w) {w : World} {b j : Nat} {cs : Array Value} {T : TypeId} {v : Value} (hb : w.heap[b]? = some (.cells cs T (0, 0))) (hj : j < cs.size) (h1 : v.oneCell' = true) (h2 : v.cells = #[v]) :
    (Instr.storeAt t (.pointer (some ⟨b, j, none⟩)) v).run P w = .ok () (w.setCell ⟨b, j, none⟩ v) := by
  have := run_storeCells_cells (P := P) b j [v] 0 w (fun k hk => by
    have : k = 0 := by simpa using hk
    subst this; exact cell_at hb hj) (fun k hk => frozen_at hb) (by simpa using h1)
  simp [Instr.storeAt, Instr.sureAddr, storeVar, ht, h2, Result.andThen]
  simpa [World.setCells] using this
theorem run_store33 {w : World} {b j : Nat} {cs : Array Value} {T : TypeId} (x : Tm.T) (hb : w.heap[b]? = some (.cells cs T (0, 0))) (hj : j + 1 < cs.size) :
    (Instr.storeAt 33 (.pointer (some ⟨b, j, none⟩)) (.agg #[.int .i64 x.1, .int .i64 x.2])).run Try.prog w = .ok () ((w.setCell ⟨b, j, none⟩ (.int .i64 x.1)).setCell ⟨b, j + 1, none⟩ (.int .i64 x.2)) := by
  have := run_storeCells_cells (P := Try.prog) b j [.int .i64 x.1, .int .i64 x.2] 0 w (fun k hk => by
    simp at hk
    exact cell_at hb (by omega)) (fun k hk => frozen_at hb) (by simp [Value.oneCell'])
  simp [Instr.storeAt, Instr.sureAddr, storeVar, Value.cells, Result.andThen]
  simpa [World.setCells] using this
/-- A row's alarm is another. -/
theorem RowB.store {w : World} {g c : Nat} {a : List Tm.T} (h : RowB w g c a) {i : Nat} (hi : i < a.length) (x : Tm.T) :
    ∃ w', (Instr.storeAt 33 (.pointer (some ⟨g, 0 + i * 2, none⟩)) (.agg #[.int .i64 x.1, .int .i64 x.2])).run Try.prog w = .ok () w' ∧ RowB w' g c (a.set i x) ∧ Out (fun k => k = g) w w' := by
  obtain ⟨⟨cur, h1, h2, h3⟩, h4, h5⟩ := h
  have e2 := setCell_at (j := i * 2 + 1) (.int .i64 x.2) (setCell_at (j := i * 2) (.int .i64 x.1) h1)
  refine ⟨_, by rw [Nat.zero_add]; exact run_store33 x h1 (by omega), ⟨⟨_, e2, by simp [h2], ?_⟩, by simpa using h4, h5⟩, (setCell_out _ _ _ _).trans (setCell_out _ _ _ _) (Sub.refl _ _)⟩
  rw [tcells_set, ← h3, List.length_set]
  simp only [Array.toList_setIfInBounds]
  rw [List.take_set, List.take_set]
theorem RowB.storeAt {w : World} {g c : Nat} {a : List Tm.T} (h : RowB w g c a) {i : Nat} (hi : i < a.length) (n : Int) :
    ∃ w', (Instr.storeAt 3 (.pointer (some ⟨g, i * 2 + 1, none⟩)) (.int .i64 n)).run Try.prog w = .ok () w' ∧ RowB w' g c (a.set i ((Hp.at_ a i).1, n)) ∧ Out (fun k => k = g) w w' := by
  have hc := (h.cell hi).1
  obtain ⟨⟨cur, h1, h2, h3⟩, h4, h5⟩ := h
  refine ⟨_, run_store1 (fun w => siz3 w) h1 (by omega) rfl rfl, ⟨⟨_, setCell_at _ h1, by simp [h2], ?_⟩, by simpa using h4, h5⟩, setCell_out _ _ _ _⟩
  rw [tcells_set, ← h3, List.length_set]
  simp only [Array.toList_setIfInBounds]
  rw [List.take_set]
  congr 1
  have hc2 : cur[i * 2]? = some (.int .i64 (Hp.at_ a i).1) := by simpa [World.cell?, h1] using hc
  refine (List.ext_getElem? fun k => ?_)
  rw [List.getElem?_set]
  by_cases e : i * 2 = k
  · subst e
    rw [if_pos rfl, List.getElem?_take, if_pos (by omega), if_pos (by rw [List.length_take]; simp; omega)]
    simpa using hc2
  · rw [if_neg e]
end Go.Proofs.Ytpdhgjhcjnpkeaa
