import Derived.Test.YtpdhgjhcjnpkeaaWhS
namespace Go.Proofs.Ytpdhgjhcjnpkeaa
open Go Go.RowKit
set_option linter.unusedVariables false
/-- A slice of integers of kind k that came in. -/
structure InK (k : IntKind) (w : World) (A : Option Addr) (n cap : Nat) (xs : List Int) : Prop where
  cells : Cells w A (ints k xs)
  cap : n ≤ cap
  len : xs.length = n
  wf : ∀ x ∈ xs, k.min ≤ x ∧ x ≤ k.max
theorem InK.cell {k : IntKind} {w w' : World} {b o n cap i : Nat} {xs : List Int} (h : InK k w (some ⟨b, o, none⟩) n cap xs) (hu : Below w.heap.size w w') (hi : i < n) : w'.cell? ⟨b, o + i, none⟩ = some (.int k (xs.getD i 0)) := by
  obtain ⟨b', o', e, hlt, hc⟩ := h.cells (by intro e; have h1 := h.len; have h2 := ints_length k xs; rw [e] at h2; simp at h2; omega)
  injection e with e
  injection e with e1 e2
  subst e1; subst e2
  rw [hu.cell (p := ⟨b, o + i, none⟩) hlt]
  have hl : i < xs.length := by have := h.len; omega
  exact hc i _ (by simp [ints, hl])
theorem InK.at_ {k : IntKind} {w : World} {A : Option Addr} {n cap : Nat} {xs : List Int} (h : InK k w A n cap xs) (hn : 0 < n) : ∃ b o, A = some ⟨b, o, none⟩ := by
  obtain ⟨b, o, e, _⟩ := h.cells (by intro e; have h1 := h.len; have h2 := ints_length k xs; rw [e] at h2; simp at h2; omega)
  exact ⟨b, o, e⟩
theorem InK.u16 {w : World} {A : Option Addr} {n cap i : Nat} {xs : List Int} (h : InK .u16 w A n cap xs) : 0 ≤ xs.getD i 0 ∧ xs.getD i 0 ≤ 65535 := by
  rcases Nat.lt_or_ge i xs.length with hi | hi
  · have := h.wf xs[i] (List.getElem_mem hi)
    rw [List.getD_eq_getElem?_getD, List.getElem?_eq_getElem hi, Option.getD_some]
    have e1 : IntKind.u16.min = 0 := by rfl
    have e2 : IntKind.u16.max = 65535 := by rfl
    omega
  · rw [List.getD_eq_getElem?_getD, List.getElem?_eq_none hi, Option.getD_none]; omega
theorem InK.u8 {w : World} {A : Option Addr} {n cap i : Nat} {xs : List Int} (h : InK .u8 w A n cap xs) : 0 ≤ xs.getD i 0 ∧ xs.getD i 0 ≤ 255 := by
  rcases Nat.lt_or_ge i xs.length with hi | hi
  · have := h.wf xs[i] (List.getElem_mem hi)
    rw [List.getD_eq_getElem?_getD, List.getElem?_eq_getElem hi, Option.getD_some]
    have e1 : IntKind.u8.min = 0 := by rfl
    have e2 : IntKind.u8.max = 255 := by rfl
    omega
  · rw [List.getD_eq_getElem?_getD, List.getElem?_eq_none hi, Option.getD_none]; omega
/-- A store into a row of ints that is known whole. -/
theorem row_store {w : World} {g j : Nat} {T : List Int} (h : w.heap[g]? = some (.cells (ints .i64 T).toArray 3 (0, 0))) (x : Int) :
    (w.setCell ⟨g, j, none⟩ (.int .i64 x)).heap[g]? = some (.cells (ints .i64 (T.set j x)).toArray 3 (0, 0)) := by
  rw [heap_setCell_same _ g _ _ 3 _ h]
  congr 2
  apply Array.toList_inj.1
  simp [ints]
theorem row_cell {w : World} {g j : Nat} {T : List Int} {x : Int} (h : w.heap[g]? = some (.cells (ints .i64 T).toArray 3 (0, 0))) (hx : T[j]? = some x) : w.cell? ⟨g, j, none⟩ = some (.int .i64 x) := by
  rw [cell_of_row _ g _ _ 3 (0, 0) h]
  simp [ints, hx]
theorem row_free {w : World} {g j : Nat} {T : List Int} (h : w.heap[g]? = some (.cells (ints .i64 T).toArray 3 (0, 0))) : w.frozen? ⟨g, j, none⟩ = false := frozen_of_row _ g j _ 3 h
theorem out_set (w : World) (g j : Nat) (v : Value) : Out (fun b => b = g) w (w.setCell ⟨g, j, none⟩ v) :=
  ⟨rfl, rfl, rfl, by simp [World.setCell], fun k hk hn => Below.heap_setCell _ _ _ _ (by simpa using hn)⟩
theorem info3 : (Try.prog.info? 3).map (fun i => (i.zero, i.size, i.bytes)) = some (some (.int .i64 0), 1, 8) := by kernel_rfl
/-- make([]int, n). -/
theorem make_ints (n : Nat) (hn : n ≤ 1000000) (W : World) : (Instr.makeSlice 29 (.int .i64 (n : Int)) (.int .i64 (n : Int))).run Try.prog W =
    .ok (.slice (some ⟨W.heap.size, 0, none⟩) n n) (W.alloc (.cells (ints .i64 (List.replicate n 0)).toArray 3)) := by
  obtain ⟨i0, hi, hz0, hz1, hz2⟩ := info_parts info3
  have h := run_make (P := Try.prog) W 29 3 i0 (.int .i64 0) Try.underlying29 hi hz0 .i64 .i64 n n (by omega) (Int.le_refl _) (by rw [hz2]; omega) (by omega)
  have e : madeCells (Value.int .i64 0).cells (n * 1) = (ints .i64 (List.replicate n 0)).toArray := by
    apply Array.toList_inj.1
    show (madeCells #[Value.int .i64 0] (n * 1)).toList = _
    rw [toList_madeCells_one]; simp [ints]
  rw [hz1] at h
  simp only [Int.toNat_natCast] at h
  rw [e] at h
  exact h
end Go.Proofs.Ytpdhgjhcjnpkeaa
