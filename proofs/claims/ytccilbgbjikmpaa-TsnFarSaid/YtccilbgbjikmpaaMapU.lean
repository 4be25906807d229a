import Derived.Test.YtccilbgbjikmpaaSteady
import Derived.MapKept
namespace Go.Proofs.Ytccilbgbjikmpaa
open Go Go.RowKit
set_option linter.unusedVariables false
/-! A map with keys of kind u32 and empty values: a set of numbers. -/
/-- An entry: a key, a stamp. -/
abbrev EnU := Int × Nat
def enU (x : EnU) : MapEntry := { key := .int .u32 x.1, val := .agg #[], born := x.2 }
def ensU (E : List EnU) : Array MapEntry := (E.map enU).toArray
/-- Block m is the set of E. -/
def MapU (w : World) (m : Nat) (E : List EnU) : Prop := ∃ clock, w.heap[m]? = some (.map (ensU E) clock) ∧ (E.map (·.1)).Nodup ∧ (E.map (·.2)).Nodup ∧ ∀ x ∈ E, x.2 < clock
theorem MapU.keep {w w' : World} {m : Nat} {E : List EnU} (h : MapU w m E) (hb : w'.heap[m]? = w.heap[m]?) : MapU w' m E := by
  obtain ⟨c, h1, h2⟩ := h
  exact ⟨c, by rw [hb]; exact h1, h2⟩
theorem MapU.lt {w : World} {m : Nat} {E : List EnU} (h : MapU w m E) : m < w.heap.size := by
  obtain ⟨c, h1, _⟩ := h
  exact lt_of_blk h1
theorem findNow_u (k : Int) : ∀ (E : List EnU) (i : Nat), Instr.findNow (.int .u32) (.int .u32 k) (E.map enU) i = some ((E.findIdx? fun x => x.1 == k).map fun j => (i + j, .agg #[])) := by
  intro E
  induction E with
  | nil => intro i; rfl
  | cons x E ih =>
    intro i
    rw [List.map_cons]
    unfold Instr.findNow
    by_cases e : k = x.1
    · subst e; simp [enU, Instr.sameNow, List.findIdx?_cons]
    · have e' : (x.1 == k) = false := by simpa using fun h => e h.symm
      have e2 : (k == x.1) = false := by simpa using e
      simp only [enU, Instr.sameNow, if_true, e2, List.findIdx?_cons, e']
      rw [ih]
      cases E.findIdx? fun x => x.1 == k <;> simp [Nat.add_assoc, Nat.add_comm 1]
theorem toList_ensU (E : List EnU) : (ensU E).toList = E.map enU := by simp [ensU]
theorem idxU_none {E : List EnU} {k : Int} (h : k ∉ E.map (·.1)) : (E.findIdx? fun x => x.1 == k) = none := by
  rw [List.findIdx?_eq_none_iff]
  intro x hx
  rw [beq_eq_false_iff_ne]
  exact fun e => h (List.mem_map.2 ⟨x, hx, e⟩)
theorem idxU_some {E : List EnU} {k : Int} (h : k ∈ E.map (·.1)) : ∃ j, (E.findIdx? fun x => x.1 == k) = some j ∧ (E.getD j (0, 0)).1 = k ∧ j < E.length := by
  induction E with
  | nil => cases h
  | cons x E ih =>
    rw [List.findIdx?_cons]
    by_cases e : x.1 = k
    · exact ⟨0, by simp [e], e, by simp⟩
    · rw [show (x.1 == k) = false by simpa using e]
      rw [List.map_cons, List.mem_cons] at h
      obtain ⟨j, h1, h2, h3⟩ := ih (h.resolve_left (fun e2 => e e2.symm))
      exact ⟨j + 1, by simp [h1], h2, by simpa using h3⟩
section
variable {P : Program} {T K V : TypeId}
theorem run_findKey_u (hK : P.underlying K = some (.int .u32)) (k : Int) (E : List EnU) (w : World) :
    (Instr.findKey K (.int .u32 k) (ensU E).toList).run P w = .ok ((E.findIdx? fun x => x.1 == k).map fun j => (j, .agg #[])) w := by
  rw [toList_ensU]
  refine MapKept.run_findKey hK ?_
  rw [findNow_u]
  simp
theorem run_checkKey_u (hK : P.underlying K = some (.int .u32)) (k : Int) (e : Bool) (w : World) : (Instr.checkKey e 10000 K (.int .u32 k)).run P w = .ok () w := by
  unfold Instr.checkKey
  simp [Result.andThen, run_underlying hK]
theorem run_lookU (hT : P.underlying T = some (.map K V)) (hK : P.underlying K = some (.int .u32)) (hz : ∀ w, (zeroValue V).run P w = .ok (.agg #[]) w) {w : World} {m : Nat} {E : List EnU} (h : MapU w m E) (k : Int) :
    (Instr.lookup T (.map (some m)) (.int .u32 k) true).run P w = .ok (.tuple #[.agg #[], .bool (decide (k ∈ E.map (·.1)))]) w := by
  obtain ⟨c, hb, _⟩ := h
  unfold Instr.lookup
  simp only [Sem.run_bind, run_underlying hT, Result.andThen, MapKept.run_getObj_map hb, Sem.run_pure, run_checkKey_u hK, run_findKey_u hK]
  by_cases hl : k ∈ E.map (·.1)
  · obtain ⟨j, h1, _⟩ := idxU_some hl
    rw [h1, decide_eq_true hl]; rfl
  · rw [idxU_none hl, decide_eq_false hl]; simp [hz, Result.andThen]
theorem run_lookU_nil (hT : P.underlying T = some (.map K V)) (hK : P.underlying K = some (.int .u32)) (hz : ∀ w, (zeroValue V).run P w = .ok (.agg #[]) w) {w : World} (k : Int) :
    (Instr.lookup T (.map none) (.int .u32 k) true).run P w = .ok (.tuple #[.agg #[], .bool false]) w := by
  unfold Instr.lookup
  have := run_findKey_u (P := P) hK k [] w
  simp only [ensU, List.map_nil] at this
  simp [Sem.run_bind, run_underlying hT, Result.andThen, run_checkKey_u hK, this, hz]
def setBk (w : World) (m : Nat) (o : Obj) : World := { w with heap := w.heap.setIfInBounds m o }
theorem setBk_out (w : World) (m : Nat) (o : Obj) : Out (fun k => k = m) w (setBk w m o) := ⟨rfl, rfl, rfl, by simp [setBk], fun k hk hn => by
  unfold setBk; simp [Array.getElem?_setIfInBounds_ne (fun e => hn e.symm)]⟩
theorem setBk_at {w : World} {m : Nat} (o : Obj) (h : m < w.heap.size) : (setBk w m o).heap[m]? = some o := by unfold setBk; simp [h]
/-- A new key. -/
theorem run_updU (hT : P.underlying T = some (.map K V)) (hK : P.underlying K = some (.int .u32)) {w : World} {m : Nat} {E : List EnU} (h : MapU w m E) (k : Int) (hn : k ∉ E.map (·.1)) :
    ∃ o b, (Instr.mapUpdate T (.map (some m)) (.int .u32 k) (.agg #[])).run P w = .ok () (setBk w m o) ∧ MapU (setBk w m o) m (E ++ [(k, b)]) := by
  have hlt := h.lt
  obtain ⟨c, hb, h1, h2, h3⟩ := h
  refine ⟨.map (ensU (E ++ [(k, c)])) (c + 1), c, ?_, c + 1, setBk_at _ hlt, ?_, ?_, ?_⟩
  · unfold Instr.mapUpdate
    simp only [Sem.run_bind, run_underlying hT, Result.andThen, MapKept.run_getObj_map hb, run_checkKey_u hK, run_findKey_u hK, idxU_none hn]
    simp only [Option.map_none, MapKept.run_setObj_map _ hb]
    unfold setBk ensU
    simp [enU]
  · rw [List.map_append, List.nodup_append]
    refine ⟨h1, by simp, fun a ha b hb e => ?_⟩
    simp only [List.map_cons, List.map_nil, List.mem_singleton] at hb
    exact hn (hb ▸ e ▸ ha)
  · rw [List.map_append, List.nodup_append]
    refine ⟨h2, by simp, fun a ha b hb e => ?_⟩
    simp only [List.map_cons, List.map_nil, List.mem_singleton] at hb
    obtain ⟨x, hx, rfl⟩ := List.mem_map.1 ha
    have := h3 x hx
    omega
  · intro x hx
    rcases List.mem_append.1 hx with hx | hx
    · have := h3 x hx; omega
    · simp at hx; subst hx; simp
theorem erase_mapU {α β : Type} (f : α → β) : ∀ (l : List α) (j : Nat), (l.map f).eraseIdx j = (l.eraseIdx j).map f
  | [], _ => rfl
  | _ :: _, 0 => rfl
  | x :: l, j + 1 => by simp [erase_mapU f l j]
theorem nodup_idxU {E : List EnU} (hn : (E.map (·.1)).Nodup) {j : Nat} (hj : j < E.length) : E.eraseIdx j = E.filter fun x => x.1 != (E.getD j (0, 0)).1 := by
  induction E generalizing j with
  | nil => simp at hj
  | cons x E ih =>
    rw [List.map_cons, List.nodup_cons] at hn
    cases j with
    | zero =>
      simp
      refine (List.filter_eq_self.2 fun y hy => ?_).symm
      rw [bne_iff_ne]
      intro e
      exact hn.1 (List.mem_map.2 ⟨y, hy, e⟩)
    | succ j =>
      simp at hj
      have := ih hn.2 hj
      rw [List.eraseIdx_cons_succ, List.getD_cons_succ, this, List.filter_cons_of_pos]
      rw [bne_iff_ne]
      intro e
      refine hn.1 (List.mem_map.2 ⟨E.getD j (0, 0), ?_, e.symm⟩)
      rw [List.getD_eq_getElem?_getD, List.getElem?_eq_getElem hj]
      exact List.getElem_mem hj
/-- A key that is there is struck. -/
theorem run_delU (hT : P.underlying T = some (.map K V)) (hK : P.underlying K = some (.int .u32)) (ty : TypeId) {w : World} {m : Nat} {E : List EnU} (h : MapU w m E) (k : Int) (hl : k ∈ E.map (·.1)) :
    ∃ o, (Builtin.delete_ #[T, K] ty #[.map (some m), .int .u32 k]).run P w = .ok (.tuple #[]) (setBk w m o) ∧ MapU (setBk w m o) m (E.filter fun x => x.1 != k) := by
  have hlt := h.lt
  obtain ⟨c, hb, h1, h2, h3⟩ := h
  obtain ⟨j, e1, e2, e4⟩ := idxU_some hl
  refine ⟨.map (ensU (E.filter fun x => x.1 != k)) c, ?_, c, setBk_at _ hlt, ?_, ?_, ?_⟩
  · have e5 : (ensU E).eraseIdxIfInBounds j = ensU (E.filter fun x => x.1 != k) := by
      rw [← e2, ← nodup_idxU h1 e4]
      apply Array.ext'
      simp [ensU, Array.eraseIdxIfInBounds, e4, erase_mapU]
    have e6 := run_findKey_u (P := P) hK k E w
    rw [e1] at e6
    have e7 : (setObj m (.map (ensU (E.filter fun x => x.1 != k)) c)).run P w = .ok () (setBk w m (.map (ensU (E.filter fun x => x.1 != k)) c)) := MapKept.run_setObj_map _ hb
    unfold Builtin.delete_
    simp [Sem.run_bind, run_underlying hT, Result.andThen, MapKept.run_getObj_map hb, run_checkKey_u hK, e6, e5, e7]
  · exact List.Nodup.sublist (List.Sublist.map _ List.filter_sublist) h1
  · exact List.Nodup.sublist (List.Sublist.map _ List.filter_sublist) h2
  · exact fun x hx => h3 x (List.mem_filter.1 hx).1
end
/-- An empty set is made. -/
theorem mapU_new (w : World) (c : Nat) : MapU (w.alloc (.map #[] c)) w.heap.size [] := ⟨c, heap_alloc_new w _, by simp, by simp, by simp⟩
end Go.Proofs.Ytccilbgbjikmpaa
namespace Go.Proofs.Ytccilbgbjikmpaa
/-! The mathematics of a track: C: the last number up to which all came (not yet cut to 32 bits), A: those beyond it. -/
namespace Ts
def M : Nat := 4294967296
/-- The numbers beyond C are distinct, beyond C + 1 and not far. -/
structure Ok (C : Nat) (A : List Nat) : Prop where
  nd : A.Nodup
  lo : ∀ x ∈ A, C + 1 < x
  hi : ∀ x ∈ A, x ≤ C + 512
/-- While all that is now in order is passed: from (C, A) to (D, B). -/
structure Run (C : Nat) (A : List Nat) (D : Nat) (B : List Nat) : Prop where
  le : C ≤ D
  all : ∀ x, C < x → x ≤ D → x ∈ A
  mem : ∀ x, x ∈ B ↔ x ∈ A ∧ D < x
  nd : B.Nodup
theorem Run.start {C : Nat} {A : List Nat} (h : A.Nodup) (hlo : ∀ x ∈ A, C < x) : Run C A C A := ⟨Nat.le_refl _, fun x h1 h2 => by omega, fun x => ⟨fun hx => ⟨hx, hlo x hx⟩, fun hx => hx.1⟩, h⟩
theorem Run.step {C D : Nat} {A B : List Nat} (h : Run C A D B) (hm : D + 1 ∈ B) : Run C A (D + 1) (B.filter fun x => x != D + 1) where
  le := by have := h.le; omega
  all x h1 h2 := by
    rcases Nat.lt_or_ge D x with h3 | h3
    · have e : x = D + 1 := by omega
      rw [e]; exact ((h.mem _).1 hm).1
    · exact h.all x h1 h3
  mem x := by
    rw [List.mem_filter, h.mem, bne_iff_ne]
    constructor
    · rintro ⟨⟨h1, h2⟩, h3⟩; exact ⟨h1, by omega⟩
    · rintro ⟨h1, h2⟩; exact ⟨⟨h1, by omega⟩, by omega⟩
  nd := h.nd.filter _
theorem Run.ok {C D : Nat} {A B : List Nat} (h : Run C A D B) (hn : D + 1 ∉ B) (hi : ∀ x ∈ A, x ≤ C + 512) : Ok D B where
  nd := h.nd
  lo x hx := by
    have h1 := ((h.mem x).1 hx).2
    rcases Nat.lt_or_ge (D + 1) x with h2 | h2
    · exact h2
    · have e : x = D + 1 := by omega
      exact absurd (e ▸ hx) hn
  hi x hx := by have := hi x ((h.mem x).1 hx).1; have := h.le; omega
theorem nodup_le : ∀ (n : Nat) {A : List Nat} {C : Nat}, A.Nodup → (∀ x ∈ A, C < x ∧ x ≤ C + n) → A.length ≤ n := by
  intro n
  induction n with
  | zero =>
    intro A C _ hb
    cases A with
    | nil => simp
    | cons x l => have := hb x (by simp); omega
  | succ n ih =>
    intro A C hn hb
    have h1 := ih (A := A.erase (C + n + 1)) (C := C) (hn.erase _) fun x hx => by
      have h2 := (hn.mem_erase_iff).1 hx
      have := hb x h2.2
      omega
    have h3 := List.length_erase (a := C + n + 1) (l := A)
    split at h3 <;> omega
theorem Ok.len {C : Nat} {A : List Nat} (h : Ok C A) : A.length ≤ 511 :=
  nodup_le 511 (C := C + 1) h.nd fun x hx => ⟨h.lo x hx, by have := h.hi x hx; omega⟩
theorem mod_inj {C x y : Nat} (hx : C < x ∧ x ≤ C + 512) (hy : C < y ∧ y ≤ C + 512) (h : x % M = y % M) : x = y := by unfold M at h; omega
end Ts
end Go.Proofs.Ytccilbgbjikmpaa
