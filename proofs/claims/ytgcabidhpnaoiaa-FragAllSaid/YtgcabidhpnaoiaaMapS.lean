import Derived.Test.YtgcabidhpnaoiaaSteady
import Derived.MapKept
import Derived.DeepKeys4
namespace Go.Proofs.Ytgcabidhpnaoiaa
open Go Go.RowKit
set_option linter.unusedVariables false
set_option linter.unusedSimpArgs false
/-! A map with keys that are structs, and any values, from the block up; of no program. -/
/-- How keys and values stand. -/
structure MapK (P : Program) (K : TypeId) {α β : Type} (kv : α → Value) (vv : β → Value) (okk : α → Prop) : Prop where
  law : WideMaps.KeyLaw P K
  key : ∀ a, okk a → ∃ l, keyOf P K (kv a) = some l
  inj : ∀ a b, kv a = kv b → a = b
section
variable {α β : Type}
/-- Block m is the map of E. -/
def MapS (kv : α → Value) (vv : β → Value) (okk : α → Prop) (w : World) (m : Nat) (E : List (α × β)) : Prop :=
  ∃ es clock, w.heap[m]? = some (.map es clock) ∧ es.toList.map (fun e => (e.key, e.val)) = E.map (fun x => (kv x.1, vv x.2)) ∧ (E.map (·.1)).Nodup ∧ ∀ x ∈ E, okk x.1
variable {kv : α → Value} {vv : β → Value} {okk : α → Prop}
theorem MapS.keep {w w' : World} {m : Nat} {E : List (α × β)} (h : MapS kv vv okk w m E) (hb : w'.heap[m]? = w.heap[m]?) : MapS kv vv okk w' m E := by
  obtain ⟨es, c, h1, h2⟩ := h
  exact ⟨es, c, by rw [hb]; exact h1, h2⟩
theorem MapS.lt {w : World} {m : Nat} {E : List (α × β)} (h : MapS kv vv okk w m E) : m < w.heap.size := by
  obtain ⟨es, c, h1, _⟩ := h
  exact lt_of_blk h1
theorem mapS_new (w : World) (c : Nat) : MapS kv vv okk (w.alloc (.map #[] c)) w.heap.size [] := ⟨#[], c, heap_alloc_new w _, rfl, by simp, by simp⟩
variable [DecidableEq α]
/-- What is kept under a key. -/
def mget (E : List (α × β)) (k : α) : Option β := (E.find? fun x => decide (x.1 = k)).map (·.2)
theorem mget_none {E : List (α × β)} {k : α} : mget E k = none ↔ k ∉ E.map (·.1) := by
  unfold mget
  rw [Option.map_eq_none_iff, List.find?_eq_none]
  constructor
  · intro h hm
    obtain ⟨x, hx, rfl⟩ := List.mem_map.1 hm
    exact h x hx (by simp)
  · intro h x hx e
    exact h (List.mem_map.2 ⟨x, hx, by simpa using e⟩)
theorem mget_at {E : List (α × β)} (hn : (E.map (·.1)).Nodup) {j : Nat} {x : α × β} (h : E[j]? = some x) : mget E x.1 = some x.2 := by
  unfold mget
  induction E generalizing j with
  | nil => simp at h
  | cons y E ih =>
    rw [List.map_cons, List.nodup_cons] at hn
    rw [List.find?_cons]
    cases j with
    | zero =>
      simp at h
      subst h
      simp
    | succ j =>
      have h2 : E[j]? = some x := by simpa using h
      have : ¬ y.1 = x.1 := fun e => hn.1 (List.mem_map.2 ⟨x, List.mem_of_getElem? h2, e.symm⟩)
      simp only [this, decide_false]
      exact ih hn.2 h2
theorem mget_mem {E : List (α × β)} {k : α} {v : β} (h : mget E k = some v) : (k, v) ∈ E := by
  unfold mget at h
  obtain ⟨x, hx, e⟩ := Option.map_eq_some_iff.1 h
  have h1 := List.mem_of_find?_eq_some hx
  have h2 := List.find?_some hx
  simp at h2
  rw [← h2, ← e]
  exact h1
theorem mget_of_mem {E : List (α × β)} (hn : (E.map (·.1)).Nodup) {x : α × β} (h : x ∈ E) : mget E x.1 = some x.2 := by
  obtain ⟨j, hj, e⟩ := List.getElem_of_mem h
  exact mget_at hn (j := j) (by rw [List.getElem?_eq_getElem hj, e])
variable {P : Program} {T K V : TypeId}
/-- Where a key is found. -/
theorem findS (hk : MapK P K kv vv okk) {w : World} {es : Array MapEntry} {E : List (α × β)} (he : es.toList.map (fun e => (e.key, e.val)) = E.map (fun x => (kv x.1, vv x.2))) (ho : ∀ x ∈ E, okk x.1) (hn : (E.map (·.1)).Nodup) {k : α} (hkk : okk k) :
    (mget E k = none ∧ (Instr.findKey K (kv k) es.toList).run P w = .ok none w) ∨ ∃ j v, mget E k = some v ∧ (Instr.findKey K (kv k) es.toList).run P w = .ok (some (j, vv v)) w ∧ E[j]? = some (k, v) := by
  obtain ⟨l, hl⟩ := hk.key k hkk
  have hlen : es.toList.length = E.length := by have := congrArg List.length he; simpa using this
  have hat : ∀ (j : Nat) (e : MapEntry), es.toList[j]? = some e → ∃ x : α × β, E[j]? = some x ∧ e.key = kv x.1 ∧ e.val = vv x.2 := fun j e h => by
    have h1 : (es.toList.map fun e => (e.key, e.val))[j]? = some (e.key, e.val) := by rw [List.getElem?_map, h]; rfl
    rw [he, List.getElem?_map] at h1
    obtain ⟨x, hx, h2⟩ := Option.map_eq_some_iff.1 h1
    exact ⟨x, hx, (congrArg (·.1) h2).symm, (congrArg (·.2) h2).symm⟩
  rcases hk.law.find w hl es.toList (fun e hm => by
    obtain ⟨j, hj, rfl⟩ := List.getElem_of_mem hm
    obtain ⟨x, hx, h1, _⟩ := hat j _ (List.getElem?_eq_getElem hj)
    rw [h1]
    exact hk.key x.1 (ho x (List.mem_of_getElem? hx))) with ⟨h1, h2⟩ | ⟨j, e, h1, h2, h3⟩
  · refine .inl ⟨mget_none.2 fun hm => ?_, h1⟩
    obtain ⟨x, hx, rfl⟩ := List.mem_map.1 hm
    obtain ⟨j, hj, rfl⟩ := List.getElem_of_mem hx
    have hje : j < es.toList.length := by omega
    obtain ⟨x, hx2, h5, _⟩ := hat j _ (List.getElem?_eq_getElem hje)
    rw [List.getElem?_eq_getElem hj] at hx2
    have := Option.some.inj hx2
    rw [this] at h2
    exact h2 _ (List.getElem_mem hje) h5
  · obtain ⟨x, hx, h4, h5⟩ := hat j e h2
    have h6 : x.1 = k := hk.inj _ _ (h4.symm.trans h3)
    refine .inr ⟨j, x.2, ?_, by rw [h1, h5], by rw [hx, ← h6]⟩
    rw [← h6]
    exact mget_at hn hx
theorem run_lookS (hk : MapK P K kv vv okk) (hT : P.underlying T = some (.map K V)) {z : Value} (hz : ∀ w, (zeroValue V).run P w = .ok z w) {w : World} {m : Nat} {E : List (α × β)} (h : MapS kv vv okk w m E) {k : α} (hkk : okk k) :
    (Instr.lookup T (.map (some m)) (kv k) true).run P w = .ok (.tuple #[((mget E k).map vv).getD z, .bool (mget E k).isSome]) w := by
  obtain ⟨es, c, hb, he, hn, ho⟩ := h
  obtain ⟨l, hl⟩ := hk.key k hkk
  unfold Instr.lookup
  simp only [Sem.run_bind, run_underlying hT, Result.andThen, MapKept.run_getObj_map hb, Sem.run_pure, hk.law.check _ _ hl]
  rcases findS hk (w := w) he ho hn hkk with ⟨h1, h2⟩ | ⟨j, v, h1, h2, h3⟩
  · rw [h1, h2]; simp [Result.andThen, hz]
  · rw [h1, h2]; simp
theorem run_lookS1 (hk : MapK P K kv vv okk) (hT : P.underlying T = some (.map K V)) {z : Value} (hz : ∀ w, (zeroValue V).run P w = .ok z w) {w : World} {m : Nat} {E : List (α × β)} (h : MapS kv vv okk w m E) {k : α} (hkk : okk k) :
    (Instr.lookup T (.map (some m)) (kv k) false).run P w = .ok (((mget E k).map vv).getD z) w := by
  obtain ⟨es, c, hb, he, hn, ho⟩ := h
  obtain ⟨l, hl⟩ := hk.key k hkk
  unfold Instr.lookup
  simp only [Sem.run_bind, run_underlying hT, Result.andThen, MapKept.run_getObj_map hb, Sem.run_pure, hk.law.check _ _ hl]
  rcases findS hk (w := w) he ho hn hkk with ⟨h1, h2⟩ | ⟨j, v, h1, h2, h3⟩
  · rw [h1, h2]; simp [Result.andThen, hz]
  · rw [h1, h2]; simp
def setBl (w : World) (m : Nat) (o : Obj) : World := { w with heap := w.heap.setIfInBounds m o }
theorem setBl_out (w : World) (m : Nat) (o : Obj) : Out (fun k => k = m) w (setBl w m o) := ⟨rfl, rfl, rfl, by simp [setBl], fun k hk hn => by
  unfold setBl; simp [Array.getElem?_setIfInBounds_ne (fun e => hn e.symm)]⟩
theorem setBl_at {w : World} {m : Nat} (o : Obj) (h : m < w.heap.size) : (setBl w m o).heap[m]? = some o := by unfold setBl; simp [h]
/-- A new key. -/
theorem run_updS (hk : MapK P K kv vv okk) (hT : P.underlying T = some (.map K V)) {w : World} {m : Nat} {E : List (α × β)} (h : MapS kv vv okk w m E) {k : α} (hkk : okk k) (hnew : mget E k = none) (v : β) :
    ∃ o, (Instr.mapUpdate T (.map (some m)) (kv k) (vv v)).run P w = .ok () (setBl w m o) ∧ MapS kv vv okk (setBl w m o) m (E ++ [(k, v)]) := by
  have hlt := h.lt
  obtain ⟨es, c, hb, he, hn, ho⟩ := h
  obtain ⟨l, hl⟩ := hk.key k hkk
  rcases findS hk (w := w) he ho hn hkk with ⟨h1, h2⟩ | ⟨j, v, h1, h2, h3⟩
  · refine ⟨.map (es.push { key := kv k, val := vv v, born := c }) (c + 1), ?_, _, _, setBl_at _ hlt, ?_, ?_, fun x hx => ?_⟩
    · unfold Instr.mapUpdate
      simp only [Sem.run_bind, run_underlying hT, Result.andThen, MapKept.run_getObj_map hb, hk.law.check _ _ hl, h2, MapKept.run_setObj_map _ hb]
      rfl
    · rw [Array.toList_push, List.map_append, he, List.map_append]; rfl
    · rw [List.map_append, List.nodup_append]
      refine ⟨hn, by simp, fun a ha b hb e => ?_⟩
      simp only [List.map_cons, List.map_nil, List.mem_singleton] at hb
      exact mget_none.1 hnew (hb ▸ e ▸ ha)
    · rcases List.mem_append.1 hx with hx | hx
      · exact ho x hx
      · rw [List.mem_singleton.1 hx]; exact hkk
  · rw [h1] at hnew; cases hnew
theorem erase_mapS {γ δ : Type} (f : γ → δ) : ∀ (l : List γ) (j : Nat), (l.map f).eraseIdx j = (l.eraseIdx j).map f
  | [], _ => rfl
  | _ :: _, 0 => rfl
  | x :: l, j + 1 => by simp [erase_mapS f l j]
theorem nodup_idxS {E : List (α × β)} (hn : (E.map (·.1)).Nodup) {j : Nat} {x : α × β} (h : E[j]? = some x) : E.eraseIdx j = E.filter fun y => decide (y.1 ≠ x.1) := by
  induction E generalizing j with
  | nil => simp at h
  | cons y E ih =>
    rw [List.map_cons, List.nodup_cons] at hn
    cases j with
    | zero =>
      simp at h
      subst h
      rw [List.eraseIdx_cons_zero, List.filter_cons_of_neg (by simp)]
      refine (List.filter_eq_self.2 fun z hz => ?_).symm
      have : ¬ z.1 = y.1 := fun e => hn.1 (List.mem_map.2 ⟨z, hz, e⟩)
      simp [this]
    | succ j =>
      have h2 : E[j]? = some x := by simpa using h
      have : ¬ y.1 = x.1 := fun e => hn.1 (List.mem_map.2 ⟨x, List.mem_of_getElem? h2, e.symm⟩)
      rw [List.eraseIdx_cons_succ, ih hn.2 h2, List.filter_cons_of_pos (by simp [this])]
/-- A key that is there is struck. -/
theorem run_delS (hk : MapK P K kv vv okk) (hT : P.underlying T = some (.map K V)) (ty : TypeId) {w : World} {m : Nat} {E : List (α × β)} (h : MapS kv vv okk w m E) {k : α} (hkk : okk k) {v : β} (hold : mget E k = some v) :
    ∃ o, (Builtin.delete_ #[T, K] ty #[.map (some m), kv k]).run P w = .ok (.tuple #[]) (setBl w m o) ∧ MapS kv vv okk (setBl w m o) m (E.filter fun y => decide (y.1 ≠ k)) := by
  have hlt := h.lt
  obtain ⟨es, c, hb, he, hn, ho⟩ := h
  obtain ⟨l, hl⟩ := hk.key k hkk
  rcases findS hk (w := w) he ho hn hkk with ⟨h1, h2⟩ | ⟨j, v, h1, h2, h3⟩
  · rw [h1] at hold; cases hold
  · have hlist : (es.eraseIdxIfInBounds j).toList = es.toList.eraseIdx j := by
      unfold Array.eraseIdxIfInBounds
      split
      · simp
      · rw [List.eraseIdx_of_length_le (by simpa using ‹¬ j < es.size›)]
    refine ⟨.map (es.eraseIdxIfInBounds j) c, ?_, _, _, setBl_at _ hlt, ?_, ?_, fun x hx => ho x (List.mem_filter.1 hx).1⟩
    · unfold Builtin.delete_
      simp [Sem.run_bind, run_underlying hT, Result.andThen, MapKept.run_getObj_map hb, hk.law.check _ _ hl, h2, MapKept.run_setObj_map _ hb]
      rfl
    · have := nodup_idxS hn h3
      simp only at this
      rw [hlist, ← erase_mapS, he, erase_mapS, this]
    · exact List.Nodup.sublist (List.Sublist.map _ List.filter_sublist) hn
theorem run_lookS_nil (hk : MapK P K kv vv okk) (hT : P.underlying T = some (.map K V)) {z : Value} (hz : ∀ w, (zeroValue V).run P w = .ok z w) {w : World} {k : α} (hkk : okk k) :
    (Instr.lookup T (.map none) (kv k) true).run P w = .ok (.tuple #[z, .bool false]) w := by
  obtain ⟨l, hl⟩ := hk.key k hkk
  have := findS hk (w := w) (es := #[]) (E := []) rfl (by simp) (by simp) hkk
  rcases this with ⟨h1, h2⟩ | ⟨j, v, h1, h2, h3⟩
  · unfold Instr.lookup
    simp [Sem.run_bind, run_underlying hT, Result.andThen, hk.law.check _ _ hl, show (Instr.findKey K (kv k) []).run P w = _ from h2, hz]
  · simp at h3
end
end Go.Proofs.Ytgcabidhpnaoiaa
namespace Go.Proofs.Ytgcabidhpnaoiaa
open Go Go.RowKit
set_option linter.unusedVariables false
/-! A map with keys of kind u32 and empty values: a set of numbers. -/
/-- An entry: a key, a stamp. -/
abbrev EnU := Int × Nat
def enU (x : EnU) : MapEntry := { key := .int .u32 x.1, val := .agg #[], born := x.2 }
def ensU (E : List EnU) : Array MapEntry := (E.map enU).toArray
/-- Block m is the set of E. -/
def MapU (w : World) (m : Nat) (E : List EnU) : Prop := ∃ clock, w.heap[m]? = some (.map (ensU E) clock) ∧ (E.map (·.1)).Nodup ∧ (E.map (·.2)).Nodup ∧ ∀ x ∈ E, x.2 < clock
theorem MapU.keep {w w' : World} {m : Nat} {E : List EnU} (h : MapU w m E) (hb : w'.heap[m]? = w.heap[m]?) : MapU w' m E := by
  obtain ⟨c, h1, h2⟩ := h
  exact ⟨c, by rw [hb]; exact h1, h2⟩
theorem MapU.lt {w : World} {m : Nat} {E : List EnU} (h : MapU w m E) : m < w.heap.size := by
  obtain ⟨c, h1, _⟩ := h
  exact lt_of_blk h1
theorem findNow_u (k : Int) : ∀ (E : List EnU) (i : Nat), Instr.findNow (.int .u32) (.int .u32 k) (E.map enU) i = some ((E.findIdx? fun x => x.1 == k).map fun j => (i + j, .agg #[])) := by
  intro E
  induction E with
  | nil => intro i; rfl
  | cons x E ih =>
    intro i
    rw [List.map_cons]
    unfold Instr.findNow
    by_cases e : k = x.1
    · subst e; simp [enU, Instr.sameNow, List.findIdx?_cons]
    · have e' : (x.1 == k) = false := by simpa using fun h => e h.symm
      have e2 : (k == x.1) = false := by simpa using e
      simp only [enU, Instr.sameNow, if_true, e2, List.findIdx?_cons, e']
      rw [ih]
      cases E.findIdx? fun x => x.1 == k <;> simp [Nat.add_assoc, Nat.add_comm 1]
theorem toList_ensU (E : List EnU) : (ensU E).toList = E.map enU := by simp [ensU]
theorem idxU_none {E : List EnU} {k : Int} (h : k ∉ E.map (·.1)) : (E.findIdx? fun x => x.1 == k) = none := by
  rw [List.findIdx?_eq_none_iff]
  intro x hx
  rw [beq_eq_false_iff_ne]
  exact fun e => h (List.mem_map.2 ⟨x, hx, e⟩)
theorem idxU_some {E : List EnU} {k : Int} (h : k ∈ E.map (·.1)) : ∃ j, (E.findIdx? fun x => x.1 == k) = some j ∧ (E.getD j (0, 0)).1 = k ∧ j < E.length := by
  induction E with
  | nil => cases h
  | cons x E ih =>
    rw [List.findIdx?_cons]
    by_cases e : x.1 = k
    · exact ⟨0, by simp [e], e, by simp⟩
    · rw [show (x.1 == k) = false by simpa using e]
      rw [List.map_cons, List.mem_cons] at h
      obtain ⟨j, h1, h2, h3⟩ := ih (h.resolve_left (fun e2 => e e2.symm))
      exact ⟨j + 1, by simp [h1], h2, by simpa using h3⟩
section
variable {P : Program} {T K V : TypeId}
theorem run_findKey_u (hK : P.underlying K = some (.int .u32)) (k : Int) (E : List EnU) (w : World) :
    (Instr.findKey K (.int .u32 k) (ensU E).toList).run P w = .ok ((E.findIdx? fun x => x.1 == k).map fun j => (j, .agg #[])) w := by
  rw [toList_ensU]
  refine MapKept.run_findKey hK ?_
  rw [findNow_u]
  simp
theorem run_checkKey_u (hK : P.underlying K = some (.int .u32)) (k : Int) (e : Bool) (w : World) : (Instr.checkKey e 10000 K (.int .u32 k)).run P w = .ok () w := by
  unfold Instr.checkKey
  simp [Result.andThen, run_underlying hK]
theorem run_lookU (hT : P.underlying T = some (.map K V)) (hK : P.underlying K = some (.int .u32)) (hz : ∀ w, (zeroValue V).run P w = .ok (.agg #[]) w) {w : World} {m : Nat} {E : List EnU} (h : MapU w m E) (k : Int) :
    (Instr.lookup T (.map (some m)) (.int .u32 k) true).run P w = .ok (.tuple #[.agg #[], .bool (decide (k ∈ E.map (·.1)))]) w := by
  obtain ⟨c, hb, _⟩ := h
  unfold Instr.lookup
  simp only [Sem.run_bind, run_underlying hT, Result.andThen, MapKept.run_getObj_map hb, Sem.run_pure, run_checkKey_u hK, run_findKey_u hK]
  by_cases hl : k ∈ E.map (·.1)
  · obtain ⟨j, h1, _⟩ := idxU_some hl
    rw [h1, decide_eq_true hl]; rfl
  · rw [idxU_none hl, decide_eq_false hl]; simp [hz, Result.andThen]
theorem run_lookU_nil (hT : P.underlying T = some (.map K V)) (hK : P.underlying K = some (.int .u32)) (hz : ∀ w, (zeroValue V).run P w = .ok (.agg #[]) w) {w : World} (k : Int) :
    (Instr.lookup T (.map none) (.int .u32 k) true).run P w = .ok (.tuple #[.agg #[], .bool false]) w := by
  unfold Instr.lookup
  have := run_findKey_u (P := P) hK k [] w
  simp only [ensU, List.map_nil] at this
  simp [Sem.run_bind, run_underlying hT, Result.andThen, run_checkKey_u hK, this, hz]
def setBk (w : World) (m : Nat) (o : Obj) : World := { w with heap := w.heap.setIfInBounds m o }
theorem setBk_out (w : World) (m : Nat) (o : Obj) : Out (fun k => k = m) w (setBk w m o) := ⟨rfl, rfl, rfl, by simp [setBk], fun k hk hn => by
  unfold setBk; simp [Array.getElem?_setIfInBounds_ne (fun e => hn e.symm)]⟩
theorem setBk_at {w : World} {m : Nat} (o : Obj) (h : m < w.heap.size) : (setBk w m o).heap[m]? = some o := by unfold setBk; simp [h]
/-- A new key. -/
theorem run_updU (hT : P.underlying T = some (.map K V)) (hK : P.underlying K = some (.int .u32)) {w : World} {m : Nat} {E : List EnU} (h : MapU w m E) (k : Int) (hn : k ∉ E.map (·.1)) :
    ∃ o b, (Instr.mapUpdate T (.map (some m)) (.int .u32 k) (.agg #[])).run P w = .ok () (setBk w m o) ∧ MapU (setBk w m o) m (E ++ [(k, b)]) := by
  have hlt := h.lt
  obtain ⟨c, hb, h1, h2, h3⟩ := h
  refine ⟨.map (ensU (E ++ [(k, c)])) (c + 1), c, ?_, c + 1, setBk_at _ hlt, ?_, ?_, ?_⟩
  · unfold Instr.mapUpdate
    simp only [Sem.run_bind, run_underlying hT, Result.andThen, MapKept.run_getObj_map hb, run_checkKey_u hK, run_findKey_u hK, idxU_none hn]
    simp only [Option.map_none, MapKept.run_setObj_map _ hb]
    unfold setBk ensU
    simp [enU]
  · rw [List.map_append, List.nodup_append]
    refine ⟨h1, by simp, fun a ha b hb e => ?_⟩
    simp only [List.map_cons, List.map_nil, List.mem_singleton] at hb
    exact hn (hb ▸ e ▸ ha)
  · rw [List.map_append, List.nodup_append]
    refine ⟨h2, by simp, fun a ha b hb e => ?_⟩
    simp only [List.map_cons, List.map_nil, List.mem_singleton] at hb
    obtain ⟨x, hx, rfl⟩ := List.mem_map.1 ha
    have := h3 x hx
    omega
  · intro x hx
    rcases List.mem_append.1 hx with hx | hx
    · have := h3 x hx; omega
    · simp at hx; subst hx; simp
theorem erase_mapU {α β : Type} (f : α → β) : ∀ (l : List α) (j : Nat), (l.map f).eraseIdx j = (l.eraseIdx j).map f
  | [], _ => rfl
  | _ :: _, 0 => rfl
  | x :: l, j + 1 => by simp [erase_mapU f l j]
theorem nodup_idxU {E : List EnU} (hn : (E.map (·.1)).Nodup) {j : Nat} (hj : j < E.length) : E.eraseIdx j = E.filter fun x => x.1 != (E.getD j (0, 0)).1 := by
  induction E generalizing j with
  | nil => simp at hj
  | cons x E ih =>
    rw [List.map_cons, List.nodup_cons] at hn
    cases j with
    | zero =>
      simp
      refine (List.filter_eq_self.2 fun y hy => ?_).symm
      rw [bne_iff_ne]
      intro e
      exact hn.1 (List.mem_map.2 ⟨y, hy, e⟩)
    | succ j =>
      simp at hj
      have := ih hn.2 hj
      rw [List.eraseIdx_cons_succ, List.getD_cons_succ, this, List.filter_cons_of_pos]
      rw [bne_iff_ne]
      intro e
      refine hn.1 (List.mem_map.2 ⟨E.getD j (0, 0), ?_, e.symm⟩)
      rw [List.getD_eq_getElem?_getD, List.getElem?_eq_getElem hj]
      exact List.getElem_mem hj
/-- A key that is there is struck. -/
theorem run_delU (hT : P.underlying T = some (.map K V)) (hK : P.underlying K = some (.int .u32)) (ty : TypeId) {w : World} {m : Nat} {E : List EnU} (h : MapU w m E) (k : Int) (hl : k ∈ E.map (·.1)) :
    ∃ o, (Builtin.delete_ #[T, K] ty #[.map (some m), .int .u32 k]).run P w = .ok (.tuple #[]) (setBk w m o) ∧ MapU (setBk w m o) m (E.filter fun x => x.1 != k) := by
  have hlt := h.lt
  obtain ⟨c, hb, h1, h2, h3⟩ := h
  obtain ⟨j, e1, e2, e4⟩ := idxU_some hl
  refine ⟨.map (ensU (E.filter fun x => x.1 != k)) c, ?_, c, setBk_at _ hlt, ?_, ?_, ?_⟩
  · have e5 : (ensU E).eraseIdxIfInBounds j = ensU (E.filter fun x => x.1 != k) := by
      rw [← e2, ← nodup_idxU h1 e4]
      apply Array.ext'
      simp [ensU, Array.eraseIdxIfInBounds, e4, erase_mapU]
    have e6 := run_findKey_u (P := P) hK k E w
    rw [e1] at e6
    have e7 : (setObj m (.map (ensU (E.filter fun x => x.1 != k)) c)).run P w = .ok () (setBk w m (.map (ensU (E.filter fun x => x.1 != k)) c)) := MapKept.run_setObj_map _ hb
    unfold Builtin.delete_
    simp [Sem.run_bind, run_underlying hT, Result.andThen, MapKept.run_getObj_map hb, run_checkKey_u hK, e6, e5, e7]
  · exact List.Nodup.sublist (List.Sublist.map _ List.filter_sublist) h1
  · exact List.Nodup.sublist (List.Sublist.map _ List.filter_sublist) h2
  · exact fun x hx => h3 x (List.mem_filter.1 hx).1
end
/-- An empty set is made. -/
theorem mapU_new (w : World) (c : Nat) : MapU (w.alloc (.map #[] c)) w.heap.size [] := ⟨c, heap_alloc_new w _, by simp, by simp, by simp⟩
end Go.Proofs.Ytgcabidhpnaoiaa
