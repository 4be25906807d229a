import Derived.Test.YtghldkjbmfbdfaaDoorSteady
import Derived.MapKept
import Derived.DeepKeys4
namespace Go.Proofs.YtghldkjbmfbdfaaDoor
open Go Go.RowKit
set_option linter.unusedVariables false
set_option linter.unusedSimpArgs false
/-! A map with keys that are structs, and any values, from the block up; of no program. -/
/-- How keys and values stand. -/
structure MapK (P : Program) (K : TypeId) {α β : Type} (kv : α → Value) (vv : β → Value) (okk : α → Prop) : Prop where
  law : WideMaps.KeyLaw P K
  key : ∀ a, okk a → ∃ l, keyOf P K (kv a) = some l
  inj : ∀ a b, kv a = kv b → a = b
section
variable {α β : Type}
/-- Block m is the map of E. -/
def MapS (kv : α → Value) (vv : β → Value) (okk : α → Prop) (w : World) (m : Nat) (E : List (α × β)) : Prop :=
  ∃ es clock, w.heap[m]? = some (.map es clock) ∧ es.toList.map (fun e => (e.key, e.val)) = E.map (fun x => (kv x.1, vv x.2)) ∧ (E.map (·.1)).Nodup ∧ ∀ x ∈ E, okk x.1
variable {kv : α → Value} {vv : β → Value} {okk : α → Prop}
theorem MapS.keep {w w' : World} {m : Nat} {E : List (α × β)} (h : MapS kv vv okk w m E) (hb : w'.heap[m]? = w.heap[m]?) : MapS kv vv okk w' m E := by
  obtain ⟨es, c, h1, h2⟩ := h
  exact ⟨es, c, by rw [hb]; exact h1, h2⟩
theorem MapS.lt {w : World} {m : Nat} {E : List (α × β)} (h : MapS kv vv okk w m E) : m < w.heap.size := by
  obtain ⟨es, c, h1, _⟩ := h
  exact lt_of_blk h1
theorem mapS_new (w : World) (c : Nat) : MapS kv vv okk (w.alloc (.map #[] c)) w.heap.size [] := ⟨#[], c, heap_alloc_new w _, rfl, by simp, by simp⟩
variable [DecidableEq α]
/-- What is kept under a key. -/
def mget (E : List (α × β)) (k : α) : Option β := (E.find? fun x => decide (x.1 = k)).map (·.2)
theorem mget_none {E : List (α × β)} {k : α} : mget E k = none ↔ k ∉ E.map (·.1) := by
  unfold mget
  rw [Option.map_eq_none_iff, List.find?_eq_none]
  constructor
  · intro h hm
    obtain ⟨x, hx, rfl⟩ := List.mem_map.1 hm
    exact h x hx (by simp)
  · intro h x hx e
    exact h (List.mem_map.2 ⟨x, hx, by simpa using e⟩)
theorem mget_at {E : List (α × β)} (hn : (E.map (·.1)).Nodup) {j : Nat} {x : α × β} (h : E[j]? = some x) : mget E x.1 = some x.2 := by
  unfold mget
  induction E generalizing j with
  | nil => simp at h
  | cons y E ih =>
    rw [List.map_cons, List.nodup_cons] at hn
    rw [List.find?_cons]
    cases j with
    | zero =>
      simp at h
      subst h
      simp
    | succ j =>
      have h2 : E[j]? = some x := by simpa using h
      have : ¬ y.1 = x.1 := fun e => hn.1 (List.mem_map.2 ⟨x, List.mem_of_getElem? h2, e.symm⟩)
      simp only [this, decide_false]
      exact ih hn.2 h2
theorem mget_mem {E : List (α × β)} {k : α} {v : β} (h : mget E k = some v) : (k, v) ∈ E := by
  unfold mget at h
  obtain ⟨x, hx, e⟩ := Option.map_eq_some_iff.1 h
  have h1 := List.mem_of_find?_eq_some hx
  have h2 := List.find?_some hx
  simp at h2
  rw [← h2, ← e]
  exact h1
theorem mget_of_mem {E : List (α × β)} (hn : (E.map (·.1)).Nodup) {x : α × β} (h : x ∈ E) : mget E x.1 = some x.2 := by
  obtain ⟨j, hj, e⟩ := List.getElem_of_mem h
  exact mget_at hn (j := j) (by rw [List.getElem?_eq_getElem hj, e])
variable {P : Program} {T K V : TypeId}
/-- Where a key is found. -/
theorem findS (hk : MapK P K kv vv okk) {w : World} {es : Array MapEntry} {E : List (α × β)} (he : es.toList.map (fun e => (e.key, e.val)) = E.map (fun x => (kv x.1, vv x.2))) (ho : ∀ x ∈ E, okk x.1) (hn : (E.map (·.1)).Nodup) {k : α} (hkk : okk k) :
    (mget E k = none ∧ (Instr.findKey K (kv k) es.toList).run P w = .ok none w) ∨ ∃ j v, mget E k = some v ∧ (Instr.findKey K (kv k) es.toList).run P w = .ok (some (j, vv v)) w ∧ E[j]? = some (k, v) := by
  obtain ⟨l, hl⟩ := hk.key k hkk
  have hlen : es.toList.length = E.length := by have := congrArg List.length he; simpa using this
  have hat : ∀ (j : Nat) (e : MapEntry), es.toList[j]? = some e → ∃ x : α × β, E[j]? = some x ∧ e.key = kv x.1 ∧ e.val = vv x.2 := fun j e h => by
    have h1 : (es.toList.map fun e => (e.key, e.val))[j]? = some (e.key, e.val) := by rw [List.getElem?_map, h]; rfl
    rw [he, List.getElem?_map] at h1
    obtain ⟨x, hx, h2⟩ := Option.map_eq_some_iff.1 h1
    exact ⟨x, hx, (congrArg (·.1) h2).symm, (congrArg (·.2) h2).symm⟩
  rcases hk.law.find w hl es.toList (fun e hm => by
    obtain ⟨j, hj, rfl⟩ := List.getElem_of_mem hm
    obtain ⟨x, hx, h1, _⟩ := hat j _ (List.getElem?_eq_getElem hj)
    rw [h1]
    exact hk.key x.1 (ho x (List.mem_of_getElem? hx))) with ⟨h1, h2⟩ | ⟨j, e, h1, h2, h3⟩
  · refine .inl ⟨mget_none.2 fun hm => ?_, h1⟩
    obtain ⟨x, hx, rfl⟩ := List.mem_map.1 hm
    obtain ⟨j, hj, rfl⟩ := List.getElem_of_mem hx
    have hje : j < es.toList.length := by omega
    obtain ⟨x, hx2, h5, _⟩ := hat j _ (List.getElem?_eq_getElem hje)
    rw [List.getElem?_eq_getElem hj] at hx2
    have := Option.some.inj hx2
    rw [this] at h2
    exact h2 _ (List.getElem_mem hje) h5
  · obtain ⟨x, hx, h4, h5⟩ := hat j e h2
    have h6 : x.1 = k := hk.inj _ _ (h4.symm.trans h3)
    refine .inr ⟨j, x.2, ?_, by rw [h1, h5], by rw [hx, ← h6]⟩
    rw [← h6]
    exact mget_at hn hx
theorem run_lookS (hk : MapK P K kv vv okk) (hT : P.underlying T = some (.map K V)) {z : Value} (hz : ∀ w, (zeroValue V).run P w = .ok z w) {w : World} {m : Nat} {E : List (α × β)} (h : MapS kv vv okk w m E) {k : α} (hkk : okk k) :
    (Instr.lookup T (.map (some m)) (kv k) true).run P w = .ok (.tuple #[((mget E k).map vv).getD z, .bool (mget E k).isSome]) w := by
  obtain ⟨es, c, hb, he, hn, ho⟩ := h
  obtain ⟨l, hl⟩ := hk.key k hkk
  unfold Instr.lookup
  simp only [Sem.run_bind, run_underlying hT, Result.andThen, MapKept.run_getObj_map hb, Sem.run_pure, hk.law.check _ _ hl]
  rcases findS hk (w := w) he ho hn hkk with ⟨h1, h2⟩ | ⟨j, v, h1, h2, h3⟩
  · rw [h1, h2]; simp [Result.andThen, hz]
  · rw [h1, h2]; simp
theorem run_lookS1 (hk : MapK P K kv vv okk) (hT : P.underlying T = some (.map K V)) {z : Value} (hz : ∀ w, (zeroValue V).run P w = .ok z w) {w : World} {m : Nat} {E : List (α × β)} (h : MapS kv vv okk w m E) {k : α} (hkk : okk k) :
    (Instr.lookup T (.map (some m)) (kv k) false).run P w = .ok (((mget E k).map vv).getD z) w := by
  obtain ⟨es, c, hb, he, hn, ho⟩ := h
  obtain ⟨l, hl⟩ := hk.key k hkk
  unfold Instr.lookup
  simp only [Sem.run_bind, run_underlying hT, Result.andThen, MapKept.run_getObj_map hb, Sem.run_pure, hk.law.check _ _ hl]
  rcases findS hk (w := w) he ho hn hkk with ⟨h1, h2⟩ | ⟨j, v, h1, h2, h3⟩
  · rw [h1, h2]; simp [Result.andThen, hz]
  · rw [h1, h2]; simp
def setBl (w : World) (m : Nat) (o : Obj) : World := { w with heap := w.heap.setIfInBounds m o }
theorem setBl_out (w : World) (m : Nat) (o : Obj) : Out (fun k => k = m) w (setBl w m o) := ⟨rfl, rfl, rfl, by simp [setBl], fun k hk hn => by
  unfold setBl; simp [Array.getElem?_setIfInBounds_ne (fun e => hn e.symm)]⟩
theorem setBl_at {w : World} {m : Nat} (o : Obj) (h : m < w.heap.size) : (setBl w m o).heap[m]? = some o := by unfold setBl; simp [h]
/-- A new key. -/
theorem run_updS (hk : MapK P K kv vv okk) (hT : P.underlying T = some (.map K V)) {w : World} {m : Nat} {E : List (α × β)} (h : MapS kv vv okk w m E) {k : α} (hkk : okk k) (hnew : mget E k = none) (v : β) :
    ∃ o, (Instr.mapUpdate T (.map (some m)) (kv k) (vv v)).run P w = .ok () (setBl w m o) ∧ MapS kv vv okk (setBl w m o) m (E ++ [(k, v)]) := by
  have hlt := h.lt
  obtain ⟨es, c, hb, he, hn, ho⟩ := h
  obtain ⟨l, hl⟩ := hk.key k hkk
  rcases findS hk (w := w) he ho hn hkk with ⟨h1, h2⟩ | ⟨j, v, h1, h2, h3⟩
  · refine ⟨.map (es.push { key := kv k, val := vv v, born := c }) (c + 1), ?_, _, _, setBl_at _ hlt, ?_, ?_, fun x hx => ?_⟩
    · unfold Instr.mapUpdate
      simp only [Sem.run_bind, run_underlying hT, Result.andThen, MapKept.run_getObj_map hb, hk.law.check _ _ hl, h2, MapKept.run_setObj_map _ hb]
      rfl
    · rw [Array.toList_push, List.map_append, he, List.map_append]; rfl
    · rw [List.map_append, List.nodup_append]
      refine ⟨hn, by simp, fun a ha b hb e => ?_⟩
      simp only [List.map_cons, List.map_nil, List.mem_singleton] at hb
      exact mget_none.1 hnew (hb ▸ e ▸ ha)
    · rcases List.mem_append.1 hx with hx | hx
      · exact ho x hx
      · rw [List.mem_singleton.1 hx]; exact hkk
  · rw [h1] at hnew; cases hnew
theorem erase_mapS {γ δ : Type} (f : γ → δ) : ∀ (l : List γ) (j : Nat), (l.map f).eraseIdx j = (l.eraseIdx j).map f
  | [], _ => rfl
  | _ :: _, 0 => rfl
  | x :: l, j + 1 => by simp [erase_mapS f l j]
theorem nodup_idxS {E : List (α × β)} (hn : (E.map (·.1)).Nodup) {j : Nat} {x : α × β} (h : E[j]? = some x) : E.eraseIdx j = E.filter fun y => decide (y.1 ≠ x.1) := by
  induction E generalizing j with
  | nil => simp at h
  | cons y E ih =>
    rw [List.map_cons, List.nodup_cons] at hn
    cases j with
    | zero =>
      simp at h
      subst h
      rw [List.eraseIdx_cons_zero, List.filter_cons_of_neg (by simp)]
      refine (List.filter_eq_self.2 fun z hz => ?_).symm
      have : ¬ z.1 = y.1 := fun e => hn.1 (List.mem_map.2 ⟨z, hz, e⟩)
      simp [this]
    | succ j =>
      have h2 : E[j]? = some x := by simpa using h
      have : ¬ y.1 = x.1 := fun e => hn.1 (List.mem_map.2 ⟨x, List.mem_of_getElem? h2, e.symm⟩)
      rw [List.eraseIdx_cons_succ, ih hn.2 h2, List.filter_cons_of_pos (by simp [this])]
/-- A key that is there is struck. -/
theorem run_delS (hk : MapK P K kv vv okk) (hT : P.underlying T = some (.map K V)) (ty : TypeId) {w : World} {m : Nat} {E : List (α × β)} (h : MapS kv vv okk w m E) {k : α} (hkk : okk k) {v : β} (hold : mget E k = some v) :
    ∃ o, (Builtin.delete_ #[T, K] ty #[.map (some m), kv k]).run P w = .ok (.tuple #[]) (setBl w m o) ∧ MapS kv vv okk (setBl w m o) m (E.filter fun y => decide (y.1 ≠ k)) := by
  have hlt := h.lt
  obtain ⟨es, c, hb, he, hn, ho⟩ := h
  obtain ⟨l, hl⟩ := hk.key k hkk
  rcases findS hk (w := w) he ho hn hkk with ⟨h1, h2⟩ | ⟨j, v, h1, h2, h3⟩
  · rw [h1] at hold; cases hold
  · have hlist : (es.eraseIdxIfInBounds j).toList = es.toList.eraseIdx j := by
      unfold Array.eraseIdxIfInBounds
      split
      · simp
      · rw [List.eraseIdx_of_length_le (by simpa using ‹¬ j < es.size›)]
    refine ⟨.map (es.eraseIdxIfInBounds j) c, ?_, _, _, setBl_at _ hlt, ?_, ?_, fun x hx => ho x (List.mem_filter.1 hx).1⟩
    · unfold Builtin.delete_
      simp [Sem.run_bind, run_underlying hT, Result.andThen, MapKept.run_getObj_map hb, hk.law.check _ _ hl, h2, MapKept.run_setObj_map _ hb]
      rfl
    · have := nodup_idxS hn h3
      simp only at this
      rw [hlist, ← erase_mapS, he, erase_mapS, this]
    · exact List.Nodup.sublist (List.Sublist.map _ List.filter_sublist) hn
theorem run_lookS_nil (hk : MapK P K kv vv okk) (hT : P.underlying T = some (.map K V)) {z : Value} (hz : ∀ w, (zeroValue V).run P w = .ok z w) {w : World} {k : α} (hkk : okk k) :
    (Instr.lookup T (.map none) (kv k) true).run P w = .ok (.tuple #[z, .bool false]) w := by
  obtain ⟨l, hl⟩ := hk.key k hkk
  have := findS hk (w := w) (es := #[]) (E := []) rfl (by simp) (by simp) hkk
  rcases this with ⟨h1, h2⟩ | ⟨j, v, h1, h2, h3⟩
  · unfold Instr.lookup
    simp [Sem.run_bind, run_underlying hT, Result.andThen, hk.law.check _ _ hl, show (Instr.findKey K (kv k) []).run P w = _ from h2, hz]
  · simp at h3
end
end Go.Proofs.YtghldkjbmfbdfaaDoor
