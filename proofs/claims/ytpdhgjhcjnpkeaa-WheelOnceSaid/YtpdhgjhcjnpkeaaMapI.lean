import Derived.Test.YtpdhgjhcjnpkeaaFoot
import Derived.MapKept
namespace Go.Proofs.Ytpdhgjhcjnpkeaa
open Go Go.RowKit
set_option linter.unusedVariables false
/-- A map from int to int: its entries, each a key, a value, a stamp. -/
abbrev Ent := Int × Int × Nat
def entOf (x : Ent) : MapEntry := { key := .int .i64 x.1, val := .int .i64 x.2.1, born := x.2.2 }
def ents (E : List Ent) : Array MapEntry := (E.map entOf).toArray
/-- Block m is the map of E. -/
def MapI (w : World) (m : Nat) (E : List Ent) : Prop := ∃ clock, w.heap[m]? = some (.map (ents E) clock) ∧ (E.map (·.1)).Nodup ∧ (E.map (·.2.2)).Nodup ∧ ∀ x ∈ E, x.2.2 < clock
theorem MapI.keep {w w' : World} {m : Nat} {E : List Ent} (h : MapI w m E) (hb : w'.heap[m]? = w.heap[m]?) : MapI w' m E := by
  obtain ⟨c, h1, h2⟩ := h
  exact ⟨c, by rw [hb]; exact h1, h2⟩
theorem MapI.lt {w : World} {m : Nat} {E : List Ent} (h : MapI w m E) : m < w.heap.size := by
  obtain ⟨c, h1, _⟩ := h
  exact (Array.getElem?_eq_some_iff.1 h1).1
/-- What lies at a key. -/
def lookE (E : List Ent) (k : Int) : Option Int := (E.find? fun x => x.1 == k).map (·.2.1)
theorem lookE_mem {E : List Ent} (hn : (E.map (·.1)).Nodup) {k v : Int} {b : Nat} (h : (k, v, b) ∈ E) : lookE E k = some v := by
  induction E with
  | nil => cases h
  | cons x E ih =>
    rw [List.map_cons, List.nodup_cons] at hn
    unfold lookE
    rw [List.find?_cons]
    by_cases e : x.1 = k
    · rcases List.mem_cons.1 h with h | h
      · subst h; simp
      · exact absurd (List.mem_map.2 ⟨_, h, rfl⟩) (by rw [← e] at *; exact hn.1)
    · rw [show (x.1 == k) = false by simpa using e]
      rcases List.mem_cons.1 h with h | h
      · subst h; exact absurd rfl e
      · exact ih hn.2 h
theorem lookE_none {E : List Ent} {k : Int} : lookE E k = none ↔ ∀ x ∈ E, x.1 ≠ k := by
  unfold lookE
  simp
theorem lookE_some {E : List Ent} {k v : Int} (h : lookE E k = some v) : ∃ b, (k, v, b) ∈ E := by
  unfold lookE at h
  cases hf : E.find? fun x => x.1 == k with
  | none => rw [hf] at h; cases h
  | some x =>
    rw [hf] at h
    have h1 := List.find?_some hf
    have h2 := List.mem_of_find?_eq_some hf
    simp at h1 h
    exact ⟨x.2.2, by rw [← h1, ← h]; exact h2⟩
theorem findNow_int (k : Int) : ∀ (E : List Ent) (i : Nat), Instr.findNow (.int .i64) (.int .i64 k) (E.map entOf) i = some ((E.findIdx? fun x => x.1 == k).map fun j => (i + j, .int .i64 ((E.getD j (0, 0, 0)).2.1))) := by
  intro E
  induction E with
  | nil => intro i; rfl
  | cons x E ih =>
    intro i
    rw [List.map_cons]
    unfold Instr.findNow
    by_cases e : k = x.1
    · subst e; simp [entOf, Instr.sameNow, List.findIdx?_cons]
    · have e' : (x.1 == k) = false := by simpa using fun h => e h.symm
      have e2 : (k == x.1) = false := by simpa using e
      simp only [entOf, Instr.sameNow, if_true, e2, List.findIdx?_cons, e']
      rw [ih]
      cases E.findIdx? fun x => x.1 == k <;> simp [Nat.add_assoc, Nat.add_comm 1]
theorem toList_ents (E : List Ent) : (ents E).toList = E.map entOf := by simp [ents]
section
variable {P : Program} {T K V : TypeId}
theorem run_findKey_int (hK : P.underlying K = some (.int .i64)) (k : Int) (E : List Ent) (w : World) :
    (Instr.findKey K (.int .i64 k) (ents E).toList).run P w = .ok ((E.findIdx? fun x => x.1 == k).map fun j => (j, .int .i64 ((E.getD j (0, 0, 0)).2.1))) w := by
  rw [toList_ents]
  refine MapKept.run_findKey hK ?_
  rw [findNow_int]
  simp
theorem run_checkKey_int (hK : P.underlying K = some (.int .i64)) (k : Int) (e : Bool) (w : World) : (Instr.checkKey e 10000 K (.int .i64 k)).run P w = .ok () w := by
  unfold Instr.checkKey
  simp [Result.andThen, run_underlying hK]
theorem idx_of_look {E : List Ent} {k v : Int} (h : lookE E k = some v) : ∃ j, (E.findIdx? fun x => x.1 == k) = some j ∧ (E.getD j (0, 0, 0)).1 = k ∧ (E.getD j (0, 0, 0)).2.1 = v ∧ j < E.length := by
  unfold lookE at h
  induction E with
  | nil => cases h
  | cons x E ih =>
    rw [List.find?_cons] at h
    rw [List.findIdx?_cons]
    by_cases e : x.1 = k
    · rw [show (x.1 == k) = true by simpa using e] at h ⊢
      simp at h
      exact ⟨0, rfl, e, h, by simp⟩
    · rw [show (x.1 == k) = false by simpa using e] at h ⊢
      obtain ⟨j, h1, h2, h3, h4⟩ := ih h
      exact ⟨j + 1, by simp [h1], h2, h3, by simpa using h4⟩
theorem idx_of_none {E : List Ent} {k : Int} (h : lookE E k = none) : (E.findIdx? fun x => x.1 == k) = none := by
  rw [lookE_none] at h
  simpa using h
theorem run_lookI (hT : P.underlying T = some (.map K V)) (hK : P.underlying K = some (.int .i64)) (hz : ∀ w, (zeroValue V).run P w = .ok (.int .i64 0) w) {w : World} {m : Nat} {E : List Ent} (h : MapI w m E) (k : Int) :
    (Instr.lookup T (.map (some m)) (.int .i64 k) true).run P w = .ok (.tuple #[.int .i64 ((lookE E k).getD 0), .bool (lookE E k).isSome]) w := by
  obtain ⟨c, hb, _⟩ := h
  unfold Instr.lookup
  simp only [Sem.run_bind, run_underlying hT, Result.andThen, MapKept.run_getObj_map hb, Sem.run_pure, run_checkKey_int hK, run_findKey_int hK]
  cases hl : lookE E k with
  | none => rw [idx_of_none hl]; simp [hz, Result.andThen]
  | some v =>
    obtain ⟨j, h1, h2, h3, h4⟩ := idx_of_look hl
    rw [h1]; simpa using h3
theorem run_lookI_nil (hT : P.underlying T = some (.map K V)) (hK : P.underlying K = some (.int .i64)) (hz : ∀ w, (zeroValue V).run P w = .ok (.int .i64 0) w) {w : World} (k : Int) :
    (Instr.lookup T (.map none) (.int .i64 k) true).run P w = .ok (.tuple #[.int .i64 0, .bool false]) w := by
  unfold Instr.lookup
  have := run_findKey_int (P := P) hK k [] w
  simp only [ents, List.map_nil] at this
  simp [Sem.run_bind, run_underlying hT, Result.andThen, run_checkKey_int hK, this, hz]
def setBlk (w : World) (m : Nat) (o : Obj) : World := { w with heap := w.heap.setIfInBounds m o }
theorem setBlk_out (w : World) (m : Nat) (o : Obj) : Out (fun k => k = m) w (setBlk w m o) := ⟨rfl, rfl, rfl, by simp [setBlk], fun k hk hn => by
  unfold setBlk; simp [Array.getElem?_setIfInBounds_ne (fun e => hn e.symm)]⟩
theorem setBlk_at {w : World} {m : Nat} (o : Obj) (h : m < w.heap.size) : (setBlk w m o).heap[m]? = some o := by unfold setBlk; simp [h]
/-- A new key. -/
theorem run_updI (hT : P.underlying T = some (.map K V)) (hK : P.underlying K = some (.int .i64)) {w : World} {m : Nat} {E : List Ent} (h : MapI w m E) (k v : Int) (hn : lookE E k = none) :
    ∃ o b, (Instr.mapUpdate T (.map (some m)) (.int .i64 k) (.int .i64 v)).run P w = .ok () (setBlk w m o) ∧ MapI (setBlk w m o) m (E ++ [(k, v, b)]) := by
  have hlt := h.lt
  obtain ⟨c, hb, h1, h2, h3⟩ := h
  refine ⟨.map (ents (E ++ [(k, v, c)])) (c + 1), c, ?_, c + 1, setBlk_at _ hlt, ?_, ?_, ?_⟩
  · unfold Instr.mapUpdate
    simp only [Sem.run_bind, run_underlying hT, Result.andThen, MapKept.run_getObj_map hb, run_checkKey_int hK, run_findKey_int hK, idx_of_none hn]
    simp only [Option.map_none, MapKept.run_setObj_map _ hb]
    unfold setBlk ents
    simp [entOf]
  · rw [List.map_append, List.nodup_append]
    refine ⟨h1, by simp, fun a ha b hb e => ?_⟩
    simp at hb
    obtain ⟨x, hx, rfl⟩ := List.mem_map.1 ha
    exact lookE_none.1 hn x hx (e.trans hb)
  · rw [List.map_append, List.nodup_append]
    refine ⟨h2, by simp, fun a ha b hb e => ?_⟩
    simp at hb
    obtain ⟨x, hx, rfl⟩ := List.mem_map.1 ha
    have := h3 x hx
    omega
  · intro x hx
    rcases List.mem_append.1 hx with hx | hx
    · have := h3 x hx; omega
    · simp at hx; subst hx; simp
theorem erase_map {α β : Type} (f : α → β) : ∀ (l : List α) (j : Nat), (l.map f).eraseIdx j = (l.eraseIdx j).map f
  | [], _ => rfl
  | _ :: _, 0 => rfl
  | x :: l, j + 1 => by simp [erase_map f l j]
theorem nodup_idx {E : List Ent} (hn : (E.map (·.1)).Nodup) {j : Nat} (hj : j < E.length) : E.eraseIdx j = E.filter fun x => x.1 != (E.getD j (0, 0, 0)).1 := by
  induction E generalizing j with
  | nil => simp at hj
  | cons x E ih =>
    rw [List.map_cons, List.nodup_cons] at hn
    cases j with
    | zero =>
      simp
      refine (List.filter_eq_self.2 fun y hy => ?_).symm
      rw [bne_iff_ne]
      intro e
      exact hn.1 (List.mem_map.2 ⟨y, hy, e⟩)
    | succ j =>
      simp at hj
      have := ih hn.2 hj
      rw [List.eraseIdx_cons_succ, List.getD_cons_succ, this, List.filter_cons_of_pos]
      rw [bne_iff_ne]
      intro e
      refine hn.1 (List.mem_map.2 ⟨E.getD j (0, 0, 0), ?_, e.symm⟩)
      rw [List.getD_eq_getElem?_getD, List.getElem?_eq_getElem hj]
      exact List.getElem_mem hj
/-- A key that is there is struck. -/
theorem run_delI (hT : P.underlying T = some (.map K V)) (hK : P.underlying K = some (.int .i64)) (ty : TypeId) {w : World} {m : Nat} {E : List Ent} (h : MapI w m E) (k v : Int) (hl : lookE E k = some v) :
    ∃ o, (Builtin.delete_ #[T, K] ty #[.map (some m), .int .i64 k]).run P w = .ok (.tuple #[]) (setBlk w m o) ∧ MapI (setBlk w m o) m (E.filter fun x => x.1 != k) := by
  have hlt := h.lt
  obtain ⟨c, hb, h1, h2, h3⟩ := h
  obtain ⟨j, e1, e2, e3, e4⟩ := idx_of_look hl
  refine ⟨.map (ents (E.filter fun x => x.1 != k)) c, ?_, c, setBlk_at _ hlt, ?_, ?_, ?_⟩
  · have e5 : (ents E).eraseIdxIfInBounds j = ents (E.filter fun x => x.1 != k) := by
      rw [← e2, ← nodup_idx h1 e4]
      apply Array.ext'
      simp [ents, Array.eraseIdxIfInBounds, e4, erase_map]
    have e6 := run_findKey_int (P := P) hK k E w
    rw [e1] at e6
    have e7 : (setObj m (.map (ents (E.filter fun x => x.1 != k)) c)).run P w = .ok () (setBlk w m (.map (ents (E.filter fun x => x.1 != k)) c)) := MapKept.run_setObj_map _ hb
    unfold Builtin.delete_
    simp [Sem.run_bind, run_underlying hT, Result.andThen, MapKept.run_getObj_map hb, run_checkKey_int hK, e6, e5, e7]
  · exact List.Nodup.sublist (List.Sublist.map _ List.filter_sublist) h1
  · exact List.Nodup.sublist (List.Sublist.map _ List.filter_sublist) h2
  · exact fun x hx => h3 x (List.mem_filter.1 hx).1
theorem idx_of_mem {E : List Ent} (hn : (E.map (·.1)).Nodup) {k v : Int} {b : Nat} (h : (k, v, b) ∈ E) : ∃ j, (E.findIdx? fun x => x.1 == k) = some j ∧ E[j]? = some (k, v, b) := by
  induction E with
  | nil => cases h
  | cons x E ih =>
    rw [List.map_cons, List.nodup_cons] at hn
    rw [List.findIdx?_cons]
    by_cases e : x.1 = k
    · refine ⟨0, by simp [e], ?_⟩
      rcases List.mem_cons.1 h with h | h
      · simp [h]
      · exact absurd (List.mem_map.2 ⟨_, h, rfl⟩) (by rw [← e] at *; exact hn.1)
    · rcases List.mem_cons.1 h with h | h
      · subst h; exact absurd rfl e
      · obtain ⟨j, h1, h2⟩ := ih hn.2 h
        exact ⟨j + 1, by simp [e, h1], by simpa using h2⟩
theorem modify_same {α : Type} {xs : Array α} {j : Nat} {f : α → α} (h : ∀ x, xs[j]? = some x → f x = x) : xs.modify j f = xs := by
  apply Array.ext'
  rw [Array.toList_modify]
  refine List.ext_getElem? fun i => ?_
  rw [List.getElem?_modify]
  by_cases e : j = i
  · subst e
    cases hx : xs.toList[j]? with
    | none => rfl
    | some x => simp [h x (by simpa using hx)]
  · simp [e]
/-- 'm[k] = ..' in two steps: a key that is there. -/
theorem run_entryI (hT : P.underlying T = some (.map K V)) (hK : P.underlying K = some (.int .i64)) {w : World} {m : Nat} {E : List Ent} (h : MapI w m E) {k v : Int} {b : Nat} (hm : (k, v, b) ∈ E) :
    (Instr.mapEntry T (.map (some m)) (.int .i64 k)).run P w = .ok (.tuple #[.int .i64 v, .int .i64 (b : Int)]) w := by
  obtain ⟨c, hb, h1, h2, h3⟩ := h
  obtain ⟨j, e1, e2⟩ := idx_of_mem h1 hm
  have e6 := run_findKey_int (P := P) hK k E w
  rw [e1, Option.map_some, List.getD_eq_getElem?_getD, e2, Option.getD_some] at e6
  have e8 : (ents E)[j]? = some (entOf (k, v, b)) := by simp [ents, e2]
  have e9 : (Instr.keyThatStays (.int .i64 k) (.int .i64 k)).run P w = .ok (.int .i64 k) w := by
    unfold Instr.keyThatStays; simp [Instr.sameBits]
  have e10 : (ents E).modify j (fun e => { key := .int .i64 k, val := e.val, born := e.born }) = ents E := modify_same fun x hx => by
    rw [e8] at hx; cases hx; rfl
  have e7 : (setObj m (.map (ents E) c)).run P w = .ok () (setBlk w m (.map (ents E) c)) := MapKept.run_setObj_map _ hb
  have e11 : setBlk w m (.map (ents E) c) = w := by
    have e12 : w.heap.setIfInBounds m (.map (ents E) c) = w.heap := by
      obtain ⟨hlt, he⟩ := Array.getElem?_eq_some_iff.1 hb
      apply Array.ext'
      rw [Array.toList_setIfInBounds]
      refine List.ext_getElem? fun i => ?_
      rw [List.getElem?_set]
      by_cases e : m = i
      · subst e; simp [hlt, he]
      · simp [e]
    unfold setBlk
    rw [e12]
  rw [e11] at e7
  unfold Instr.mapEntry
  simp [Sem.run_bind, run_underlying hT, Result.andThen, MapKept.run_getObj_map hb, run_checkKey_int hK, e6, e8, entOf, e9, e10, e7, goInt]
/-- The value at a stamp. -/
def setE (E : List Ent) (b : Nat) (v : Int) : List Ent := E.map fun x => if x.2.2 = b then (x.1, v, x.2.2) else x
theorem setE_keys (E : List Ent) (b : Nat) (v : Int) : (setE E b v).map (·.1) = E.map (·.1) := by
  unfold setE; rw [List.map_map]; refine List.map_congr_left fun x _ => ?_
  by_cases e : x.2.2 = b
  · simp [e]
  · simp [e]
theorem setE_borns (E : List Ent) (b : Nat) (v : Int) : (setE E b v).map (·.2.2) = E.map (·.2.2) := by
  unfold setE; rw [List.map_map]; refine List.map_congr_left fun x _ => ?_
  by_cases e : x.2.2 = b
  · simp [e]
  · simp [e]
theorem mem_setE {E : List Ent} {b : Nat} {v : Int} {x : Ent} : x ∈ setE E b v ↔ (x ∈ E ∧ x.2.2 ≠ b) ∨ (x.2.1 = v ∧ x.2.2 = b ∧ ∃ u, (x.1, u, b) ∈ E) := by
  unfold setE
  rw [List.mem_map]
  constructor
  · rintro ⟨y, hy, rfl⟩
    by_cases e : y.2.2 = b
    · rw [if_pos e]
      exact .inr ⟨rfl, e, y.2.1, by rw [← e]; exact hy⟩
    · rw [if_neg e]; exact .inl ⟨hy, e⟩
  · rintro (⟨h1, h2⟩ | ⟨h1, h2, u, h3⟩)
    · exact ⟨x, h1, by rw [if_neg h2]⟩
    · refine ⟨_, h3, ?_⟩
      simp only [if_pos]
      rw [← h1, ← h2]
theorem idx_arr {α : Type} (xs : Array α) (p : α → Bool) : xs.findIdx? p = xs.toList.findIdx? p := by
  obtain ⟨l⟩ := xs
  simp
theorem findIdx_bornE {v : Value} {E : List Ent} (hn : (E.map (·.2.2)).Nodup) {x : Ent} (h : x ∈ E) : ∃ j, (E.map entOf).findIdx? (fun e => (e.born : Int) == (x.2.2 : Int)) = some j ∧ (E.map entOf).modify j (fun e => { e with val := v }) = (E.map fun y => if y.2.2 = x.2.2 then { entOf y with val := v } else entOf y) := by
  induction E with
  | nil => cases h
  | cons y E ih =>
    rw [List.map_cons, List.nodup_cons] at hn
    by_cases e : y.2.2 = x.2.2
    · refine ⟨0, by rw [List.map_cons, List.findIdx?_cons]; simp [entOf, e], ?_⟩
      simp only [List.map_cons, List.modify_zero_cons, if_pos e]
      congr 1
      refine List.map_congr_left fun z hz => ?_
      rw [if_neg]
      intro e2
      exact hn.1 (List.mem_map.2 ⟨z, hz, e2.trans e.symm⟩)
    · rcases List.mem_cons.1 h with h | h
      · subst h; exact absurd rfl e
      · obtain ⟨j, h1, h2⟩ := ih hn.2 h
        refine ⟨j + 1, ?_, ?_⟩
        · simp only [List.map_cons, List.findIdx?_cons, h1]
          have : ((entOf y).born : Int) ≠ (x.2.2 : Int) := by simp only [entOf]; omega
          simp [this]
        · simp only [List.map_cons, List.modify_succ_cons, h2, if_neg e]
theorem run_entryStoreI {w : World} {m : Nat} {E : List Ent} (h : MapI w m E) {k u : Int} {b : Nat} (hm : (k, u, b) ∈ E) (v : Int) :
    ∃ o, (Instr.entryStore T (.map (some m)) (.int .i64 (b : Int)) (.int .i64 v)).run P w = .ok () (setBlk w m o) ∧ MapI (setBlk w m o) m (setE E b v) := by
  have hlt := h.lt
  obtain ⟨c, hb, h1, h2, h3⟩ := h
  refine ⟨.map (ents (setE E b v)) c, ?_, c, setBlk_at _ hlt, by rw [setE_keys]; exact h1, by rw [setE_borns]; exact h2, fun x hx => ?_⟩
  · obtain ⟨j, e1, e2⟩ := findIdx_bornE (v := .int .i64 v) h2 hm
    have e5 : (ents E).modify j (fun e => { key := e.key, val := .int .i64 v, born := e.born }) = ents (setE E b v) := by
      apply Array.ext'
      rw [Array.toList_modify, toList_ents, toList_ents, e2]
      unfold setE
      rw [List.map_map]
      refine List.map_congr_left fun x _ => ?_
      by_cases e : x.2.2 = b
      · simp [e, entOf]
      · simp [e]
    have e1' : (ents E).findIdx? (fun e => (e.born : Int) == (b : Int)) = some j := by
      rw [← toList_ents] at e1
      rw [← e1]
      exact idx_arr _ _
    have e7 : (setObj m (.map (ents (setE E b v)) c)).run P w = .ok () (setBlk w m (.map (ents (setE E b v)) c)) := MapKept.run_setObj_map _ hb
    unfold Instr.entryStore
    simp [Sem.run_bind, Result.andThen, MapKept.run_getObj_map hb, asInt, asIntOf, e1', e5, e7]
  · rcases mem_setE.1 hx with ⟨h4, _⟩ | ⟨_, h5, u2, h6⟩
    · exact h3 x h4
    · rw [h5]; exact h3 _ h6
end
end Go.Proofs.Ytpdhgjhcjnpkeaa
