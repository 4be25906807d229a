import Derived.Test.YtghldkjbmfbdfaaDoorDcM
import Derived.Test.YtghldkjbmfbdfaaDoorMapS
import Derived.WideKeyEntry
namespace Go.Proofs.YtghldkjbmfbdfaaDoor
open Go Go.RowKit Dc
set_option linter.unusedVariables false
set_option linter.unusedSimpArgs false
/-! Rules in memory, and the map of counts. -/
def RuOK (r : Ru) : Prop := (0 ≤ r.code ∧ r.code < 4294967296) ∧ (0 ≤ r.vendor ∧ r.vendor < 4294967296)
def ruL (r : Ru) : List Value := [.int .u32 r.code, .int .u32 r.vendor, .int .i64 r.type, .bool r.must, .int .i64 r.least, .int .i64 r.most]
def ruV (r : Ru) : Value := .agg #[.int .u32 r.code, .int .u32 r.vendor, .int .i64 r.type, .bool r.must, .int .i64 r.least, .int .i64 r.most]
def rowr (l : List Ru) : List Value := l.flatMap ruL
theorem rowr_length (l : List Ru) : (rowr l).length = l.length * 6 := by
  induction l with
  | nil => rfl
  | cons x l ih => simp only [rowr, List.flatMap_cons, List.length_append] at ih ⊢; rw [ih]; simp [ruL]; omega
theorem rowr_at {l : List Ru} {i : Nat} {x : Ru} (h : l[i]? = some x) : ∀ (j : Nat) (v : Value), (ruL x)[j]? = some v → (rowr l)[i * 6 + j]? = some v := by
  induction l generalizing i with
  | nil => simp at h
  | cons y l ih =>
    intro j v hv
    have hl : (ruL y).length = 6 := rfl
    simp only [rowr, List.flatMap_cons]
    cases i with
    | zero =>
      simp at h
      subst h
      have hj : j < 6 := (List.getElem?_eq_some_iff.1 hv).1
      rw [List.getElem?_append_left (by rw [hl]; omega)]
      simpa using hv
    | succ i =>
      have h2 : l[i]? = some x := by simpa using h
      rw [List.getElem?_append_right (by rw [hl]; omega), hl, show (i + 1) * 6 + j - 6 = i * 6 + j by omega]
      exact ih h2 j v hv
structure InR (w : World) (A : Option Addr) (n cap : Nat) (l : List Ru) : Prop where
  cells : Cells w A (rowr l)
  ok : ∀ x ∈ l, RuOK x
  cap : n ≤ cap
  len : l.length = n
theorem InR.up {w w' : World} {A : Option Addr} {n cap : Nat} {l : List Ru} (h : InR w A n cap l) (hu : Up w w') : InR w' A n cap l := ⟨h.cells.up hu, h.ok, h.cap, h.len⟩
theorem inR_nil (w : World) : InR w none 0 0 [] := ⟨Cells.nil _ _, (fun x hx => by cases hx), Nat.le_refl _, rfl⟩
/-- A rule, cell by cell. -/
structure RuAt (w : World) (g o : Nat) (x : Ru) : Prop where
  c0 : w.cell? ⟨g, o, none⟩ = some (.int .u32 x.code)
  c1 : w.cell? ⟨g, o + 1, none⟩ = some (.int .u32 x.vendor)
  c2 : w.cell? ⟨g, o + 2, none⟩ = some (.int .i64 x.type)
  c3 : w.cell? ⟨g, o + 3, none⟩ = some (.bool x.must)
  c4 : w.cell? ⟨g, o + 4, none⟩ = some (.int .i64 x.least)
  c5 : w.cell? ⟨g, o + 5, none⟩ = some (.int .i64 x.most)
theorem InR.at_ {w : World} {A : Option Addr} {n cap k : Nat} {l : List Ru} (h : InR w A n cap l) (hk : k < n) : ∃ x g o, l[k]? = some x ∧ A = some ⟨g, o, none⟩ ∧ RuAt w g (o + k * 6) x ∧ RuOK x := by
  obtain ⟨x, hx⟩ : ∃ x, l[k]? = some x := ⟨_, List.getElem?_eq_getElem (by rw [h.len]; exact hk)⟩
  obtain ⟨g, o, rfl, _, hc⟩ := h.cells (by intro e; have := congrArg List.length e; rw [rowr_length, h.len] at this; simp at this; omega)
  have H : ∀ (j : Nat) (v : Value), (ruL x)[j]? = some v → w.cell? ⟨g, o + k * 6 + j, none⟩ = some v := fun j v hv => by
    have := hc _ _ (rowr_at hx j v hv)
    rwa [← Nat.add_assoc] at this
  exact ⟨x, g, o, hx, rfl, ⟨H 0 _ rfl, H 1 _ rfl, H 2 _ rfl, H 3 _ rfl, H 4 _ rfl, H 5 _ rfl⟩, h.ok x (List.mem_of_getElem? hx)⟩
/-! Names as keys. -/
def nmV (n : Nm) : Value := .agg #[.int .u32 n.1, .int .u32 n.2]
def NmOk (n : Nm) : Prop := (0 ≤ n.1 ∧ n.1 < 4294967296) ∧ (0 ≤ n.2 ∧ n.2 < 4294967296)
theorem nmV_inj {a b : Nm} (h : nmV a = nmV b) : a = b := by
  obtain ⟨a1, a2⟩ := a
  obtain ⟨b1, b2⟩ := b
  simp [nmV] at h
  rw [h.1, h.2]
theorem laidT : laidOutB Tryd.prog = true := by kernel_rfl
theorem row54 : (54 : TypeId) < Tryd.prog.types.size := of_decide_eq_true (by kernel_rfl)
theorem wide54 : (match Tryd.prog.underlying 54 with | some (.array _ _) | some (.struct _) => true | _ => false) = true := by kernel_rfl
theorem law54 : WideMaps.KeyLaw Tryd.prog 54 := deep_law_laid laidT (m := 4) (by omega) row54 (by kernel_rfl) wide54
theorem u32_wf {n : Int} (h : 0 ≤ n ∧ n < 4294967296) : (Lit.int .u32 n).wf = true := by
  have h1 : IntKind.u32.min = 0 := rfl
  have h2 : IntKind.u32.max = 4294967295 := rfl
  simp [Lit.wf, h1, h2]; omega
theorem cells54 : Tryd.prog.cellsOf 54 = 2 := by kernel_rfl
theorem cells36 : Tryd.prog.cellsOf 36 = 1 := by kernel_rfl
theorem kt54 : Tryd.prog.keyType 54 = true := by kernel_rfl
theorem lits54 (d : Nat) {k : Nm} (h : NmOk k) : Tryd.prog.keyLits (d + 2) 54 [.int .u32 k.1, .int .u32 k.2] = some [.int .u32 k.1, .int .u32 k.2] := by
  have h1 := u32_wf h.1
  have h2 := u32_wf h.2
  simp [Program.keyLits, Tryd.underlying54, Tryd.underlying36, cells54, cells36, h1, h2]
theorem key54 {k : Nm} (h : NmOk k) : ∃ l, keyOf Tryd.prog 54 (nmV k) = some l := by
  have hs : ∃ d, Tryd.prog.types.size + 1 = d + 2 := ⟨Tryd.prog.types.size - 1, by have := row54; have : (54 : Nat) < Tryd.prog.types.size := this; omega⟩
  obtain ⟨d, hs⟩ := hs
  have hf : (nmV k).formed Tryd.prog 54 = true := by simp [nmV, Value.formed, Tryd.underlying54, cells54]
  unfold keyOf
  have hc : (nmV k).cells.toList = [.int .u32 k.1, .int .u32 k.2] := rfl
  simp only [Tryd.underlying54, kt54, hf, hs, hc, Bool.and_self, if_true]
  rw [lits54 d h]
  exact ⟨_, rfl⟩
theorem und50 : Tryd.prog.underlying 50 = some (.map 54 3) := by kernel_rfl
theorem zero3 (w : World) : (zeroValue 3).run Tryd.prog w = .ok (.int .i64 0) w := by kernel_rfl
theorem nodup_inj {α : Type} {l : List α} (h : l.Nodup) {i j : Nat} {a : α} (hi : l[i]? = some a) (hj : l[j]? = some a) : i = j :=
  (List.getElem?_inj (List.getElem?_eq_some_iff.1 hi).1 h).1 (hi.trans hj.symm)
theorem mod_set {α : Type} (f : α → α) : ∀ (l : List α) (j : Nat) (a : α), l[j]? = some a → l.modify j f = l.set j (f a)
  | [], _, _, h => by simp at h
  | b :: r, 0, a, h => by simp at h; subst h; rfl
  | b :: r, j + 1, a, h => by simp at h; simp [List.modify_succ_cons, mod_set f r j a h]
/-! A map of counts: what is kept under a name, 0 where there is nothing. -/
structure MapE (es : Array MapEntry) (clock : Nat) (F : Nm → Int) : Prop where
  born : (es.toList.map (·.born)).Nodup
  old : ∀ e ∈ es.toList, e.born < clock
  keys : (es.toList.map (·.key)).Nodup
  val : ∀ e ∈ es.toList, ∃ a, NmOk a ∧ e.key = nmV a ∧ e.val = .int .i64 (F a)
  no : ∀ a, (∀ e ∈ es.toList, e.key ≠ nmV a) → F a = 0
def MapC (w : World) (m : Nat) (F : Nm → Int) : Prop := ∃ es clock, w.heap[m]? = some (.map es clock) ∧ MapE es clock F
theorem mapC_new (w : World) (c : Nat) : MapC (w.alloc (.map #[] c)) w.heap.size fun _ => 0 := ⟨#[], c, heap_alloc_new w _, by simp, by simp, by simp, by simp, fun _ _ => rfl⟩
theorem MapC.lt {w : World} {m : Nat} {F : Nm → Int} (h : MapC w m F) : m < w.heap.size := by
  obtain ⟨es, c, h1, _⟩ := h
  exact lt_of_blk h1
theorem MapC.up {w w' : World} {m : Nat} {F : Nm → Int} (h : MapC w m F) (hu : Up w w') : MapC w' m F := by
  have := h.lt
  obtain ⟨es, c, h1, h2⟩ := h
  exact ⟨es, c, by rw [hu.block m this]; exact h1, h2⟩
theorem findE {es : Array MapEntry} {clock : Nat} {F : Nm → Int} (h : MapE es clock F) {k : Nm} (hk : NmOk k) (w : World) :
    ((Instr.findKey 54 (nmV k) es.toList).run Tryd.prog w = .ok none w ∧ ∀ e ∈ es.toList, e.key ≠ nmV k) ∨ ∃ j e, (Instr.findKey 54 (nmV k) es.toList).run Tryd.prog w = .ok (some (j, e.val)) w ∧ es.toList[j]? = some e ∧ e.key = nmV k := by
  obtain ⟨l, hl⟩ := key54 hk
  exact law54.find w hl es.toList fun e he => by
    obtain ⟨a, ha, e1, _⟩ := h.val e he
    rw [e1]; exact key54 ha
theorem MapE.at_ {es : Array MapEntry} {clock : Nat} {F : Nm → Int} (h : MapE es clock F) {k : Nm} {e : MapEntry} (he : e ∈ es.toList) (hk : e.key = nmV k) : e.val = .int .i64 (F k) := by
  obtain ⟨a, _, e1, e2⟩ := h.val e he
  rw [e2, nmV_inj (e1.symm.trans hk)]
theorem run_lookC {w : World} {m : Nat} {F : Nm → Int} (h : MapC w m F) {k : Nm} (hk : NmOk k) : (Instr.lookup 50 (.map (some m)) (nmV k) false).run Tryd.prog w = .ok (.int .i64 (F k)) w := by
  obtain ⟨es, c, hb, he⟩ := h
  obtain ⟨l, hl⟩ := key54 hk
  unfold Instr.lookup
  simp only [Sem.run_bind, run_underlying und50, Result.andThen, MapKept.run_getObj_map hb, Sem.run_pure, law54.check _ _ hl]
  rcases findE he hk w with ⟨h1, h2⟩ | ⟨j, e, h1, h2, h3⟩
  · rw [h1, he.no k h2]; simp [Result.andThen, zero3]
  · rw [h1, he.at_ (List.mem_of_getElem? h2) h3]; simp
def updF (F : Nm → Int) (a : Nm) (n : Int) : Nm → Int := fun b => if b = a then n else F b
/-- m[k] is looked up for writing, then written: an entry stands there at once, under a stamp. -/
theorem entryC {es : Array MapEntry} {clock : Nat} {F : Nm → Int} (h : MapE es clock F) {k : Nm} (hk : NmOk k) (m : Nat) : ∃ (v0 : Value) (st : Nat) (es1 : Array MapEntry) (c1 : Nat),
    (∀ w, w.heap[m]? = some (.map es clock) → (Instr.mapEntry 50 (.map (some m)) (nmV k)).run Tryd.prog w = .ok (.tuple #[v0, goInt st]) (setBl w m (.map es1 c1))) ∧ MapE es1 c1 F ∧
    ∀ n : Int, ∃ es2, MapE es2 c1 (updF F k n) ∧ ∀ w, w.heap[m]? = some (.map es1 c1) → (Instr.entryStore 50 (.map (some m)) (goInt st) (.int .i64 n)).run Tryd.prog w = .ok () (setBl w m (.map es2 c1)) := by
  obtain ⟨l, hl⟩ := key54 hk
  have store : ∀ (es1 : Array MapEntry) (c1 : Nat) (j : Nat) (e : MapEntry), MapE es1 c1 F → es1.toList[j]? = some e → e.key = nmV k → ∀ n : Int, ∃ es2, MapE es2 c1 (updF F k n) ∧ ∀ w, w.heap[m]? = some (.map es1 c1) → (Instr.entryStore 50 (.map (some m)) (goInt e.born) (.int .i64 n)).run Tryd.prog w = .ok () (setBl w m (.map es2 c1)) := by
    intro es1 c1 j e hE he hke n
    have hj : j < es1.toList.length := (List.getElem?_eq_some_iff.1 he).1
    have hidx : es1.findIdx? (fun x => ((x.born : Nat) : Int) == ((e.born : Nat) : Int)) = some j := by
      rw [WideElems.findIdx_arr]
      exact WideElems.findIdx_born hE.born he
    have hlist : (es1.modify j fun x => { x with val := .int .i64 n }).toList = es1.toList.set j { e with val := .int .i64 n } := by
      rw [Array.toList_modify, mod_set _ _ _ _ he]
    have hmap : ∀ {β : Type} (f : MapEntry → β), f { e with val := .int .i64 n } = f e → (es1.toList.set j { e with val := .int .i64 n }).map f = es1.toList.map f := by
      intro β f hf
      apply List.ext_getElem?
      intro i
      rw [List.getElem?_map, List.getElem?_map, List.getElem?_set]
      by_cases hij : j = i
      · subst hij
        rw [if_pos rfl, if_pos hj, he]; simp [hf]
      · rw [if_neg hij]
    have hmem : ∀ x ∈ es1.toList.set j { e with val := .int .i64 n }, x = { e with val := .int .i64 n } ∨ (x ∈ es1.toList ∧ x.key ≠ nmV k) := by
      intro x hx
      obtain ⟨i, hi, rfl⟩ := List.mem_iff_getElem.1 hx
      rw [List.length_set] at hi
      by_cases hij : j = i
      · subst hij; exact .inl (by simp)
      · refine .inr ?_
        rw [List.getElem_set_ne hij]
        refine ⟨List.getElem_mem hi, fun hx => hij ?_⟩
        exact nodup_inj (a := nmV k) hE.keys (by rw [List.getElem?_map, he]; simp [hke]) (by rw [List.getElem?_map, List.getElem?_eq_getElem hi]; exact congrArg some hx)
    refine ⟨es1.modify j fun x => { x with val := .int .i64 n }, ⟨?_, ?_, ?_, ?_, ?_⟩, ?_⟩
    · rw [hlist, hmap _ rfl]; exact hE.born
    · rw [hlist]
      intro x hx
      rcases hmem x hx with rfl | ⟨h1, _⟩
      · exact hE.old e (List.mem_of_getElem? he)
      · exact hE.old x h1
    · rw [hlist, hmap _ rfl]; exact hE.keys
    · rw [hlist]
      intro x hx
      rcases hmem x hx with rfl | ⟨h1, h2⟩
      · exact ⟨k, hk, hke, by simp [updF]⟩
      · obtain ⟨a, ha, e1, e2⟩ := hE.val x h1
        refine ⟨a, ha, e1, ?_⟩
        have : a ≠ k := fun e0 => h2 (by rw [e1, e0])
        rw [e2]; simp [updF, this]
    · rw [hlist]
      intro a ha
      have h1 : a ≠ k := fun e0 => ha _ (List.mem_iff_getElem.2 ⟨j, by simpa using hj, List.getElem_set_self _⟩) (by rw [e0]; exact hke)
      simp only [updF, h1, if_false]
      refine hE.no a fun x hx e0 => ?_
      obtain ⟨i, hi, rfl⟩ := List.mem_iff_getElem.1 hx
      by_cases hij : j = i
      · subst hij
        have : es1.toList[j] = e := by rw [List.getElem?_eq_getElem hj] at he; exact Option.some.inj he
        rw [this, hke] at e0
        exact h1 (nmV_inj e0).symm
      · exact ha _ (List.mem_iff_getElem.2 ⟨i, by simpa using hi, by rw [List.getElem_set_ne hij]⟩) e0
    · intro w hw
      simp [Instr.entryStore, MapKept.run_getObj_map hw, asInt, asIntOf, goInt, hidx, MapKept.run_setObj_map _ hw, Result.andThen, setBl]
  rcases findE h hk default with ⟨_, h2⟩ | ⟨j, e, _, h2, h3⟩
  · have hE : MapE (es.push ⟨nmV k, .int .i64 0, clock⟩) (clock + 1) F := by
      refine ⟨?_, ?_, ?_, ?_, ?_⟩
      · rw [Array.toList_push, List.map_append, List.nodup_append]
        refine ⟨h.born, by simp, fun a ha b hb e => ?_⟩
        simp only [List.map_cons, List.map_nil, List.mem_singleton] at hb
        obtain ⟨x, hx, rfl⟩ := List.mem_map.1 ha
        have := h.old x hx
        omega
      · intro x hx
        rw [Array.toList_push, List.mem_append] at hx
        rcases hx with hx | hx
        · have := h.old x hx; omega
        · rw [List.mem_singleton.1 hx]; show clock < clock + 1; omega
      · rw [Array.toList_push, List.map_append, List.nodup_append]
        refine ⟨h.keys, by simp, fun a ha b hb e => ?_⟩
        simp only [List.map_cons, List.map_nil, List.mem_singleton] at hb
        obtain ⟨x, hx, rfl⟩ := List.mem_map.1 ha
        exact h2 x hx (e.trans hb)
      · intro x hx
        rw [Array.toList_push, List.mem_append] at hx
        rcases hx with hx | hx
        · exact h.val x hx
        · rw [List.mem_singleton.1 hx]; exact ⟨k, hk, rfl, by rw [h.no k h2]⟩
      · intro a ha
        exact h.no a fun x hx => ha x (by rw [Array.toList_push]; exact List.mem_append_left _ hx)
    refine ⟨.int .i64 0, clock, _, _, fun w hw => ?_, hE, store _ _ es.toList.length ⟨nmV k, .int .i64 0, clock⟩ hE (by rw [Array.toList_push]; simp) rfl⟩
    have h1 : (Instr.findKey 54 (nmV k) es.toList).run Tryd.prog w = .ok none w := by
      rcases findE h hk w with ⟨h1, _⟩ | ⟨j, e, _, h4, h5⟩
      · exact h1
      · exact absurd h5 (h2 e (List.mem_of_getElem? h4))
    simp [Instr.mapEntry, run_underlying und50, MapKept.run_getObj_map hw, law54.check w false hl, h1, zero3, MapKept.run_setObj_map _ hw, Result.andThen, setBl]
  · have hj : es[j]? = some e := by simpa using h2
    have hsame : es.modify j (fun x => { x with key := nmV k }) = es := by
      apply Array.ext'
      have : ({ e with key := nmV k } : MapEntry) = e := by rw [← h3]
      rw [Array.toList_modify, mod_set _ _ _ _ h2, this]
      exact WideElems.set_self _ _ _ h2
    refine ⟨e.val, e.born, es, clock, fun w hw => ?_, h, store es clock j e h h2 h3⟩
    have h1 : (Instr.findKey 54 (nmV k) es.toList).run Tryd.prog w = .ok (some (j, e.val)) w := by
      rcases findE h hk w with ⟨_, h5⟩ | ⟨i, x, h4, h5, h6⟩
      · exact absurd h3 (h5 e (List.mem_of_getElem? h2))
      · have : i = j := nodup_inj (a := nmV k) h.keys (by rw [List.getElem?_map, h5]; simp [h6]) (by rw [List.getElem?_map, h2]; simp [h3])
        subst this
        rw [h2] at h5
        cases h5
        exact h4
    simp [Instr.mapEntry, run_underlying und50, MapKept.run_getObj_map hw, law54.check w false hl, h1, hj, h3, law54.stays w hl, hsame, MapKept.run_setObj_map _ hw, Result.andThen, setBl]
end Go.Proofs.YtghldkjbmfbdfaaDoor
