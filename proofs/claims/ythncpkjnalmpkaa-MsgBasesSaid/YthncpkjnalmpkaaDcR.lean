import Derived.Test.YthncpkjnalmpkaaDcM
import Derived.Test.YthncpkjnalmpkaaSteady
import Derived.MapKept
import Derived.DeepKeys4
import Derived.WideKeyEntry
namespace Go.Proofs.Ythncpkjnalmpkaa
open Go Go.RowKit Dc
set_option linter.unusedVariables false
set_option linter.unusedSimpArgs false
/-! Rules in memory, and the map of counts. -/
def RuOK (r : Ru) : Prop := (0 ≤ r.code ∧ r.code < 4294967296) ∧ (0 ≤ r.vendor ∧ r.vendor < 4294967296)
def ruL (r : Ru) : List Value := [.int .u32 r.code, .int .u32 r.vendor, .int .i64 r.type, .bool r.must, .int .i64 r.least, .int .i64 r.most]
def ruV (r : Ru) : Value := .agg #[.int .u32 r.code, .int .u32 r.vendor, .int .i64 r.type, .bool r.must, .int .i64 r.least, .int .i64 r.most]
def rowr (l : List Ru) : List Value := l.flatMap ruL
theorem rowr_length (l : List Ru) : (rowr l).length = l.length * 6 := by
  induction l with
  | nil => rfl
  | cons x l ih => simp only [rowr, List.flatMap_cons, List.length_append] at ih ⊢; rw [ih]; simp [ruL]; omega
theorem rowr_at {l : List Ru} {i : Nat} {x : Ru} (h : l[i]? = some x) : ∀ (j : Nat) (v : Value), (ruL x)[j]? = some v → (rowr l)[i * 6 + j]? = some v := by
  induction l generalizing i with
  | nil => simp at h
  | cons y l ih =>
    intro j v hv
    have hl : (ruL y).length = 6 := rfl
    simp only [rowr, List.flatMap_cons]
    cases i with
    | zero =>
      simp at h
      subst h
      have hj : j < 6 := (List.getElem?_eq_some_iff.1 hv).1
      rw [List.getElem?_append_left (by rw [hl]; omega)]
      simpa using hv
    | succ i =>
      have h2 : l[i]? = some x := by simpa using h
      rw [List.getElem?_append_right (by rw [hl]; omega), hl, show (i + 1) * 6 + j - 6 = i * 6 + j by omega]
      exact ih h2 j v hv
structure InR (w : World) (A : Option Addr) (n cap : Nat) (l : List Ru) : Prop where
  cells : Cells w A (rowr l)
  ok : ∀ x ∈ l, RuOK x
  cap : n ≤ cap
  len : l.length = n
theorem InR.up {w w' : World} {A : Option Addr} {n cap : Nat} {l : List Ru} (h : InR w A n cap l) (hu : Up w w') : InR w' A n cap l := ⟨h.cells.up hu, h.ok, h.cap, h.len⟩
theorem inR_nil (w : World) : InR w none 0 0 [] := ⟨Cells.nil _ _, (fun x hx => by cases hx), Nat.le_refl _, rfl⟩
/-- A rule, cell by cell. -/
structure RuAt (w : World) (g o : Nat) (x : Ru) : Prop where
  c0 : w.cell? ⟨g, o, none⟩ = some (.int .u32 x.code)
  c1 : w.cell? ⟨g, o + 1, none⟩ = some (.int .u32 x.vendor)
  c2 : w.cell? ⟨g, o + 2, none⟩ = some (.int .i64 x.type)
  c3 : w.cell? ⟨g, o + 3, none⟩ = some (.bool x.must)
  c4 : w.cell? ⟨g, o + 4, none⟩ = some (.int .i64 x.least)
  c5 : w.cell? ⟨g, o + 5, none⟩ = some (.int .i64 x.most)
theorem InR.at_ {w : World} {A : Option Addr} {n cap k : Nat} {l : List Ru} (h : InR w A n cap l) (hk : k < n) : ∃ x g o, l[k]? = some x ∧ A = some ⟨g, o, none⟩ ∧ RuAt w g (o + k * 6) x ∧ RuOK x := by
  obtain ⟨x, hx⟩ : ∃ x, l[k]? = some x := ⟨_, List.getElem?_eq_getElem (by rw [h.len]; exact hk)⟩
  obtain ⟨g, o, rfl, _, hc⟩ := h.cells (by intro e; have := congrArg List.length e; rw [rowr_length, h.len] at this; simp at this; omega)
  have H : ∀ (j : Nat) (v : Value), (ruL x)[j]? = some v → w.cell? ⟨g, o + k * 6 + j, none⟩ = some v := fun j v hv => by
    have := hc _ _ (rowr_at hx j v hv)
    rwa [← Nat.add_assoc] at this
  exact ⟨x, g, o, hx, rfl, ⟨H 0 _ rfl, H 1 _ rfl, H 2 _ rfl, H 3 _ rfl, H 4 _ rfl, H 5 _ rfl⟩, h.ok x (List.mem_of_getElem? hx)⟩
/-! Names as keys. -/
def nmV (n : Nm) : Value := .agg #[.int .u32 n.1, .int .u32 n.2]
def NmOk (n : Nm) : Prop := (0 ≤ n.1 ∧ n.1 < 4294967296) ∧ (0 ≤ n.2 ∧ n.2 < 4294967296)
theorem nmV_inj {a b : Nm} (h : nmV a = nmV b) : a = b := by
  obtain ⟨a1, a2⟩ := a
  obtain ⟨b1, b2⟩ := b
  simp [nmV] at h
  rw [h.1, h.2]
/-! A map of counts: what is kept under a name, 0 where there is nothing. -/
structure MapE (es : Array MapEntry) (clock : Nat) (F : Nm → Int) : Prop where
  born : (es.toList.map (·.born)).Nodup
  old : ∀ e ∈ es.toList, e.born < clock
  keys : (es.toList.map (·.key)).Nodup
  val : ∀ e ∈ es.toList, ∃ a, NmOk a ∧ e.key = nmV a ∧ e.val = .int .i64 (F a)
  no : ∀ a, (∀ e ∈ es.toList, e.key ≠ nmV a) → F a = 0
def MapC (w : World) (m : Nat) (F : Nm → Int) : Prop := ∃ es clock, w.heap[m]? = some (.map es clock) ∧ MapE es clock F
theorem MapC.lt {w : World} {m : Nat} {F : Nm → Int} (h : MapC w m F) : m < w.heap.size := by
  obtain ⟨es, c, h1, _⟩ := h
  exact lt_of_blk h1
theorem MapC.up {w w' : World} {m : Nat} {F : Nm → Int} (h : MapC w m F) (hu : Up w w') : MapC w' m F := by
  have := h.lt
  obtain ⟨es, c, h1, h2⟩ := h
  exact ⟨es, c, by rw [hu.block m this]; exact h1, h2⟩
theorem MapE.at_ {es : Array MapEntry} {clock : Nat} {F : Nm → Int} (h : MapE es clock F) {k : Nm} {e : MapEntry} (he : e ∈ es.toList) (hk : e.key = nmV k) : e.val = .int .i64 (F k) := by
  obtain ⟨a, _, e1, e2⟩ := h.val e he
  rw [e2, nmV_inj (e1.symm.trans hk)]
end Go.Proofs.Ythncpkjnalmpkaa
