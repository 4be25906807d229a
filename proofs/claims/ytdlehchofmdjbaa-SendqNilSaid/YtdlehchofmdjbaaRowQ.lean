import Derived.Test.YtdlehchofmdjbaaCk0
import Derived.Deep.MidRow
namespace Go.Proofs.Ytdlehchofmdjbaa
open Go Go.RowKit
set_option linter.unusedVariables false
set_option linter.unusedSimpArgs false
/-! Rows of structs, of any kind. -/
section
variable {α : Type} (f : α → List Value) (k : Nat) (hk : ∀ x, (f x).length = k)
include hk
theorem rowG_length (l : List α) : (l.flatMap f).length = l.length * k := by
  induction l with
  | nil => simp
  | cons x l ih => simp only [List.flatMap_cons, List.length_append, List.length_cons, ih, hk]; rw [Nat.add_mul]; omega
theorem rowG_at {l : List α} {i : Nat} {x : α} (h : l[i]? = some x) {j : Nat} {v : Value} (hj : (f x)[j]? = some v) : (l.flatMap f)[i * k + j]? = some v := by
  induction l generalizing i with
  | nil => simp at h
  | cons y l ih =>
    have hl := hk y
    cases i with
    | zero =>
      simp at h
      subst h
      simp only [List.flatMap_cons, Nat.zero_mul, Nat.zero_add]
      have : j < (f y).length := (List.getElem?_eq_some_iff.1 hj).1
      rw [List.getElem?_append_left this]; exact hj
    | succ i =>
      have h2 : l[i]? = some x := by simpa using h
      simp only [List.flatMap_cons]
      have e0 : (i + 1) * k + j = k + (i * k + j) := by rw [Nat.add_mul]; omega
      rw [List.getElem?_append_right (by rw [hl, e0]; omega), hl, e0, Nat.add_sub_cancel_left]
      exact ih h2
end
def setL {α : Type} (xs : List α) (o : Nat) : List α → List α
  | [] => xs
  | v :: vs => setL (xs.set o v) (o + 1) vs
theorem setL_eq {α : Type} : ∀ (vs xs : List α) (o : Nat), o + vs.length ≤ xs.length → setL xs o vs = xs.take o ++ vs ++ xs.drop (o + vs.length)
  | [], xs, o, h => by simp [setL]
  | v :: vs, xs, o, h => by
    simp only [List.length_cons] at h
    rw [setL, setL_eq vs _ _ (by rw [List.length_set]; omega)]
    rw [List.take_set, List.drop_set_of_lt (by omega)]
    have h1 : (xs.take (o + 1)).set o v = xs.take o ++ [v] := by
      rw [List.take_add_one, List.getElem?_eq_getElem (by omega)]
      rw [List.set_append_right _ _ (by simp; omega)]
      simp only [Option.toList_some, List.length_take, Nat.min_eq_left (show o ≤ xs.length by omega), Nat.sub_self, List.set_cons_zero]
    rw [h1]
    simp only [List.append_assoc, List.cons_append, List.nil_append, List.length_cons]
    congr 3
    rw [Nat.add_right_comm, Nat.add_assoc]
theorem rowG_sets {α : Type} (f : α → List Value) (k : Nat) (hk : ∀ x, (f x).length = k) (y : α) : ∀ (l : List α) (i : Nat), i < l.length → (l.flatMap f).take (i * k) ++ f y ++ (l.flatMap f).drop (i * k + k) = (l.set i y).flatMap f
  | [], i, h => by simp at h
  | z :: l, 0, h => by
    simp only [Nat.zero_mul, Nat.zero_add, List.take_zero, List.nil_append, List.flatMap_cons, List.set_cons_zero]
    rw [List.drop_append_of_le_length (by rw [hk]; exact Nat.le_refl _), List.drop_of_length_le (by rw [hk]; exact Nat.le_refl _), List.nil_append]
  | z :: l, i + 1, h => by
    simp only [List.length_cons] at h
    simp only [List.flatMap_cons, List.set_cons_succ]
    rw [← rowG_sets f k hk y l i (by omega), Nat.add_mul, Nat.one_mul]
    rw [List.take_append, List.drop_append, hk, List.take_of_length_le (by rw [hk]; omega), List.drop_of_length_le (by rw [hk]; omega)]
    rw [show i * k + k - k = i * k by omega, show i * k + k + k - k = i * k + k by omega]
    simp
theorem row_sets {base : Nat} {e : TypeId} {size n c g : Nat} : ∀ (vs xs : List Value) (o : Nat) (w : World), w.ownsRow base e size (.slice (some ⟨g, 0, none⟩) n c) n xs →
    (w.setCells g o vs).ownsRow base e size (.slice (some ⟨g, 0, none⟩) n c) n (setL xs o vs) ∧ Out (fun k => k = g) w (w.setCells g o vs)
  | [], xs, o, w, h => ⟨h, Out.refl _ _⟩
  | v :: vs, xs, o, w, h => by
    obtain ⟨h1, h2⟩ := row_sets vs (xs.set o v) (o + 1) (w.setCell ⟨g, o, none⟩ v) (World.ownsRow.stored h o v).1
    exact ⟨h1, (setCell_out w g o v).trans h2 (Sub.refl _ _)⟩
theorem row_there {base : Nat} {e : TypeId} {size n c g : Nat} {xs : List Value} {w : World} (h : w.ownsRow base e size (.slice (some ⟨g, 0, none⟩) n c) n xs) {o k : Nat} (ho : o + k ≤ xs.length) : w.there g o k := fun j hj => by
  refine ⟨?_, World.ownsRow.frozenAt h _⟩
  rw [row_cell h (List.getElem?_eq_getElem (show o + j < xs.length by omega))]
  rfl
theorem row_put {α : Type} (f : α → List Value) (k : Nat) (hk : ∀ x, (f x).length = k) {base : Nat} {e : TypeId} {n c g : Nat} {l : List α} {w : World} (h : w.ownsRow base e k (.slice (some ⟨g, 0, none⟩) n c) n (l.flatMap f)) {i : Nat} (hi : i < l.length) (y : α) :
    w.there g (i * k) k ∧ (w.setCells g (i * k) (f y)).ownsRow base e k (.slice (some ⟨g, 0, none⟩) n c) n ((l.set i y).flatMap f) ∧ Out (fun k => k = g) w (w.setCells g (i * k) (f y)) := by
  have hl : i * k + k ≤ (l.flatMap f).length := by
    rw [rowG_length f k hk, ← Nat.succ_mul]
    exact Nat.mul_le_mul_right k hi
  obtain ⟨h1, h2⟩ := row_sets (f y) _ (i * k) w h
  refine ⟨row_there h hl, ?_, h2⟩
  rw [setL_eq _ _ _ (by rw [hk]; exact hl), hk, rowG_sets f k hk y l i hi] at h1
  exact h1
theorem row_blk {w : World} {base g n c s : Nat} {e : TypeId} {xs : List Value} (h : w.ownsRow base e s (.slice (some ⟨g, 0, none⟩) n c) n xs) : ∃ cs, w.heap[g]? = some (.cells cs e (0, 0)) := by
  rcases h.2 with ⟨h', _⟩ | ⟨g', cap', cur, h', _, hg, _⟩
  · simp at h'
  · simp only [Value.slice.injEq, Option.some.injEq, Addr.mk.injEq, and_true, true_and] at h'
    obtain ⟨rfl, rfl⟩ := h'
    exact ⟨cur, hg⟩
theorem row_blk2 {w : World} {base n c s : Nat} {e : TypeId} {A : Option Addr} {xs : List Value} (h : w.ownsRow base e s (.slice A n c) n xs) {k : Nat} (hk : blk? A = some k) : ∃ cs, w.heap[k]? = some (.cells cs e (0, 0)) := by
  rcases h.2 with ⟨h', _⟩ | ⟨g', cap', cur, h', _, hg, _⟩
  · injection h' with h'; rw [h'] at hk; cases hk
  · injection h' with h'
    rw [h'] at hk
    injection hk with hk
    subst hk
    exact ⟨cur, hg⟩
theorem own_prefix {w : World} {base n m c : Nat} {e : TypeId} {s g : Nat} {xs ys : List Value} (h : w.ownsRow base e s (.slice (some ⟨g, 0, none⟩) n c) n (xs ++ ys)) (hm : m ≤ n) (hx : xs.length = m * s) : w.ownsRow base e s (.slice (some ⟨g, 0, none⟩) m c) m xs := by
  refine ⟨hx, ?_⟩
  rcases h.2 with ⟨h1, _⟩ | ⟨g', cap, cur, hv, hb, hh, h1, h2, h3, h4⟩
  · cases h1
  · injection hv with e1 e2 e3
    injection e1 with e1
    injection e1 with e1
    subst e1; subst e3
    refine .inr ⟨g, c, cur, rfl, hb, hh, by omega, h2, h3, ?_⟩
    have h5 : List.take (m * s) (List.take (n * s) cur.toList) = List.take (m * s) (xs ++ ys) := by rw [h4]
    rw [List.take_take, Nat.min_eq_left (Nat.mul_le_mul_right s hm)] at h5
    rw [h5, List.take_append_of_le_length (Nat.le_of_eq hx.symm), List.take_of_length_le (Nat.le_of_eq hx)]
theorem own_beyond {w : World} {base n c : Nat} {e : TypeId} {s g j : Nat} {xs : List Value} (h : w.ownsRow base e s (.slice (some ⟨g, 0, none⟩) n c) n xs) (hj : n * s ≤ j) (v : Value) : (w.setCell ⟨g, j, none⟩ v).ownsRow base e s (.slice (some ⟨g, 0, none⟩) n c) n xs := by
  refine ⟨h.1, ?_⟩
  rcases h.2 with ⟨h1, _⟩ | ⟨g', cap, cur, hv, hb, hh, h1, h2, h3, h4⟩
  · cases h1
  · injection hv with e1 e2 e3
    injection e1 with e1
    injection e1 with e1
    subst e1; subst e3
    refine .inr ⟨g, c, _, rfl, hb, setCell_at v hh, h1, h2, by rw [Array.size_setIfInBounds]; exact h3, ?_⟩
    rw [Array.toList_setIfInBounds, List.take_set_of_le hj]
    exact h4
theorem own_cellIn {w : World} {base n c : Nat} {e : TypeId} {s g : Nat} {xs : List Value} (h : w.ownsRow base e s (.slice (some ⟨g, 0, none⟩) n c) n xs) {j : Nat} (hj : j < c * s) : (w.cell? ⟨g, j, none⟩).isSome = true ∧ w.frozen? ⟨g, j, none⟩ = false := by
  rcases h.2 with ⟨h1, _⟩ | ⟨g', cap, cur, hv, hb, hh, h1, h2, h3, h4⟩
  · cases h1
  · injection hv with e1 e2 e3
    injection e1 with e1
    injection e1 with e1
    subst e1; subst e3
    exact ⟨cell_at hh (by rw [h3]; exact hj), frozen_at hh⟩
theorem store_midTo {P : Program} {ops : Array Oper} {rest : List Oper} {op : Oper} {a : Act} {w : World} {Q : Exit → Act → World → Prop} (hgd : op.guard = none) (ty : TypeId) (x y : Operand) (ho : op.op = .store ty x y) (hd : op.dst = none)
    (b o : Nat) (cs : List Value) (hx : a.eval x = .pointer (some ⟨b, o, none⟩)) (hy : a.eval y = .agg cs.toArray)
    (ht : w.there b o cs.length) (hi : (P.info? ty).map (·.size) = some cs.toArray.size) (h1 : cs.toArray.all (·.oneCell') = true)
    (h : wpList P ops Q rest a (w.setCells b o cs)) : wpList P ops Q (op :: rest) a w :=
  wpList_store_mid hgd ty x y ho b o cs.toArray hx hy (by simpa using ht) hi h1 (by rw [hd]; exact h)
end Go.Proofs.Ytdlehchofmdjbaa
