import Derived.Test.YtgcabidhpnaoiaaFgC
import Derived.Test.YtgcabidhpnaoiaaFgS
import Derived.Deep.MidRow
namespace Go.Proofs.Ytgcabidhpnaoiaa
open Go Go.RowKit
set_option linter.unusedVariables false
/-! A whole struct stored into an own row. -/
namespace Fg
/-- Parts overwritten. -/
def setL {α : Type} (xs : List α) (o : Nat) : List α → List α
  | [] => xs
  | v :: vs => setL (xs.set o v) (o + 1) vs
theorem setL_eq {α : Type} : ∀ (vs xs : List α) (o : Nat), o + vs.length ≤ xs.length → setL xs o vs = xs.take o ++ vs ++ xs.drop (o + vs.length)
  | [], xs, o, h => by simp [setL]
  | v :: vs, xs, o, h => by
    simp only [List.length_cons] at h
    rw [setL, setL_eq vs _ _ (by rw [List.length_set]; omega)]
    rw [List.take_set, List.drop_set_of_lt (by omega)]
    have h1 : (xs.take (o + 1)).set o v = xs.take o ++ [v] := by
      rw [List.take_add_one, List.getElem?_eq_getElem (by omega)]
      rw [List.set_append_right _ _ (by simp; omega)]
      simp only [Option.toList_some, List.length_take, Nat.min_eq_left (show o ≤ xs.length by omega), Nat.sub_self, List.set_cons_zero]
    rw [h1]
    simp only [List.append_assoc, List.cons_append, List.nil_append, List.length_cons]
    congr 3
    rw [Nat.add_right_comm, Nat.add_assoc]
theorem rowG_sets {α : Type} (f : α → List Value) (k : Nat) (hk : ∀ x, (f x).length = k) (y : α) : ∀ (l : List α) (i : Nat), i < l.length → (l.flatMap f).take (i * k) ++ f y ++ (l.flatMap f).drop (i * k + k) = (l.set i y).flatMap f
  | [], i, h => by simp at h
  | z :: l, 0, h => by
    simp only [Nat.zero_mul, Nat.zero_add, List.take_zero, List.nil_append, List.flatMap_cons, List.set_cons_zero]
    rw [List.drop_append_of_le_length (by rw [hk]; exact Nat.le_refl _), List.drop_of_length_le (by rw [hk]; exact Nat.le_refl _), List.nil_append]
  | z :: l, i + 1, h => by
    simp only [List.length_cons] at h
    simp only [List.flatMap_cons, List.set_cons_succ]
    rw [← rowG_sets f k hk y l i (by omega), Nat.add_mul, Nat.one_mul]
    rw [List.take_append, List.drop_append, hk, List.take_of_length_le (by rw [hk]; omega), List.drop_of_length_le (by rw [hk]; omega)]
    rw [show i * k + k - k = i * k by omega, show i * k + k + k - k = i * k + k by omega]
    simp
theorem row_sets {base : Nat} {e : TypeId} {size n c g : Nat} : ∀ (vs xs : List Value) (o : Nat) (w : World), w.ownsRow base e size (.slice (some ⟨g, 0, none⟩) n c) n xs →
    (w.setCells g o vs).ownsRow base e size (.slice (some ⟨g, 0, none⟩) n c) n (setL xs o vs) ∧ Out (fun k => k = g) w (w.setCells g o vs)
  | [], xs, o, w, h => ⟨h, Out.refl _ _⟩
  | v :: vs, xs, o, w, h => by
    obtain ⟨h1, h2⟩ := row_sets vs (xs.set o v) (o + 1) (w.setCell ⟨g, o, none⟩ v) (World.ownsRow.stored h o v).1
    exact ⟨h1, (setCell_out w g o v).trans h2 (Sub.refl _ _)⟩
theorem row_there {base : Nat} {e : TypeId} {size n c g : Nat} {xs : List Value} {w : World} (h : w.ownsRow base e size (.slice (some ⟨g, 0, none⟩) n c) n xs) {o k : Nat} (ho : o + k ≤ xs.length) : w.there g o k := fun j hj => by
  refine ⟨?_, World.ownsRow.frozenAt h _⟩
  rw [row_cell h (List.getElem?_eq_getElem (show o + j < xs.length by omega))]
  rfl
/-- A struct stored into row l at i. -/
theorem row_put {α : Type} (f : α → List Value) (k : Nat) (hk : ∀ x, (f x).length = k) {base : Nat} {e : TypeId} {n c g : Nat} {l : List α} {w : World} (h : w.ownsRow base e k (.slice (some ⟨g, 0, none⟩) n c) n (l.flatMap f)) {i : Nat} (hi : i < l.length) (y : α) :
    w.there g (i * k) k ∧ (w.setCells g (i * k) (f y)).ownsRow base e k (.slice (some ⟨g, 0, none⟩) n c) n ((l.set i y).flatMap f) ∧ Out (fun k => k = g) w (w.setCells g (i * k) (f y)) := by
  have hl : i * k + k ≤ (l.flatMap f).length := by
    rw [rowG_length f k hk, ← Nat.succ_mul]
    exact Nat.mul_le_mul_right k hi
  obtain ⟨h1, h2⟩ := row_sets (f y) _ (i * k) w h
  refine ⟨row_there h hl, ?_, h2⟩
  rw [setL_eq _ _ _ (by rw [hk]; exact hl), hk, rowG_sets f k hk y l i hi] at h1
  exact h1
theorem row_blk {w : World} {base g n c s : Nat} {e : TypeId} {xs : List Value} (h : w.ownsRow base e s (.slice (some ⟨g, 0, none⟩) n c) n xs) : ∃ cs, w.heap[g]? = some (.cells cs e (0, 0)) := by
  rcases h.2 with ⟨h', _⟩ | ⟨g', cap', cur, h', _, hg, _⟩
  · simp at h'
  · simp only [Value.slice.injEq, Option.some.injEq, Addr.mk.injEq, and_true, true_and] at h'
    obtain ⟨rfl, rfl⟩ := h'
    exact ⟨cur, hg⟩
theorem row_blk2 {w : World} {base n c s : Nat} {e : TypeId} {A : Option Addr} {xs : List Value} (h : w.ownsRow base e s (.slice A n c) n xs) {k : Nat} (hk : blk? A = some k) : ∃ cs, w.heap[k]? = some (.cells cs e (0, 0)) := by
  rcases h.2 with ⟨h', _⟩ | ⟨g', cap', cur, h', _, hg, _⟩
  · injection h' with h'; rw [h'] at hk; cases hk
  · injection h' with h'
    rw [h'] at hk
    injection hk with hk
    subst hk
    exact ⟨cur, hg⟩
theorem mc_one (l : List MsB) : ∀ u ∈ l.flatMap mc, u.oneCell' = true := by
  intro u hu
  obtain ⟨z, _, hz⟩ := List.mem_flatMap.1 hu
  simp only [mc, List.mem_cons, List.not_mem_nil, or_false] at hz
  rcases hz with rfl | rfl <;> rfl
theorem pcc_oneC (z : PcB) : (pcc z).toArray.all (·.oneCell') = true := by simp [pcc, Value.oneCell']
theorem pcc_i51 (z : PcB) : (Try.prog.info? 51).map (·.size) = some (pcc z).toArray.size := by
  have h : (Try.prog.info? 51).map (·.size) = some 7 := by kernel_rfl
  rw [h]; rfl
end Fg
/-- 'wpList_store_mid', the frame as it was. -/
theorem store_midTo {P : Program} {ops : Array Oper} {rest : List Oper} {op : Oper} {a : Act} {w : World} {Q : Exit → Act → World → Prop} (hgd : op.guard = none) (ty : TypeId) (x y : Operand) (ho : op.op = .store ty x y) (hd : op.dst = none)
    (b o : Nat) (cs : List Value) (hx : a.eval x = .pointer (some ⟨b, o, none⟩)) (hy : a.eval y = .agg cs.toArray)
    (ht : w.there b o cs.length) (hi : (P.info? ty).map (·.size) = some cs.toArray.size) (h1 : cs.toArray.all (·.oneCell') = true)
    (h : wpList P ops Q rest a (w.setCells b o cs)) : wpList P ops Q (op :: rest) a w :=
  wpList_store_mid hgd ty x y ho b o cs.toArray hx hy (by simpa using ht) hi h1 (by rw [hd]; exact h)
end Go.Proofs.Ytgcabidhpnaoiaa
