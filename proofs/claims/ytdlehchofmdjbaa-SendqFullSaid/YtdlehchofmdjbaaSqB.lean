import Derived.Test.YtdlehchofmdjbaaSqP2
namespace Go.Proofs.Ytdlehchofmdjbaa
open Go Go.RowKit
set_option linter.unusedVariables false
set_option linter.unusedSimpArgs false
/-! Items that change where they lie. -/
theorem flat_set {α : Type} (f : α → List Value) (k : Nat) (hk : ∀ x, (f x).length = k) {l : List α} {i : Nat} {y y' : α} (h : l[i]? = some y) {j : Nat} {v : Value} (hj : j < k) (hf : f y' = (f y).set j v) : (l.flatMap f).set (i * k + j) v = (l.set i y').flatMap f := by
  induction l generalizing i with
  | nil => simp at h
  | cons z l ih =>
    cases i with
    | zero =>
      simp at h
      subst h
      simp only [List.flatMap_cons, List.set_cons_zero, Nat.zero_mul, Nat.zero_add]
      rw [List.set_append_left _ _ (by rw [hk]; exact hj), hf]
    | succ i =>
      have h2 : l[i]? = some y := by simpa using h
      simp only [List.flatMap_cons, List.set_cons_succ]
      rw [List.set_append_right _ _ (by rw [hk, Nat.add_mul]; omega), hk]
      rw [show (i + 1) * k + j - k = i * k + j by rw [Nat.add_mul]; omega]
      rw [ih h2]
namespace Sq
theorem outN_eq {l : List It} {n : Nat} (hn : n ≤ l.length) (h : ∀ i x, l[i]? = some x → (x.out = true ↔ i < n)) : outN l = n := by
  have e : l = l.take n ++ l.drop n := (List.take_append_drop n l).symm
  rw [e, outN_append (fun x hx => ?_), outN_none (fun x hx => ?_), List.length_take]
  · omega
  · rw [List.head?_eq_getElem?, List.getElem?_drop] at hx
    have := h _ x hx
    cases hb : x.out with
    | false => rfl
    | true => rw [hb] at this; simp at this
  · obtain ⟨i, hi⟩ := List.mem_iff_getElem?.1 hx
    rw [List.getElem?_take] at hi
    split at hi
    · rename_i hlt
      exact (h i x hi).2 hlt
    · cases hi
/-- Items that keep their pieces, and which of them are out. -/
theorem Good.same {Q : QS} (h : Good Q) {l : List It} (hl : l.length = Q.l.length) (hs : ∀ (i : Nat) (x' : It), l[i]? = some x' → ∃ x : It, Q.l[i]? = some x ∧ x'.p = x.p ∧ x'.out = x.out ∧ x'.miss ≤ 2 ∧ (x'.mkd = true → x'.out = true)) : Good ⟨Q.nx, l⟩ ∧ outN l = outN Q.l ∧ cum ⟨Q.nx, l⟩ = cum Q := by
  have ho : outN l = outN Q.l := outN_eq (by rw [hl]; exact outN_le _) (fun i x hx => by
    obtain ⟨y, hy, _, e, _⟩ := hs i x hx
    rw [e]; exact h.pre i y hy)
  have hc : cum ⟨Q.nx, l⟩ = cum Q := by unfold cum; simp [hl]
  refine ⟨⟨by show l.length ≤ 256; rw [hl]; exact h.len, h.nx, fun i x hx => ?_, fun i x hx => ?_, fun x hx => ?_, fun x hx => ?_, fun x hx hm => ?_⟩, ho, hc⟩
  · show x.out = true ↔ i < outN l
    rw [ho]
    obtain ⟨y, hy, _, e, _⟩ := hs i x hx
    rw [e]; exact h.pre i y hy
  · rw [hc]
    obtain ⟨y, hy, e, _⟩ := hs i x hx
    rw [e]; exact h.tsn i y hy
  · obtain ⟨i, hi⟩ := List.mem_iff_getElem?.1 hx
    obtain ⟨y, hy, e, _⟩ := hs i x hi
    rw [e]; exact h.bs y (List.mem_of_getElem? hy)
  · obtain ⟨i, hi⟩ := List.mem_iff_getElem?.1 hx
    obtain ⟨y, hy, e, _, hm, _⟩ := hs i x hi
    rw [e]; have := h.bd y (List.mem_of_getElem? hy); exact ⟨this.1, this.2.1, hm⟩
  · obtain ⟨i, hi⟩ := List.mem_iff_getElem?.1 hx
    obtain ⟨y, hy, e, _, _, ho'⟩ := hs i x hi
    exact ho' hm
theorem pick_some {Q : QS} (h : Good Q) {k : Nat} (hp : pick Q.l = some k) : (Q.l.findIdx? (·.mkd) = some k ∧ k < outN Q.l) ∨ (Q.l.findIdx? (·.mkd) = none ∧ k = outN Q.l ∧ k < Q.l.length) := by
  unfold pick at hp
  split at hp
  · rename_i j hj
    injection hp with hp
    subst hp
    refine .inl ⟨hj, ?_⟩
    obtain ⟨hl, hm, _⟩ := List.findIdx?_eq_some_iff_getElem.1 hj
    have := h.mo Q.l[j] (List.getElem_mem hl) hm
    exact (h.pre j _ (List.getElem?_eq_getElem hl)).1 this
  · rename_i hn
    refine .inr ⟨hn, ?_⟩
    obtain ⟨hl, hm, hb⟩ := List.findIdx?_eq_some_iff_getElem.1 hp
    have h1 := (h.pre k _ (List.getElem?_eq_getElem hl))
    have h2 : ¬ k < outN Q.l := fun hlt => by have := h1.2 hlt; simp [this] at hm
    refine ⟨?_, hl⟩
    rcases Nat.lt_or_ge (outN Q.l) k with h3 | h3
    · have h4 := hb (outN Q.l) h3
      have h5 := (h.pre (outN Q.l) _ (List.getElem?_eq_getElem (by omega))).1
      simp at h4
      have := h5 h4
      omega
    · omega
theorem pick_no {Q : QS} (h : Good Q) (hp : pick Q.l = none) : Q.l.findIdx? (·.mkd) = none ∧ outN Q.l = Q.l.length := by
  unfold pick at hp
  split at hp
  · cases hp
  · rename_i hn
    refine ⟨hn, ?_⟩
    rw [List.findIdx?_eq_none_iff] at hp
    rcases Nat.lt_or_ge (outN Q.l) Q.l.length with h1 | h1
    · have h2 := (h.pre (outN Q.l) _ (List.getElem?_eq_getElem h1)).1
      have h3 := hp Q.l[outN Q.l] (List.getElem_mem h1)
      simp at h3
      have := h2 h3
      omega
    · have := outN_le Q.l; omega
theorem sent_good {Q : QS} (h : Good Q) {k : Nat} (hk : k < Q.l.length) (path : Int) (hk2 : k ≤ outN Q.l) : Good (sent Q k path) ∧ outN (sent Q k path).l = (if k = outN Q.l then outN Q.l + 1 else outN Q.l) ∧ cum (sent Q k path) = cum Q := by
  have hg : ∀ (i : Nat) (x' : It), (Q.l.modify k (go path))[i]? = some x' → ∃ x : It, Q.l[i]? = some x ∧ x'.p = x.p ∧ x'.out = (x.out || decide (i = k)) ∧ x'.miss ≤ 2 ∧ (x'.mkd = true → x'.out = true) := fun i x' hx => by
    rw [List.getElem?_modify] at hx
    cases hq : Q.l[i]? with
    | none => rw [hq] at hx; cases hx
    | some x =>
      rw [hq] at hx
      have hx2 : (if k = i then go path x else x) = x' := Option.some.inj hx
      refine ⟨x, rfl, ?_⟩
      have hb := h.bd x (List.mem_of_getElem? hq)
      have hm := h.mo x (List.mem_of_getElem? hq)
      by_cases e : k = i
      · rw [if_pos e] at hx2; subst hx2; subst e; simp [go]
      · rw [if_neg e] at hx2; subst hx2
        have : ¬ i = k := fun e' => e e'.symm
        simp [this]; exact ⟨hb.2.2, hm⟩
  have hn : outN (sent Q k path).l = (if k = outN Q.l then outN Q.l + 1 else outN Q.l) := by
    refine outN_eq ?_ (fun i x' hx => ?_)
    · have := outN_le Q.l
      show _ ≤ (Q.l.modify k (go path)).length
      rw [List.length_modify]
      split <;> omega
    · obtain ⟨x, hq, _, ho, _⟩ := hg i x' hx
      have := h.pre i x hq
      rw [ho]
      simp only [Bool.or_eq_true, decide_eq_true_eq, this]
      split <;> omega
  have hc : cum (sent Q k path) = cum Q := by unfold cum sent; simp
  refine ⟨⟨by show (Q.l.modify k (go path)).length ≤ 256; rw [List.length_modify]; exact h.len, h.nx, fun i x' hx => ?_, fun i x' hx => ?_, fun x' hx => ?_, fun x' hx => ?_, fun x' hx hm => ?_⟩, hn, hc⟩
  · rw [hn]
    obtain ⟨x, hq, _, ho, _⟩ := hg i x' hx
    have := h.pre i x hq
    rw [ho]
    simp only [Bool.or_eq_true, decide_eq_true_eq, this]
    split <;> omega
  · rw [hc]
    obtain ⟨x, hq, e, _⟩ := hg i x' hx
    rw [e]; exact h.tsn i x hq
  · obtain ⟨i, hi⟩ := List.mem_iff_getElem?.1 hx
    obtain ⟨x, hq, e, _⟩ := hg i x' hi
    rw [e]; exact h.bs x (List.mem_of_getElem? hq)
  · obtain ⟨i, hi⟩ := List.mem_iff_getElem?.1 hx
    obtain ⟨x, hq, e, _, hm, _⟩ := hg i x' hi
    rw [e]; have := h.bd x (List.mem_of_getElem? hq); exact ⟨this.1, this.2.1, hm⟩
  · obtain ⟨i, hi⟩ := List.mem_iff_getElem?.1 hx
    obtain ⟨x, hq, _, _, _, hm'⟩ := hg i x' hi
    exact hm' hm
/-- A queue of which items were changed where they lie. -/
theorem IQ.changed {S : Nat → Prop} {w w' : World} {q c : Nat} {A : Option Addr} {L L' : List ItB} {Q Q' : QS} (h : IQ S w q A c L Q) (hl : L'.length = L.length) (he : Q'.l = L'.map (·.x)) (hc : cum Q' = cum Q) (hg : Good Q')
    (hy : ∀ y' ∈ L', ∃ y ∈ L, y'.A = y.A ∧ y'.c = y.c ∧ y'.x.p = y.x.p) (htop : w'.heap[q]? = some (.cells (qcl (cum Q) A L.length c (outN Q'.l)) 52 (0, 0)))
    (hrow : w'.ownsRow 0 56 11 (.slice A L.length c) L.length (L'.flatMap itc)) (ho : Out (fun k => k = q ∨ blk? A = some k) w w') : IQ S w' q A c L' Q' := by
  refine ⟨by rw [hc, hl]; exact htop, by rw [hl]; exact hrow, he, fun y' hy' => ?_, h.inq, h.inA, fun y' hy' => ?_, hg, fun k hk => Nat.lt_of_lt_of_le (h.lt k hk) ho.size⟩
  · obtain ⟨y, hm, e1, e2, e3⟩ := hy y' hy'
    rw [e1, e2, e3]
    refine own_blk (h.by_ y hm) (fun g hg => ?_)
    rw [ownBlock_slice] at hg
    have hi := h.inB y hm g hg
    exact ho.block g (h.lt g hi.1) (fun e => by rcases e with e | e; exact hi.2.1 e; exact hi.2.2 e)
  · obtain ⟨y, hm, e1, _, _⟩ := hy y' hy'
    rw [e1]; exact h.inB y hm
end Sq
end Go.Proofs.Ytdlehchofmdjbaa
