import Derived.Test.YtdlehchofmdjbaaSqT2
namespace Go.Proofs.Ytdlehchofmdjbaa
open Go Go.RowKit
set_option linter.unusedVariables false
set_option linter.unusedSimpArgs false
/-! Heard: the mathematics. -/
namespace Sq
/-- The items when what is acknowledged is noted, and the first d are gone. -/
def L2of (d : Nat) (G : List (Nat × Nat)) (o : Nat) (L : List ItB) : List ItB := (ackL d G o L).drop d
theorem L2_at (d : Nat) (G : List (Nat × Nat)) (o : Nat) (L : List ItB) (i : Nat) : (L2of d G o L)[i]? = (L[d + i]?).map fun y => if d + i < o then ackB d G (d + i) y else y := by
  unfold L2of ackL
  rw [List.getElem?_drop, List.getElem?_mapIdx]
theorem L2_len (d : Nat) (G : List (Nat × Nat)) (o : Nat) (L : List ItB) : (L2of d G o L).length = L.length - d := by
  unfold L2of; rw [List.length_drop, ackL_len]
theorem top_le (d : Nat) (G : List (Nat × Nat)) (n : Nat) : top d G n ≤ n := by
  induction n with
  | zero => exact Nat.le_refl _
  | succ n ih => rw [top]; split <;> omega
/-- The last one that is acknowledged, as the program finds it. -/
theorem top_rel {d : Nat} {G : List (Nat × Nat)} {o : Nat} {L : List ItB} (ho : o ≤ L.length) : ∀ j, d + j ≤ o → (topR (L2of d G o L) j = 0 ∧ top d G (d + j) ≤ d) ∨ (0 < topR (L2of d G o L) j ∧ top d G (d + j) = d + topR (L2of d G o L) j)
  | 0, h => .inl ⟨rfl, top_le _ _ _⟩
  | j + 1, h => by
    have ih := top_rel (d := d) (G := G) (L := L) ho j (by omega)
    have ha : ackAt (L2of d G o L) j = hit d G (d + j) := by
      unfold ackAt
      rw [L2_at, List.getElem?_eq_getElem (show d + j < L.length by omega)]
      simp only [Option.map_some]
      rw [if_pos (by omega)]
      rfl
    rw [topR, show d + (j + 1) = (d + j) + 1 from rfl, top, ha]
    by_cases hh : hit d G (d + j) = true
    · rw [if_pos hh, if_pos hh]
      exact .inr ⟨by omega, by omega⟩
    · rw [if_neg hh, if_neg hh]
      exact ih
theorem top_iff {d : Nat} {G : List (Nat × Nat)} {o : Nat} {L : List ItB} (ho : o ≤ L.length) (hd : d ≤ o) (i : Nat) : i < topR (L2of d G o L) (o - d) - 1 ↔ d + i + 1 < top d G o := by
  have h := top_rel (d := d) (G := G) (L := L) ho (o - d) (by omega)
  rw [show d + (o - d) = o by omega] at h
  rcases h with ⟨h1, h2⟩ | ⟨h1, h2⟩ <;> omega
theorem flU_mem {L : List ItB} {m i : Nat} : i ∈ flU L m ↔ i < m ∧ fliesB L i = true := by
  unfold flU
  rw [List.mem_filter, List.mem_range]
theorem flies2 {d : Nat} {G : List (Nat × Nat)} {o : Nat} {L : List ItB} {i : Nat} {y : ItB} (h : L[d + i]? = some y) (hi : d + i < o) : fliesB (L2of d G o L) i = (!hit d G (d + i) && !y.x.mkd) := by
  unfold fliesB
  rw [L2_at, h]
  simp only [Option.map_some, if_pos hi, ackB]
  cases hit d G (d + i) <;> simp
theorem missed_eq (d t i : Nat) (x : It) (h : Bool) : missed d t (d + i) x h = (!h && decide (d + i + 1 < t) && !x.mkd) := by
  unfold missed
  rw [show decide (d ≤ d + i) = true from decide_eq_true (by omega)]
  simp
theorem heard_list {Q : QS} {L : List ItB} (he : Q.l = L.map (·.x)) (hg : Good Q) {d : Nat} (hd : d ≤ outN Q.l) (G : List (Nat × Nat)) :
    (heard Q d G).l = (missL (L2of d G (outN Q.l) L) (flU (L2of d G (outN Q.l) L) (topR (L2of d G (outN Q.l) L) (outN Q.l - d) - 1))).map (·.x) := by
  have hlen : L.length = Q.l.length := by rw [he]; simp
  have ho : outN Q.l ≤ L.length := by rw [hlen]; exact outN_le _
  generalize hoo : outN Q.l = o at hd ho
  apply List.ext_getElem?
  intro i
  unfold heard missL
  rw [hoo]
  simp only [List.getElem?_drop, List.getElem?_mapIdx, List.getElem?_map, L2_at]
  rw [he, List.getElem?_map]
  cases hq : L[d + i]? with
  | none => rfl
  | some y =>
    simp only [Option.map_some]
    congr 1
    by_cases hi : d + i < o
    · rw [if_pos hi, if_pos hi]
      have hc : (flU (L2of d G o L) (topR (L2of d G o L) (o - d) - 1)).contains i = (decide (d + i + 1 < top d G o) && (!hit d G (d + i) && !y.x.mkd)) := by
        rw [Bool.eq_iff_iff, List.contains_iff_mem, flU_mem, top_iff ho hd, flies2 hq hi]
        simp
      rw [hc]
      unfold hear1
      cases hh : hit d G (d + i) with
      | true => simp [ackB, hh]
      | false =>
        rw [missed_eq]
        cases hmk : y.x.mkd with
        | true => simp [ackB, hh, hmk]
        | false =>
          by_cases ht : d + i + 1 < top d G o
          · simp only [Bool.not_false, Bool.true_and, Bool.and_true, decide_eq_true ht, if_true, Bool.false_eq_true, if_false]
            unfold missB
            simp only [ackB, hh, hmk]
            by_cases hm : y.x.miss = 2
            · simp [hm]
            · simp [hm, hmk]
          · simp [ackB, hh, hmk, ht]
    · rw [if_neg hi, if_neg hi]
      have hc : (flU (L2of d G o L) (topR (L2of d G o L) (o - d) - 1)).contains i = false := by
        rw [Bool.eq_false_iff]
        intro h
        rw [List.contains_iff_mem, flU_mem, top_iff ho hd] at h
        have := top_le d G o
        omega
      rw [hc]
      rfl
theorem range_split (a b : Nat) : List.range (a + b) = List.range a ++ (List.range b).map (a + ·) := by
  rw [List.range_add]
theorem heard_fast {Q : QS} {L : List ItB} (he : Q.l = L.map (·.x)) {d : Nat} (hd : d ≤ outN Q.l) (G : List (Nat × Nat)) :
    fastPs Q d G = fastP (L2of d G (outN Q.l) L) (flU (L2of d G (outN Q.l) L) (topR (L2of d G (outN Q.l) L) (outN Q.l - d) - 1)) := by
  have hlen : L.length = Q.l.length := by rw [he]; simp
  have ho : outN Q.l ≤ L.length := by rw [hlen]; exact outN_le _
  unfold fastPs
  generalize hoo : outN Q.l = o at hd ho
  obtain ⟨m, hm⟩ : ∃ m, m = topR (L2of d G o L) (o - d) - 1 := ⟨_, rfl⟩
  have hiff := top_iff (G := G) ho hd
  rw [← hm] at hiff ⊢
  have hmo : d + m ≤ o := by
    have := topR_le (L2of d G o L) (o - d)
    omega
  have e : o = d + m + (o - (d + m)) := by omega
  have key : ∀ (n : Nat), (List.range (d + m + n)).filterMap (lostAt Q.l d G o) = (List.range m).filterMap (fun i => match L[d + i]? with
      | some y => if (!hit d G (d + i) && !y.x.mkd) = true ∧ y.x.miss = 2 then some y.x.path else none
      | none => none) := by
    intro n
    rw [range_split, List.filterMap_append, range_split, List.filterMap_append]
    have z1 : (List.range d).filterMap (lostAt Q.l d G o) = [] := by
      rw [List.filterMap_eq_nil_iff]
      intro i hi
      have := List.mem_range.1 hi
      unfold lostAt
      cases Q.l[i]? with
      | none => rfl
      | some x =>
        have hf : missed d (top d G o) i x (hit d G i) = false := by
          unfold missed; rw [decide_eq_false (show ¬ d ≤ i by omega)]; simp
        simp [hf]
    have z3 : ((List.range n).map (d + m + ·)).filterMap (lostAt Q.l d G o) = [] := by
      rw [List.filterMap_eq_nil_iff]
      intro i hi
      obtain ⟨k, hk, rfl⟩ := List.mem_map.1 hi
      unfold lostAt
      cases Q.l[d + m + k]? with
      | none => rfl
      | some x =>
        have h1 : ¬ d + (m + k) + 1 < top d G o := fun h => by have := (hiff (m + k)).2 h; omega
        have hf : missed d (top d G o) (d + m + k) x (hit d G (d + m + k)) = false := by
          unfold missed; rw [decide_eq_false (show ¬ d + m + k + 1 < top d G o by rw [Nat.add_assoc d m k]; exact h1)]; simp
        simp [hf]
    rw [z1, z3, List.nil_append, List.append_nil, List.filterMap_map]
    refine filterMap_cong fun i hi => ?_
    have him := List.mem_range.1 hi
    simp only [Function.comp]
    unfold lostAt
    rw [he, List.getElem?_map]
    cases hq : L[d + i]? with
    | none => rfl
    | some y =>
      simp only [Option.map_some]
      rw [missed_eq, decide_eq_true ((hiff i).1 him)]
      simp
  rw [show List.range o = List.range (d + m + (o - (d + m))) by rw [← e], key]
  unfold fastP flU
  rw [List.filterMap_filter]
  refine filterMap_cong fun i hi => ?_
  have him := List.mem_range.1 hi
  cases hq : L[d + i]? with
  | none =>
    have : (L2of d G o L)[i]? = none := by rw [L2_at, hq]; rfl
    simp [this]
  | some y =>
    rw [flies2 hq (by omega)]
    have : (L2of d G o L)[i]? = some (ackB d G (d + i) y) := by rw [L2_at, hq]; simp only [Option.map_some]; rw [if_pos (by omega)]
    rw [this]
    cases hit d G (d + i) <;> cases hmk : y.x.mkd <;> simp [ackB, hmk]
theorem hear1_keeps (d : Nat) (G : List (Nat × Nat)) (t i : Nat) (x : It) : (hear1 d G t i x).p = x.p ∧ (hear1 d G t i x).out = x.out ∧ (x.miss ≤ 2 → (hear1 d G t i x).miss ≤ 2) ∧ ((hear1 d G t i x).mkd = true → x.mkd = true ∨ missed d t i x false = true) := by
  unfold hear1
  split
  · exact ⟨rfl, rfl, fun h => h, fun h => by cases h⟩
  · split
    · rename_i hm
      split
      · exact ⟨rfl, rfl, fun _ => Nat.zero_le _, fun _ => .inr hm⟩
      · rename_i h2
        exact ⟨rfl, rfl, fun h => by show x.miss + 1 ≤ 2; omega, fun h => .inl h⟩
    · exact ⟨rfl, rfl, fun h => h, fun h => .inl h⟩
theorem heard_ix (Q : QS) (d : Nat) (G : List (Nat × Nat)) (i : Nat) : (heard Q d G).l[i]? = (Q.l[d + i]?).map fun x => if d + i < outN Q.l then hear1 d G (top d G (outN Q.l)) (d + i) x else x := by
  unfold heard
  simp only [List.getElem?_drop, List.getElem?_mapIdx]
theorem heard_good {Q : QS} (h : Good Q) {d : Nat} (hd : d ≤ outN Q.l) (G : List (Nat × Nat)) : Good (heard Q d G) ∧ outN (heard Q d G).l = outN Q.l - d ∧ cum (heard Q d G) = (cum Q + d) % 4294967296 := by
  have hol := outN_le Q.l
  have hlen : (heard Q d G).l.length = Q.l.length - d := by unfold heard; simp
  have hk : ∀ (i : Nat) (x' : It), (heard Q d G).l[i]? = some x' → ∃ x : It, Q.l[d + i]? = some x ∧ x'.p = x.p ∧ x'.out = x.out ∧ x'.miss ≤ 2 ∧ (x'.mkd = true → x'.out = true) := fun i x' hx => by
    rw [heard_ix] at hx
    cases hq : Q.l[d + i]? with
    | none => rw [hq] at hx; cases hx
    | some x =>
      rw [hq] at hx
      have hx2 := Option.some.inj hx
      have hb := h.bd x (List.mem_of_getElem? hq)
      have hm := h.mo x (List.mem_of_getElem? hq)
      refine ⟨x, rfl, ?_⟩
      by_cases hi : d + i < outN Q.l
      · simp only [if_pos hi] at hx2
        obtain ⟨k1, k2, k3, k4⟩ := hear1_keeps d G (top d G (outN Q.l)) (d + i) x
        subst hx2
        exact ⟨k1, k2, k3 hb.2.2, fun _ => by rw [k2]; exact (h.pre _ _ hq).2 hi⟩
      · simp only [if_neg hi] at hx2
        subst hx2
        exact ⟨rfl, rfl, hb.2.2, hm⟩
  have ho : outN (heard Q d G).l = outN Q.l - d := outN_eq (by rw [hlen]; omega) (fun i x' hx => by
    obtain ⟨x, hq, _, e, _⟩ := hk i x' hx
    rw [e, h.pre _ _ hq]
    omega)
  have hc : cum (heard Q d G) = (cum Q + d) % 4294967296 := by
    unfold cum
    rw [hlen]
    show (Q.nx + 4294967295 - (Q.l.length - d)) % 4294967296 = _
    have := h.len
    omega
  refine ⟨⟨by rw [hlen]; have := h.len; omega, h.nx, fun i x' hx => ?_, fun i x' hx => ?_, fun x' hx => ?_, fun x' hx => ?_, fun x' hx hm => ?_⟩, ho, hc⟩
  · rw [ho]
    obtain ⟨x, hq, _, e, _⟩ := hk i x' hx
    rw [e, h.pre _ _ hq]
    omega
  · rw [hc]
    obtain ⟨x, hq, e, _⟩ := hk i x' hx
    rw [e, h.tsn _ _ hq]
    omega
  · obtain ⟨i, hi⟩ := List.mem_iff_getElem?.1 hx
    obtain ⟨x, hq, e, _⟩ := hk i x' hi
    rw [e]; exact h.bs x (List.mem_of_getElem? hq)
  · obtain ⟨i, hi⟩ := List.mem_iff_getElem?.1 hx
    obtain ⟨x, hq, e, _, hm, _⟩ := hk i x' hi
    rw [e]; have := h.bd x (List.mem_of_getElem? hq); exact ⟨this.1, this.2.1, hm⟩
  · obtain ⟨i, hi⟩ := List.mem_iff_getElem?.1 hx
    obtain ⟨x, hq, _, _, _, hm'⟩ := hk i x' hi
    exact hm' hm
theorem ackB_keeps (d : Nat) (G : List (Nat × Nat)) (i : Nat) (y : ItB) : (ackB d G i y).A = y.A ∧ (ackB d G i y).c = y.c ∧ (ackB d G i y).x.p = y.x.p := ⟨rfl, rfl, rfl⟩
theorem missB_keeps (y : ItB) : (missB y).A = y.A ∧ (missB y).c = y.c ∧ (missB y).x.p = y.x.p := by unfold missB; split <;> exact ⟨rfl, rfl, rfl⟩
theorem keeps_mem {d : Nat} {G : List (Nat × Nat)} {o : Nat} {L : List ItB} {pre : List Nat} : ∀ y' ∈ missL (L2of d G o L) pre, ∃ y ∈ L, y'.A = y.A ∧ y'.c = y.c ∧ y'.x.p = y.x.p := fun y' hy' => by
  obtain ⟨i, hi⟩ := List.mem_iff_getElem?.1 hy'
  unfold missL at hi
  rw [List.getElem?_mapIdx, L2_at] at hi
  cases hq : L[d + i]? with
  | none => rw [hq] at hi; cases hi
  | some y =>
    rw [hq] at hi
    have h2 := Option.some.inj hi
    refine ⟨y, List.mem_of_getElem? hq, ?_⟩
    have k1 := ackB_keeps d G (d + i) y
    have k2 := missB_keeps (ackB d G (d + i) y)
    have k3 := missB_keeps y
    rw [← h2]
    by_cases hc : pre.contains i = true
    · by_cases hi2 : d + i < o
      · simp only [if_pos hc, if_pos hi2]
        exact ⟨k2.1.trans k1.1, k2.2.1.trans k1.2.1, k2.2.2.trans k1.2.2⟩
      · simp only [if_pos hc, if_neg hi2]
        exact k3
    · by_cases hi2 : d + i < o
      · simp only [if_neg hc, if_pos hi2]
        exact k1
      · refine ⟨?_, ?_, ?_⟩ <;> simp only [if_neg hc, if_neg hi2]
end Sq
end Go.Proofs.Ytdlehchofmdjbaa
