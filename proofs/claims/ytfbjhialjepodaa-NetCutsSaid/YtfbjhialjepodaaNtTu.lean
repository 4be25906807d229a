import Derived.Test.YtfbjhialjepodaaNtL6
namespace Go.Proofs.Ytfbjhialjepodaa
open Go Go.RowKit
set_option linter.unusedVariables false
/-- As it was sent, or with one byte turned. -/
def Tf (bs : List Int) (f : Nt.Fr) : Prop := (f.tn = false → f.bytes = bs) ∧ (f.tn = true → ∃ j v, j < bs.length ∧ v ≠ bs.getD j 0 ∧ f.bytes = bs.set j v)
def TQ (bs : List Int) (st : Nt.St) : Prop := 1 ≤ st.way.length ∧ ∀ f ∈ st.way, Tf bs f
theorem Tf.len {bs : List Int} {f : Nt.Fr} (h : Tf bs f) : f.bytes.length = bs.length := by
  cases ht : f.tn with
  | false => rw [h.1 ht]
  | true =>
    obtain ⟨j, v, _, _, e⟩ := h.2 ht
    rw [e]; simp
theorem fr_mem {st : Nt.St} {k : Int} (h : Nt.has st k) : Nt.fr st k ∈ st.way := by
  obtain ⟨h0, h1⟩ := h
  unfold Nt.fr
  have : k.toNat < st.way.length := by omega
  rw [List.getD_eq_getElem?_getD, List.getElem?_eq_getElem this]
  exact List.getElem_mem this
theorem twin_has {st : Nt.St} {k : Int} (h : Nt.twinE st k = 0) : Nt.has st k := by
  unfold Nt.twinE at h
  by_cases hh : Nt.has st k
  · exact hh
  · rw [if_neg hh] at h; omega
theorem TQ.twin {bs : List Int} {st : Nt.St} (h : TQ bs st) (k : Int) : TQ bs (Nt.twinS st k) := by
  unfold Nt.twinS
  split
  · rename_i h0
    refine ⟨by simp, fun f hf => ?_⟩
    simp only [List.mem_append, List.mem_singleton] at hf
    rcases hf with hf | rfl
    · exact h.2 f hf
    · exact h.2 _ (fr_mem (twin_has h0))
  · exact h
theorem TQ.last {bs : List Int} {st : Nt.St} (h : TQ bs st) (k : Int) : TQ bs (Nt.lastS st k) := by
  unfold Nt.lastS
  split
  · rename_i h0
    refine ⟨by simp, fun f hf => ?_⟩
    simp only [List.mem_append, List.mem_singleton] at hf
    rcases hf with hf | rfl
    · exact h.2 f (List.mem_of_mem_eraseIdx hf)
    · exact h.2 _ (fr_mem h0)
  · exact h
theorem bx_ne {b c : Int} (hb : 0 ≤ b) (hc : 0 ≤ c) (h : c ≠ 0) : Nt.bx b c ≠ b := by
  unfold Nt.bx
  intro e
  have e2 : b.toNat ^^^ c.toNat = b.toNat := by omega
  have e3 : b.toNat ^^^ (b.toNat ^^^ c.toNat) = b.toNat ^^^ b.toNat := by rw [e2]
  rw [← Nat.xor_assoc, Nat.xor_self, Nat.zero_xor] at e3
  omega
theorem TQ.turn {bs : List Int} {st : Nt.St} (h : TQ bs st) (hB : Byt bs) (k at_ bits : Int) (hb : 0 ≤ bits) : TQ bs (Nt.turnS st k at_ bits) := by
  unfold Nt.turnS
  split
  · rename_i h0
    have hh : Nt.has st k := by
      unfold Nt.turnE at h0
      by_cases hh : Nt.has st k
      · exact hh
      · rw [if_neg hh] at h0; omega
    unfold Nt.turnE at h0
    rw [if_pos hh] at h0
    by_cases h1 : bits ≠ 0 ∧ 0 ≤ at_ ∧ at_ < (Nt.fr st k).bytes.length
    · rw [if_pos h1] at h0
      have ht : (Nt.fr st k).tn = false := by
        cases ht : (Nt.fr st k).tn with
        | false => rfl
        | true => rw [ht] at h0; simp at h0
      have hby := (h.2 _ (fr_mem hh)).1 ht
      refine ⟨by simpa using h.1, fun f hf => ?_⟩
      rcases List.mem_or_eq_of_mem_set hf with hf | rfl
      · exact h.2 f hf
      · have hl : at_.toNat < bs.length := by have := h1.2.2; rw [hby] at this; omega
        refine ⟨fun e => by simp [Nt.turnF] at e, fun _ => ⟨at_.toNat, Nt.bx (bs.getD at_.toNat 0) bits, hl, ?_, by simp only [Nt.turnF, hby]⟩⟩
        refine bx_ne ?_ hb h1.1
        rw [List.getD_eq_getElem?_getD, List.getElem?_eq_getElem hl]
        exact (hB _ (List.getElem_mem hl)).1
    · rw [if_neg h1] at h0; omega
  · exact h
/-- How many bytes differ. -/
def dif (bs ys : List Int) : Nat → Nat
  | 0 => 0
  | k + 1 => dif bs ys k + (if bs.getD k 0 = ys.getD k 0 then 0 else 1)
theorem dif_same (bs : List Int) (k : Nat) : dif bs bs k = 0 := by
  induction k with
  | zero => rfl
  | succ k ih => simp [dif, ih]
theorem dif_set {bs : List Int} {j : Nat} {v : Int} (hj : j < bs.length) (hv : v ≠ bs.getD j 0) (k : Nat) : dif bs (bs.set j v) k = if j < k then 1 else 0 := by
  induction k with
  | zero => rfl
  | succ k ih =>
    unfold dif
    rw [ih]
    by_cases h : j = k
    · subst h
      have e : (bs.set j v).getD j 0 = v := by rw [List.getD_eq_getElem?_getD, List.getElem?_set_self hj]; rfl
      rw [e, if_neg (Nat.lt_irrefl j), if_neg (fun e => hv e.symm), if_pos (Nat.lt_succ_self j)]
    · have e : (bs.set j v).getD k 0 = bs.getD k 0 := by rw [List.getD_eq_getElem?_getD, List.getElem?_set_ne h, ← List.getD_eq_getElem?_getD]
      rw [e, if_pos rfl, Nat.add_zero]
      by_cases h2 : j < k
      · rw [if_pos h2, if_pos (by omega)]
      · rw [if_neg h2, if_neg (by omega)]
theorem Tf.dif {bs : List Int} {f : Nt.Fr} (h : Tf bs f) : dif bs f.bytes bs.length = if f.tn then 1 else 0 := by
  cases ht : f.tn with
  | false => rw [h.1 ht, dif_same]; rfl
  | true =>
    obtain ⟨j, v, hj, hv, e⟩ := h.2 ht
    rw [e, dif_set hj hv, if_pos hj]; rfl
end Go.Proofs.Ytfbjhialjepodaa
