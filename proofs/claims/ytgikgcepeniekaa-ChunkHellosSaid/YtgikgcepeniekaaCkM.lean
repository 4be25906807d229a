import Derived.Test.YtgikgcepeniekaaCk5
import Derived.Test.YtgikgcepeniekaaCk9
namespace Go.Proofs.Ytgikgcepeniekaa
open Go Go.RowKit
set_option linter.unusedVariables false
set_option linter.unusedSimpArgs false
/-! Mathematics of reading what was written. -/
section
variable {xs l : List Int} {r r' : R} {v : Int} {s : Nat}
theorem failR_ne {k : Int} (hk : k ≠ 0) (r : R) : (failR k r).e ≠ 0 := by
  unfold failR
  simp only
  split
  · exact hk
  · assumption
theorem failR_e (k : Int) {r : R} (h : r.e ≠ 0) : (failR k r).e = r.e := by simp [failR, h]
theorem be_inj {a b : Int} {s : Nat} (h : be a s = be b s) (ha : 0 ≤ a ∧ a < 256 ^ s) (hb : 0 ≤ b ∧ b < 256 ^ s) : a = b := by
  rw [← num_be_eq ha.1 ha.2, ← num_be_eq hb.1 hb.2, h]
/-- Read well: what was there was the number and the rest. -/
theorem rd_fwd (h : RdStep xs s v r r') (hb : Byt xs) (he : r'.e = 0) : r.e = 0 ∧ xs.drop r.at_ = be v s ++ xs.drop r'.at_ ∧ r'.at_ = r.at_ + s ∧ r.at_ + s ≤ xs.length := by
  have h1 := h.st
  have h2 := h.val
  unfold rdN at h1
  unfold rdV at h2
  by_cases hf : r.at_ + s ≤ xs.length
  · rw [if_pos hf] at h1 h2
    subst h1
    refine ⟨he, ?_, rfl, hf⟩
    have hl : ((xs.drop r.at_).take s).length = s := by simp; omega
    have := be_num ((xs.drop r.at_).take s) ((hb.drop _).take _)
    rw [hl] at this
    rw [h2, this, ← List.drop_drop, List.take_append_drop]
  · rw [if_neg hf] at h1
    subst h1
    exact absurd he (failR_ne (by decide) r)
theorem rd_bwd (h : RdStep xs s v r r') {n : Int} (hx : xs.drop r.at_ = be n s ++ l) (hn : 0 ≤ n ∧ n < 256 ^ s) (ha : r.at_ ≤ xs.length) : v = n ∧ r'.e = r.e ∧ xs.drop r'.at_ = l ∧ r'.at_ ≤ xs.length := by
  have h1 := h.st
  have h2 := h.val
  have hlen := congrArg List.length hx
  rw [List.length_append, be_length, List.length_drop] at hlen
  have hf : r.at_ + s ≤ xs.length := by omega
  unfold rdN at h1
  unfold rdV at h2
  rw [if_pos hf] at h1 h2
  subst h1
  refine ⟨?_, rfl, ?_, hf⟩
  · rw [h2, hx, List.take_left' (be_length _ _), num_be_eq hn.1 hn.2]
  · show xs.drop (r.at_ + s) = l
    rw [← List.drop_drop, hx, List.drop_left' (be_length _ _)]
theorem reqR_t (r : R) : reqR true r = r := rfl
theorem req_fwd {b : Bool} (he : (reqR b r).e = 0) : b = true ∧ r.e = 0 ∧ reqR b r = r := by
  cases b
  · exact absurd he (failR_ne (by decide) r)
  · exact ⟨rfl, he, rfl⟩
theorem zer_fwd {zs : List Int} (hz : (zerR zs r).e = 0) : zs = List.replicate zs.length 0 ∧ r.e = 0 ∧ zerR zs r = r := by
  induction zs generalizing r with
  | nil => exact ⟨rfl, hz, rfl⟩
  | cons x zs ih =>
    have h1 : zerR (x :: zs) r = zerR zs (reqR (x == 0) r) := rfl
    rw [h1] at hz ⊢
    obtain ⟨h2, h3, h4⟩ := ih hz
    obtain ⟨k1, k2, k3⟩ := req_fwd h3
    rw [k3] at h4
    have hx : x = 0 := by simpa using k1
    subst hx
    refine ⟨?_, k2, by rw [k3]; exact h4⟩
    rw [List.length_cons, List.replicate_succ, ← h2]
theorem zer_bwd (n : Nat) (r : R) : zerR (List.replicate n 0) r = r := by
  induction n with
  | zero => rfl
  | succ n ih => rw [List.replicate_succ]; exact ih
theorem padN_add4 (n : Nat) : padN (n + 4) = padN n := by unfold padN; omega
/-- Padded bytes, read well. -/
theorem pd_fwd {bs : List Int} (h : PdStep xs bs r r') (hb : Byt xs) (he : r'.e = 0) : r.e = 0 ∧ xs.drop r.at_ = be (4 + (bs.length : Int)) 2 ++ padL bs ++ xs.drop r'.at_ ∧ bs.length + 4 < 65536 ∧ r'.at_ ≤ xs.length ∧ r'.at_ = r.at_ + 2 + bs.length + padN bs.length := by
  obtain ⟨n, r1, h1, h2, h3⟩ := h.ex
  subst h3
  obtain ⟨z1, z2, z3⟩ := zer_fwd he
  rw [z3] at he ⊢
  generalize hr2 : reqR (decide (4 ≤ (n : Int))) r1 = r2 at *
  generalize hr3 : rdNI xs ((n : Int) - 4) r2 = r3 at *
  have p1 : r3.e = 0 ∧ r3.at_ + padN n ≤ xs.length ∧ rdN xs (padN n) r3 = ⟨r3.at_ + padN n, r3.e⟩ := by
    by_cases hf : r3.at_ + padN n ≤ xs.length
    · unfold rdN at z2 ⊢; rw [if_pos hf] at z2 ⊢; exact ⟨z2, hf, rfl⟩
    · unfold rdN at z2; rw [if_neg hf] at z2; exact absurd z2 (failR_ne (by decide) r3)
  have p2 : ¬ ((n : Int) - 4 < 0) ∧ r2.e = 0 ∧ r2.at_ + (n - 4) ≤ xs.length ∧ r3 = ⟨r2.at_ + (n - 4), r2.e⟩ ∧ bs = (xs.drop r2.at_).take (n - 4) := by
    have e3 := p1.1
    rw [← hr3] at e3
    unfold rdNI at e3 hr3
    unfold rdBI at h2
    by_cases hneg : (n : Int) - 4 < 0
    · rw [if_pos hneg] at e3; exact absurd e3 (failR_ne (by decide) r2)
    · rw [if_neg hneg] at e3 hr3 h2
      have hn : ((n : Int) - 4).toNat = n - 4 := by omega
      rw [hn] at e3 hr3 h2
      by_cases hf : r2.at_ + (n - 4) ≤ xs.length
      · unfold rdN at e3 hr3; unfold rdB at h2; rw [if_pos hf] at e3 hr3 h2
        exact ⟨hneg, e3, hf, hr3.symm, h2⟩
      · unfold rdN at e3; rw [if_neg hf] at e3; exact absurd e3 (failR_ne (by decide) r2)
  obtain ⟨q1, q2, q3, q4, q5⟩ := p2
  have e2 := q2
  rw [← hr2] at e2
  obtain ⟨k1, k2, k3⟩ := req_fwd e2
  rw [k3] at hr2
  subst hr2
  obtain ⟨f1, f2, f3, f4⟩ := rd_fwd h1 hb k2
  have hl : bs.length = n - 4 := by rw [q5]; simp; omega
  have hn4 : ((4 : Int) + (bs.length : Int)) = n := by rw [hl]; omega
  have hz : rdB xs (padN n) r3 = List.replicate (padN bs.length) 0 := by
    have e1 : (rdB xs (padN n) r3).length = padN n := by unfold rdB; rw [if_pos p1.2.1]; simp; omega
    have e2 : padN n = padN bs.length := by rw [hl, ← padN_add4 (n - 4)]; congr 1; omega
    rw [e1, e2] at z1
    rw [e2]; exact z1
  have hr3a : r3.at_ = r1.at_ + (n - 4) := by rw [q4]
  refine ⟨f1, ?_, ?_, ?_, ?_⟩
  · rw [f2, hn4, List.append_assoc]
    congr 1
    unfold padL
    rw [List.append_assoc, p1.2.2]
    show xs.drop r1.at_ = bs ++ (List.replicate (padN bs.length) 0 ++ xs.drop (r3.at_ + padN n))
    rw [← hz]
    unfold rdB
    rw [if_pos p1.2.1, ← List.drop_drop, List.take_append_drop, hr3a, ← List.drop_drop, q5, List.take_append_drop]
  · have := h1.hi
    have e : (256 : Int) ^ 2 = 65536 := by decide
    omega
  · rw [p1.2.2]; exact p1.2.1
  · rw [p1.2.2]
    show r3.at_ + padN n = _
    rw [hr3a, f3]
    have e2 : padN n = padN bs.length := by rw [hl, ← padN_add4 (n - 4)]; congr 1; omega
    rw [e2, hl]
theorem pd_bwd {bs cs : List Int} (h : PdStep xs bs r r') (hx : xs.drop r.at_ = be (4 + (cs.length : Int)) 2 ++ padL cs ++ l) (hc : cs.length + 4 < 65536) (ha : r.at_ ≤ xs.length) : bs = cs ∧ r'.e = r.e ∧ xs.drop r'.at_ = l ∧ r'.at_ ≤ xs.length := by
  obtain ⟨n, r1, h1, h2, h3⟩ := h.ex
  have e65 : (256 : Int) ^ 2 = 65536 := by decide
  obtain ⟨b1, b2, b3, b4⟩ := rd_bwd h1 (n := 4 + (cs.length : Int)) (l := padL cs ++ l) (by rw [hx, List.append_assoc]) (by omega) ha
  have hn : n = cs.length + 4 := by omega
  subst hn
  have hd : decide (4 ≤ ((cs.length + 4 : Nat) : Int)) = true := by simp; omega
  rw [hd, reqR_t] at h2 h3
  have hlen := congrArg List.length b3
  rw [List.length_append, padL_length, List.length_drop] at hlen
  have hneg : ¬ (((cs.length + 4 : Nat) : Int) - 4 < 0) := by omega
  have ht : (((cs.length + 4 : Nat) : Int) - 4).toNat = cs.length := by omega
  have hf : r1.at_ + cs.length ≤ xs.length := by omega
  have eB : rdBI xs (((cs.length + 4 : Nat) : Int) - 4) r1 = cs := by
    unfold rdBI rdB
    rw [if_neg hneg, ht, if_pos hf, b3]
    unfold padL
    rw [List.append_assoc, List.take_left' rfl]
  have eR : rdNI xs (((cs.length + 4 : Nat) : Int) - 4) r1 = ⟨r1.at_ + cs.length, r1.e⟩ := by
    unfold rdNI rdN
    rw [if_neg hneg, ht, if_pos hf]
  rw [eR, padN_add4] at h3
  have hf2 : r1.at_ + cs.length + padN cs.length ≤ xs.length := by omega
  have eD : xs.drop (r1.at_ + cs.length) = List.replicate (padN cs.length) 0 ++ l := by
    rw [← List.drop_drop, b3]
    unfold padL
    rw [List.append_assoc, List.drop_left' rfl]
  have eZ : rdB xs (padN cs.length) ⟨r1.at_ + cs.length, r1.e⟩ = List.replicate (padN cs.length) 0 := by
    unfold rdB
    simp only
    rw [if_pos hf2, eD, List.take_left' (by simp)]
  rw [eZ, zer_bwd] at h3
  unfold rdN at h3
  simp only at h3
  rw [if_pos hf2] at h3
  subst h3
  refine ⟨by rw [h2, eB], b2, ?_, hf2⟩
  show xs.drop (r1.at_ + cs.length + padN cs.length) = l
  rw [← List.drop_drop, eD, List.drop_left' (by simp)]
end
end Go.Proofs.Ytgikgcepeniekaa
