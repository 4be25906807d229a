import Derived.Test.YtiagapibfdpfdaaAvL1
namespace Go.Proofs.Ytiagapibfdpfdaa
open Go Go.RowKit
set_option linter.unusedVariables false
set_option linter.unusedSimpArgs false
/-! Flags that mean nothing, and bytes that fill up: mathematics. -/
/-- An attribute's bytes, of which the first k that fill up are z. -/
def encK (r z : Int) (k : Nat) (a : Av.Avp) : List Int := be a.code 4 ++ ((avFl a + r) :: (be (avLen a : Int) 3 ++ (avVen a.vendor ++ (a.bs ++ (List.replicate k z ++ List.replicate (padN (avLen a) - k) 0)))))
theorem encK_all (r z : Int) (a : Av.Avp) : encK r z (padN (avLen a)) a = encX r z a := by simp [encK, encX]
theorem encK_zero (r z : Int) (a : Av.Avp) : encK r z 0 a = encX r 0 a := by simp [encK, encX]
theorem encK_length (r z : Int) {k : Nat} {a : Av.Avp} (h : k ≤ padN (avLen a)) : (encK r z k a).length = avLen a + padN (avLen a) := by
  have h2 := avVen_length a.vendor
  simp only [encK, List.length_append, List.length_cons, be_length, List.length_replicate]
  unfold avLen at h ⊢; omega
theorem set_mid {pre l post : List Int} {j : Nat} {x : Int} (h : j < l.length) : (pre ++ l ++ post).set (pre.length + j) x = pre ++ l.set j x ++ post := by
  rw [List.append_assoc, List.set_append_right _ _ (by omega), Nat.add_sub_cancel_left, List.set_append_left _ _ h, List.append_assoc]
theorem set_flag {r z : Int} {a : Av.Avp} : (encA a).set 4 (avFl a + r) = encK r z 0 a := by
  rw [encK_zero]
  unfold encA encX
  rw [List.set_append_right _ _ (by simp [be_length])]
  simp [be_length]
theorem set_fill {r z : Int} {k : Nat} {a : Av.Avp} (h : k < padN (avLen a)) : (encK r z k a).set (avLen a + k) z = encK r z (k + 1) a := by
  have h2 := avVen_length a.vendor
  have hl : avLen a = avHead a.vendor + a.bs.length := rfl
  generalize hp : padN (avLen a) = p at h
  unfold encK
  rw [hp]
  have e1 : ∀ (x : Int) (ys : List Int), be a.code 4 ++ (x :: (be (avLen a : Int) 3 ++ (avVen a.vendor ++ (a.bs ++ ys)))) = (be a.code 4 ++ [x] ++ be (avLen a : Int) 3 ++ avVen a.vendor ++ a.bs) ++ ys := by intro x ys; simp
  rw [e1, e1]
  have e2 : (be a.code 4 ++ [avFl a + r] ++ be (avLen a : Int) 3 ++ avVen a.vendor ++ a.bs).length = avLen a := by simp [be_length]; omega
  rw [List.set_append_right _ _ (by rw [e2]; omega), e2, Nat.add_sub_cancel_left]
  congr 1
  rw [List.set_append_right _ _ (by simp), List.length_replicate, Nat.sub_self, show p - k = (p - (k + 1)) + 1 by omega, List.replicate_succ, List.set_cons_zero, List.replicate_succ']
  simp
/-- The bytes when the first i are turned, and of the next one the flags and the first k that fill up. -/
def preX (r z : Int) (l : List Av.Avp) (i : Nat) : List Int := (l.take i).flatMap (encX r z)
theorem preX_length (r z : Int) (l : List Av.Avp) (i : Nat) : (preX r z l i).length = szL l i := by
  unfold preX szL encAs
  induction l.take i with
  | nil => rfl
  | cons a t ih => simp only [List.flatMap_cons, List.length_append]; rw [ih, encX_length, encA_length]
theorem preX_succ {r z : Int} {l : List Av.Avp} {i : Nat} {a : Av.Avp} (h : l[i]? = some a) : preX r z l (i + 1) = preX r z l i ++ encX r z a := by
  obtain ⟨hl, he⟩ := List.getElem?_eq_some_iff.1 h
  unfold preX
  rw [List.take_succ_eq_append_getElem hl, he, List.flatMap_append]
  simp
theorem drop_step {l : List Av.Avp} {i : Nat} {a : Av.Avp} (h : l[i]? = some a) : encAs (l.drop i) = encA a ++ encAs (l.drop (i + 1)) := by
  obtain ⟨hl, he⟩ := List.getElem?_eq_some_iff.1 h
  rw [List.drop_eq_getElem_cons hl, he, encAs_cons]
theorem turn_flag {r z : Int} {l : List Av.Avp} {i : Nat} {a : Av.Avp} (h : l[i]? = some a) : (preX r z l i ++ encAs (l.drop i)).set (szL l i + 4) (avFl a + r) = preX r z l i ++ encK r z 0 a ++ encAs (l.drop (i + 1)) := by
  have h2 := avVen_length a.vendor
  rw [drop_step h, ← List.append_assoc, ← preX_length r z, set_mid (by rw [encA_length]; unfold avLen; omega), set_flag (z := z)]
theorem turn_fill {r z : Int} {l : List Av.Avp} {i k : Nat} {a : Av.Avp} (hk : k < padN (avLen a)) : (preX r z l i ++ encK r z k a ++ encAs (l.drop (i + 1))).set (szL l i + avLen a + k) z = preX r z l i ++ encK r z (k + 1) a ++ encAs (l.drop (i + 1)) := by
  rw [Nat.add_assoc, ← preX_length r z, set_mid (by rw [encK_length r z (by omega)]; omega), set_fill hk]
theorem turn_next {r z : Int} {l : List Av.Avp} {i : Nat} {a : Av.Avp} (h : l[i]? = some a) : preX r z l i ++ encK r z (padN (avLen a)) a ++ encAs (l.drop (i + 1)) = preX r z l (i + 1) ++ encAs (l.drop (i + 1)) := by
  rw [preX_succ h, encK_all]
theorem turn_all (r z : Int) (l : List Av.Avp) (hr : 0 ≤ r ∧ r < 32) (hok : AvsOK l) (hn : l.length ≤ 64) (hb : (encAs l).length ≤ 4096) : GetRes (preX r z l l.length ++ encAs (l.drop l.length)) (l, 0, 0) := by
  have e1 : l.drop l.length = [] := List.drop_length
  have e2 : preX r z l l.length ++ encAs (l.drop l.length) = preX r z l l.length := by rw [e1]; simp [encAs]
  rw [e2]
  refine .inl ⟨by rw [preX_length, szL_all (Nat.le_refl _)]; exact hb, ?_⟩
  have hle : ∀ a ∈ l, avLen a < 16777216 := by
    intro a ha
    obtain ⟨s, t, rfl⟩ := List.append_of_mem ha
    rw [encAs_append, encAs_cons, List.length_append, List.length_append, encA_length] at hb
    omega
  have := getA_enc (l.map fun a => (r, z, a)) 64 0 (fun x hx => by
    obtain ⟨a, ha, rfl⟩ := List.mem_map.1 hx
    exact ⟨hok a ha, hle a ha, hr⟩) (by simpa using hn)
  have e : (l.map fun a => (r, z, a)).flatMap (fun x => encX x.1 x.2.1 x.2.2) = preX r z l l.length := by
    unfold preX; rw [List.flatMap_map, List.take_length]
  rw [e] at this
  rw [this, List.map_map]
  congr 1
  exact List.map_id l
/-- What stands there. -/
theorem num_len {r z : Int} {l : List Av.Avp} {i : Nat} {a : Av.Avp} (h : l[i]? = some a) (hl : avLen a < 16777216) : num 0 (((preX r z l i ++ encAs (l.drop i)).drop (szL l i + 5)).take 3) = (avLen a : Int) := by
  rw [drop_step h, ← List.drop_drop, drop_app (preX_length r z l i)]
  have e : (encA a ++ encAs (l.drop (i + 1))).drop 5 = be (avLen a : Int) 3 ++ (avVen a.vendor ++ (a.bs ++ List.replicate (padN (avLen a)) 0) ++ encAs (l.drop (i + 1))) := by
    unfold encA encX
    rw [List.append_assoc, show 5 = 4 + 1 from rfl, ← List.drop_drop, drop_app (be_length _ _)]
    simp
  rw [e, take_app (be_length _ _)]
  exact num_be_eq (by omega) (by rw [p256_3]; omega)
theorem flag_at {r z : Int} {l : List Av.Avp} {i : Nat} {a : Av.Avp} (h : l[i]? = some a) : (preX r z l i ++ encAs (l.drop i))[szL l i + 4]? = some (avFl a) := by
  rw [drop_step h, ← preX_length r z, List.getElem?_append_right (by omega), Nat.add_sub_cancel_left]
  unfold encA encX
  rw [List.append_assoc, List.getElem?_append_right (by simp [be_length])]
  simp [be_length]
theorem ys_length {r z : Int} {l : List Av.Avp} {i : Nat} : (preX r z l i ++ encAs (l.drop i)).length = (encAs l).length := by
  rw [List.length_append, preX_length]
  unfold szL
  rw [← List.length_append, ← encAs_append, List.take_append_drop]
theorem ys_byt {r z : Int} {l : List Av.Avp} (i : Nat) (hr : 0 ≤ r ∧ r < 32) (hz : 0 ≤ z ∧ z < 256) (hok : AvsOK l) : Byt (preX r z l i ++ encAs (l.drop i)) := by
  refine Byt.append (fun x hx => ?_) (byt_encAs fun a ha => hok a (List.mem_of_mem_drop ha))
  unfold preX at hx
  obtain ⟨a, ha, hx⟩ := List.mem_flatMap.1 hx
  exact byt_encX (hok a (List.mem_of_mem_take ha)) hr hz x hx
theorem bits_31 (n : Nat) (h : n < 256) : bits .and .u8 (n : Int) 31 = ((n % 32 : Nat) : Int) := by
  have : ∀ n : Fin 256, bits .and .u8 (n.val : Int) 31 = ((n.val % 32 : Nat) : Int) := by decide +kernel
  exact this ⟨n, h⟩
theorem or_flag (f : Nat) (hf : f < 8) (r : Nat) (hr : r < 32) : bits .or .u8 ((f * 32 : Nat) : Int) (r : Int) = ((f * 32 + r : Nat) : Int) := by
  have : ∀ (f : Fin 8) (r : Fin 32), bits .or .u8 ((f.val * 32 : Nat) : Int) (r.val : Int) = ((f.val * 32 + r.val : Nat) : Int) := by decide +kernel
  exact this ⟨f, hf⟩ ⟨r, hr⟩
theorem or_fl (a : Av.Avp) (r : Nat) (hr : r < 32) : bits .or .u8 (avFl a) (r : Int) = avFl a + (r : Int) := by
  have h := avFl_bd a
  obtain ⟨f, hf⟩ := Int.eq_ofNat_of_zero_le h.1
  have h2 : f = f / 32 * 32 := by omega
  have := or_flag (f / 32) (by omega) r hr
  rw [← h2] at this
  rw [hf, this]; omega
end Go.Proofs.Ytiagapibfdpfdaa
