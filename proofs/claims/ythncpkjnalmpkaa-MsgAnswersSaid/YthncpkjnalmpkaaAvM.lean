import Derived.Test.YthncpkjnalmpkaaBytes
import Derived.Test.YthncpkjnalmpkaaCk0
namespace Go.Proofs.Ythncpkjnalmpkaa
open Go Go.RowKit
set_option linter.unusedVariables false
set_option linter.unusedSimpArgs false
/-! Attributes and their bytes: mathematics. -/
namespace Av
structure Avp where
  code : Int
  vendor : Int
  must : Bool
  prot : Bool
  bs : List Int
end Av
def avHead (v : Int) : Nat := if v = 0 then 8 else 12
def avFl (a : Av.Avp) : Int := (if a.vendor = 0 then 0 else 128) + (if a.must = true then 64 else 0) + (if a.prot = true then 32 else 0)
def avLen (a : Av.Avp) : Nat := avHead a.vendor + a.bs.length
def avVen (v : Int) : List Int := if v = 0 then [] else be v 4
/-- An attribute's bytes, with r in the flags that mean nothing and z in the bytes that fill up. -/
def encX (r z : Int) (a : Av.Avp) : List Int := be a.code 4 ++ ((avFl a + r) :: (be (avLen a : Int) 3 ++ (avVen a.vendor ++ (a.bs ++ List.replicate (padN (avLen a)) z))))
def encA (a : Av.Avp) : List Int := encX 0 0 a
def encAs (l : List Av.Avp) : List Int := l.flatMap encA
structure AvOK (a : Av.Avp) : Prop where
  code : 0 ≤ a.code ∧ a.code < 4294967296
  vendor : 0 ≤ a.vendor ∧ a.vendor < 4294967296
  byt : Byt a.bs
def AvsOK (l : List Av.Avp) : Prop := ∀ a ∈ l, AvOK a
theorem avVen_length (v : Int) : (avVen v).length + 8 = avHead v := by unfold avVen avHead; split <;> simp [be_length]
theorem encX_length (r z : Int) (a : Av.Avp) : (encX r z a).length = avLen a + padN (avLen a) := by
  have h := avVen_length a.vendor
  simp only [encX, List.length_append, List.length_cons, be_length, List.length_replicate]
  unfold avLen; omega
theorem encA_length (a : Av.Avp) : (encA a).length = avLen a + padN (avLen a) := encX_length 0 0 a
theorem encAs_snoc (l : List Av.Avp) (a : Av.Avp) : encAs (l ++ [a]) = encAs l ++ encA a := by simp [encAs]
theorem encAs_cons (l : List Av.Avp) (a : Av.Avp) : encAs (a :: l) = encA a ++ encAs l := by simp [encAs]
theorem encAs_append (l m : List Av.Avp) : encAs (l ++ m) = encAs l ++ encAs m := by simp [encAs]
theorem encAs_take_le (l : List Av.Avp) (k : Nat) : (encAs (l.take k)).length ≤ (encAs l).length := by
  conv => rhs; rw [← List.take_append_drop k l, encAs_append, List.length_append]
  omega
theorem encAs_take_succ {l : List Av.Avp} {k : Nat} {a : Av.Avp} (h : l[k]? = some a) : encAs (l.take (k + 1)) = encAs (l.take k) ++ encA a := by
  obtain ⟨hl, he⟩ := List.getElem?_eq_some_iff.1 h
  rw [List.take_succ_eq_append_getElem hl, he, encAs_snoc]
theorem avFl_bd (a : Av.Avp) : 0 ≤ avFl a ∧ avFl a ≤ 224 ∧ avFl a % 32 = 0 ∧ (128 ≤ avFl a ↔ a.vendor ≠ 0) ∧ (avFl a / 64 % 2 = if a.must = true then 1 else 0) ∧ (avFl a / 32 % 2 = if a.prot = true then 1 else 0) := by
  unfold avFl
  obtain ⟨c, v, m, p, bs⟩ := a
  simp only
  by_cases hv : v = 0 <;> cases m <;> cases p <;> simp [hv]
theorem byt_encX {r z : Int} {a : Av.Avp} (h : AvOK a) (hr : 0 ≤ r ∧ r < 32) (hz : 0 ≤ z ∧ z < 256) : Byt (encX r z a) := by
  have hf := avFl_bd a
  intro x hx
  simp only [encX, List.mem_append, List.mem_cons, List.mem_replicate] at hx
  rcases hx with hx | rfl | hx | hx | hx | ⟨-, rfl⟩
  · exact be_byt _ _ x hx
  · omega
  · exact be_byt _ _ x hx
  · unfold avVen at hx; split at hx
    · cases hx
    · exact be_byt _ _ x hx
  · exact h.byt x hx
  · exact hz
theorem byt_encA {a : Av.Avp} (h : AvOK a) : Byt (encA a) := byt_encX h (by omega) (by omega)
theorem byt_encAs {l : List Av.Avp} (h : AvsOK l) : Byt (encAs l) := by
  intro x hx
  simp only [encAs, List.mem_flatMap] at hx
  obtain ⟨a, ha, hx⟩ := hx
  exact byt_encA (h a ha) x hx
/-- The first attribute of bytes, and how many they are; or why there is none. -/
def stepA (l : List Int) : Except Int (Av.Avp × Nat) :=
  if l.length < 8 ∨ (128 ≤ l.getD 4 0 ∧ l.length < 12) then .error 3
  else if (num 0 ((l.drop 5).take 3)).toNat < (if 128 ≤ l.getD 4 0 then 12 else 8) then .error 2
  else if l.length < (num 0 ((l.drop 5).take 3)).toNat + padN (num 0 ((l.drop 5).take 3)).toNat then .error 3
  else if 128 ≤ l.getD 4 0 then
    if num 0 ((l.drop 8).take 4) = 0 then .error 2
    else .ok (⟨num 0 (l.take 4), num 0 ((l.drop 8).take 4), decide (l.getD 4 0 / 64 % 2 = 1), decide (l.getD 4 0 / 32 % 2 = 1), (l.drop 12).take ((num 0 ((l.drop 5).take 3)).toNat - 12)⟩, (num 0 ((l.drop 5).take 3)).toNat + padN (num 0 ((l.drop 5).take 3)).toNat)
  else .ok (⟨num 0 (l.take 4), 0, decide (l.getD 4 0 / 64 % 2 = 1), decide (l.getD 4 0 / 32 % 2 = 1), (l.drop 8).take ((num 0 ((l.drop 5).take 3)).toNat - 8)⟩, (num 0 ((l.drop 5).take 3)).toNat + padN (num 0 ((l.drop 5).take 3)).toNat)
/-- All of them, at most b, from the place p on. -/
def getA : Nat → Nat → List Int → List Av.Avp × Nat × Int
  | 0, p, l => ([], if l = [] then 0 else p, if l = [] then 0 else 4)
  | b + 1, p, l => if l = [] then ([], 0, 0) else match stepA l with
    | .error k => ([], p, k)
    | .ok (a, s) => if (getA b (p + s) (l.drop s)).2.2 = 0 then (a :: (getA b (p + s) (l.drop s)).1, 0, 0) else ([], (getA b (p + s) (l.drop s)).2)
def GetRes (xs : List Int) (r : List Av.Avp × Nat × Int) : Prop := (xs.length ≤ 4096 ∧ getA 64 0 xs = r) ∨ (4096 < xs.length ∧ r = ([], 0, 4))
theorem getRes_inj {xs : List Int} {r s : List Av.Avp × Nat × Int} (a : GetRes xs r) (b : GetRes xs s) : r = s := by
  rcases a with ⟨a1, a2⟩ | ⟨a1, a2⟩ <;> rcases b with ⟨b1, b2⟩ | ⟨b1, b2⟩
  · exact a2.symm.trans b2
  · omega
  · omega
  · rw [a2, b2]
/-- What is found behind those that were found. -/
def joinA (out : List Av.Avp) (p : List Av.Avp × Nat × Int) : List Av.Avp × Nat × Int := if p.2.2 = 0 then (out ++ p.1, 0, 0) else ([], p.2)
theorem stepA_ne {l : List Int} {k : Int} (h : stepA l = .error k) : k ≠ 0 := by
  unfold stepA at h
  repeat' split at h
  all_goals first
    | (injection h with h; omega)
    | cases h
theorem getA_err : ∀ (b p : Nat) (l : List Int), (getA b p l).2.2 ≠ 0 → (getA b p l).1 = [] := by
  intro b
  cases b with
  | zero => intro p l _; rfl
  | succ b =>
    intro p l h
    unfold getA at h ⊢
    split
    · rfl
    · rename_i hl
      rw [if_neg hl] at h
      split
      · rfl
      · rename_i a s hs
        rw [hs] at h
        simp only at h
        split
        · rename_i h0; rw [if_pos h0] at h; exact absurd rfl h
        · rfl
theorem getA_at0 : ∀ (b p : Nat) (l : List Int), (getA b p l).2.2 = 0 → (getA b p l).2.1 = 0 := by
  intro b
  cases b with
  | zero => intro p l h; unfold getA at h ⊢; simp only at h ⊢; split <;> simp_all
  | succ b =>
    intro p l h
    unfold getA at h ⊢
    split
    · rfl
    · rename_i hl
      rw [if_neg hl] at h
      split
      · rename_i k hs
        rw [hs] at h
        exact absurd h (stepA_ne hs)
      · rename_i a s hs
        rw [hs] at h
        simp only at h
        split
        · rfl
        · rename_i h0; rw [if_neg h0] at h; exact absurd h h0
theorem joinA_nil {b p : Nat} {l : List Int} : joinA [] (getA b p l) = getA b p l := by
  unfold joinA
  split
  · rename_i h0
    have h1 := getA_at0 b p l h0
    rw [List.nil_append]
    conv => rhs; rw [show getA b p l = ((getA b p l).1, (getA b p l).2.1, (getA b p l).2.2) from rfl, h0, h1]
  · rename_i h0
    have h1 := getA_err b p l h0
    conv => rhs; rw [show getA b p l = ((getA b p l).1, (getA b p l).2) from rfl, h1]
theorem joinA_step {b p s : Nat} {l : List Int} {a : Av.Avp} {out : List Av.Avp} (hl : l ≠ []) (hs : stepA l = .ok (a, s)) : joinA out (getA (b + 1) p l) = joinA (out ++ [a]) (getA b (p + s) (l.drop s)) := by
  rw [getA, if_neg hl, hs]
  by_cases h0 : (getA b (p + s) (l.drop s)).2.2 = 0
  · simp [joinA, h0]
  · simp [joinA, h0]
theorem joinA_err {b p : Nat} {l : List Int} {k : Int} {out : List Av.Avp} (hl : l ≠ []) (hs : stepA l = .error k) : joinA out (getA (b + 1) p l) = ([], p, k) := by
  have hk := stepA_ne hs
  rw [getA, if_neg hl, hs]
  simp only [joinA]
  rw [if_neg hk]
theorem joinA_end {b p : Nat} {out : List Av.Avp} : joinA out (getA b p []) = (out, 0, 0) := by
  cases b <;> simp [getA, joinA]
theorem joinA_full {p : Nat} {l : List Int} {out : List Av.Avp} (hl : l ≠ []) : joinA out (getA 0 p l) = ([], p, 4) := by
  simp [getA, joinA, hl]
theorem take_app {α : Type} {n : Nat} {a b : List α} (h : a.length = n) : (a ++ b).take n = a := by subst h; simp
theorem drop_app {α : Type} {n : Nat} {a b : List α} (h : a.length = n) : (a ++ b).drop n = b := by subst h; simp
theorem p256_3 : (256 : Int) ^ 3 = 16777216 := by decide
theorem p256_4 : (256 : Int) ^ 4 = 4294967296 := by decide
/-- What is written is read, whatever means nothing. -/
theorem stepA_enc {r z : Int} {a : Av.Avp} (h : AvOK a) (hl : avLen a < 16777216) (hr : 0 ≤ r ∧ r < 32) (rest : List Int) : stepA (encX r z a ++ rest) = .ok (a, (encX r z a).length) := by
  have hf := avFl_bd a
  have hN : num 0 (be (avLen a : Int) 3) = (avLen a : Int) := num_be_eq (by omega) (by rw [p256_3]; omega)
  have hC : num 0 (be a.code 4) = a.code := num_be_eq h.code.1 (by rw [p256_4]; exact h.code.2)
  have hL := encX_length r z a
  have hv := avVen_length a.vendor
  have hlen : (encX r z a ++ rest).length = avLen a + padN (avLen a) + rest.length := by rw [List.length_append, hL]
  have g4 : (encX r z a ++ rest).getD 4 0 = avFl a + r := by
    unfold encX
    rw [List.append_assoc, List.getD_eq_getElem?_getD, List.getElem?_append_right (by simp [be_length])]
    simp [be_length]
  have t4 : (encX r z a ++ rest).take 4 = be a.code 4 := by unfold encX; rw [List.append_assoc]; exact take_app (be_length _ _)
  have d5 : (encX r z a ++ rest).drop 5 = be (avLen a : Int) 3 ++ (avVen a.vendor ++ (a.bs ++ List.replicate (padN (avLen a)) z) ++ rest) := by
    unfold encX
    rw [List.append_assoc, show 5 = 4 + 1 from rfl, ← List.drop_drop, drop_app (be_length _ _)]
    simp
  have d8 : (encX r z a ++ rest).drop 8 = avVen a.vendor ++ (a.bs ++ List.replicate (padN (avLen a)) z ++ rest) := by
    rw [show 8 = 5 + 3 from rfl, ← List.drop_drop, d5, drop_app (be_length _ _)]
    simp
  have t3 : ((encX r z a ++ rest).drop 5).take 3 = be (avLen a : Int) 3 := by rw [d5]; exact take_app (be_length _ _)
  have hm : decide ((avFl a + r) / 64 % 2 = 1) = a.must := by
    have e : (avFl a + r) / 64 % 2 = avFl a / 64 % 2 := by omega
    rw [e, hf.2.2.2.2.1]; cases a.must <;> simp
  have hp : decide ((avFl a + r) / 32 % 2 = 1) = a.prot := by
    have e : (avFl a + r) / 32 % 2 = avFl a / 32 % 2 := by omega
    rw [e, hf.2.2.2.2.2]; cases a.prot <;> simp
  unfold stepA
  rw [g4, t3, t4, hN, hC, hlen, hL, hm, hp, Int.toNat_natCast]
  have hg8 : 8 ≤ avLen a := by unfold avLen; omega
  by_cases hv0 : a.vendor = 0
  · have e128 : ¬ (128 ≤ avFl a + r) := by have := hf.2.2.2.1; omega
    have eV : avVen a.vendor = [] := by unfold avVen; rw [if_pos hv0]
    have eH : avLen a = 8 + a.bs.length := by unfold avLen avHead; rw [if_pos hv0]
    rw [if_neg (by omega), if_neg (by rw [if_neg e128]; omega), if_neg (by omega), if_neg e128, d8, eV, List.nil_append, List.append_assoc, take_app (by omega)]
    obtain ⟨c, v, m, p, bs⟩ := a
    simp only at hv0; subst hv0; rfl
  · have e128 : 128 ≤ avFl a + r := by have := hf.2.2.2.1; omega
    have eV : avVen a.vendor = be a.vendor 4 := by unfold avVen; rw [if_neg hv0]
    have eH : avLen a = 12 + a.bs.length := by unfold avLen avHead; rw [if_neg hv0]
    have hV : num 0 (be a.vendor 4) = a.vendor := num_be_eq h.vendor.1 (by rw [p256_4]; exact h.vendor.2)
    have d12 : (encX r z a ++ rest).drop 12 = a.bs ++ List.replicate (padN (avLen a)) z ++ rest := by
      rw [show 12 = 8 + 4 from rfl, ← List.drop_drop, d8, eV, drop_app (be_length _ _)]
    rw [if_neg (by omega), if_neg (by rw [if_pos e128]; omega), if_neg (by omega), if_pos e128, d8, eV, take_app (be_length _ _), hV, if_neg hv0, d12, List.append_assoc, take_app (by omega)]
theorem encX_ne (r z : Int) (a : Av.Avp) (rest : List Int) : encX r z a ++ rest ≠ [] := by
  intro e
  have := congrArg List.length e
  rw [List.length_append, encX_length] at this
  have h2 := avVen_length a.vendor
  unfold avLen at this
  simp at this; omega
/-- Lists of attributes, each written in some way. -/
theorem getA_enc : ∀ (l : List (Int × Int × Av.Avp)) (b p : Nat), (∀ x ∈ l, AvOK x.2.2 ∧ avLen x.2.2 < 16777216 ∧ 0 ≤ x.1 ∧ x.1 < 32) → l.length ≤ b → getA b p (l.flatMap fun x => encX x.1 x.2.1 x.2.2) = (l.map (·.2.2), 0, 0)
  | [], b, p, _, _ => by cases b <;> simp [getA]
  | x :: l, 0, p, _, h => by simp at h
  | x :: l, b + 1, p, h, hb => by
    obtain ⟨h1, h2, h3⟩ := h x (by simp)
    have hs := stepA_enc (z := x.2.1) h1 h2 h3 (l.flatMap fun x => encX x.1 x.2.1 x.2.2)
    rw [List.flatMap_cons, getA, if_neg (encX_ne _ _ _ _), hs]
    simp only
    rw [drop_app rfl, getA_enc l b _ (fun y hy => h y (by simp [hy])) (by simpa using hb)]
    simp
theorem getA_encAs {l : List Av.Avp} {b p : Nat} (h : AvsOK l) (hl : (encAs l).length < 16777216) (hb : l.length ≤ b) : getA b p (encAs l) = (l, 0, 0) := by
  have hle : ∀ a ∈ l, avLen a < 16777216 := by
    intro a ha
    obtain ⟨s, t, rfl⟩ := List.append_of_mem ha
    rw [encAs_append, encAs_cons, List.length_append, List.length_append, encA_length] at hl
    omega
  have := getA_enc (l.map fun a => (0, 0, a)) b p (fun x hx => by
    obtain ⟨a, ha, rfl⟩ := List.mem_map.1 hx
    exact ⟨h a ha, hle a ha, by simp⟩) (by simpa using hb)
  have e : (l.map fun a => ((0 : Int), (0 : Int), a)).flatMap (fun x => encX x.1 x.2.1 x.2.2) = encAs l := by
    rw [List.flatMap_map]; rfl
  rw [e] at this
  rw [this, List.map_map]
  congr 1
  exact List.map_id l
theorem getRes_encAs {l : List Av.Avp} (h : AvsOK l) (hl : (encAs l).length ≤ 4096) (hb : l.length ≤ 64) : GetRes (encAs l) (l, 0, 0) := .inl ⟨hl, getA_encAs h (by omega) hb⟩
/-- What is read may be written, in as many bytes. -/
theorem stepA_back {l : List Int} {a : Av.Avp} {s : Nat} (hb : Byt l) (h : stepA l = .ok (a, s)) : AvOK a ∧ s ≤ l.length ∧ 0 < s ∧ s = (encA a).length := by
  have hB4 : ∀ t : List Int, Byt t → 0 ≤ num 0 (t.take 4) ∧ num 0 (t.take 4) < 4294967296 := by
    intro t ht
    have h1 := num_bd (t.take 4) (ht.take 4)
    have h2 : (t.take 4).length ≤ 4 := by rw [List.length_take]; omega
    have h3 : (256 : Int) ^ (t.take 4).length ≤ 4294967296 := by
      match (t.take 4).length, h2 with
      | 0, _ => decide
      | 1, _ => decide
      | 2, _ => decide
      | 3, _ => decide
      | 4, _ => decide
    omega
  have hN := num_bd ((l.drop 5).take 3) ((hb.drop 5).take 3)
  unfold stepA at h
  generalize hn : (num 0 ((l.drop 5).take 3)).toNat = N at h
  rw [encA_length]
  by_cases c1 : l.length < 8 ∨ (128 ≤ l.getD 4 0 ∧ l.length < 12)
  · rw [if_pos c1] at h; cases h
  rw [if_neg c1] at h
  by_cases c4 : 128 ≤ l.getD 4 0
  · simp only [if_pos c4] at h
    by_cases c2 : N < 12
    · rw [if_pos c2] at h; cases h
    rw [if_neg c2] at h
    by_cases c3 : l.length < N + padN N
    · rw [if_pos c3] at h; cases h
    rw [if_neg c3] at h
    by_cases c5 : num 0 ((l.drop 8).take 4) = 0
    · rw [if_pos c5] at h; cases h
    rw [if_neg c5] at h
    injection h with h
    injection h with h1 h2
    subst h1 h2
    have hl : avLen ⟨num 0 (l.take 4), num 0 ((l.drop 8).take 4), decide (l.getD 4 0 / 64 % 2 = 1), decide (l.getD 4 0 / 32 % 2 = 1), (l.drop 12).take (N - 12)⟩ = N := by
      unfold avLen avHead
      simp only
      rw [if_neg c5, List.length_take, List.length_drop]
      omega
    rw [hl]
    exact ⟨⟨hB4 l hb, hB4 _ (hb.drop 8), (hb.drop 12).take _⟩, by omega, by omega, rfl⟩
  · simp only [if_neg c4] at h
    by_cases c2 : N < 8
    · rw [if_pos c2] at h; cases h
    rw [if_neg c2] at h
    by_cases c3 : l.length < N + padN N
    · rw [if_pos c3] at h; cases h
    rw [if_neg c3] at h
    injection h with h
    injection h with h1 h2
    subst h1 h2
    have hl : avLen ⟨num 0 (l.take 4), 0, decide (l.getD 4 0 / 64 % 2 = 1), decide (l.getD 4 0 / 32 % 2 = 1), (l.drop 8).take (N - 8)⟩ = N := by
      unfold avLen avHead
      simp only
      rw [if_pos trivial, List.length_take, List.length_drop]
      omega
    rw [hl]
    exact ⟨⟨hB4 l hb, ⟨Int.le_refl 0, by show (0 : Int) < 4294967296; omega⟩, (hb.drop 8).take _⟩, by omega, by omega, rfl⟩
theorem getA_back : ∀ (b p : Nat) (l : List Int) (r : List Av.Avp) (q : Nat), Byt l → getA b p l = (r, q, 0) → AvsOK r ∧ r.length ≤ b ∧ (encAs r).length = l.length
  | 0, p, l, r, q, hb, h => by
    unfold getA at h
    by_cases hl : l = []
    · subst hl; simp at h; obtain ⟨rfl, rfl⟩ := h; exact ⟨(fun a ha => by cases ha), by simp, rfl⟩
    · simp [hl] at h
  | b + 1, p, l, r, q, hb, h => by
    unfold getA at h
    by_cases hl : l = []
    · subst hl; simp at h; obtain ⟨rfl, rfl⟩ := h; exact ⟨(fun a ha => by cases ha), by simp, rfl⟩
    · rw [if_neg hl] at h
      split at h
      · rename_i k hs
        injection h with h1 h2
        injection h2 with h2 h3
        exact absurd h3 (stepA_ne hs)
      · rename_i a s hs
        obtain ⟨k1, k2, k3, k4⟩ := stepA_back hb hs
        split at h
        · rename_i h0
          injection h with h1 h2
          subst h1
          have := getA_back b (p + s) (l.drop s) (getA b (p + s) (l.drop s)).1 (getA b (p + s) (l.drop s)).2.1 (hb.drop s) (by rw [← h0])
          obtain ⟨j1, j2, j3⟩ := this
          refine ⟨fun x hx => ?_, by simp; exact j2, ?_⟩
          · rcases List.mem_cons.1 hx with rfl | hx
            · exact k1
            · exact j1 x hx
          · rw [encAs_cons, List.length_append, j3, ← k4, List.length_drop]; omega
        · rename_i h0
          injection h with h1 h2
          exact absurd (by rw [h2]) h0
/-- What Put answers. -/
def PutRes (l : List Av.Avp) (ys : List Int) (k : Int) : Prop := (k = 0 ∧ ys = encAs l ∧ l.length ≤ 64 ∧ (encAs l).length ≤ 4096) ∨ (k = 4 ∧ ys = [] ∧ ¬ (l.length ≤ 64 ∧ (encAs l).length ≤ 4096))
theorem putRes_inj {l : List Av.Avp} {ys zs : List Int} {k k' : Int} (a : PutRes l ys k) (b : PutRes l zs k') : ys = zs ∧ k = k' := by
  rcases a with ⟨a1, a2, a3, a4⟩ | ⟨a1, a2, a3⟩ <;> rcases b with ⟨b1, b2, b3, b4⟩ | ⟨b1, b2, b3⟩
  · exact ⟨by rw [a2, b2], by omega⟩
  · exact absurd ⟨a3, a4⟩ b3
  · exact absurd ⟨b3, b4⟩ a3
  · exact ⟨by rw [a2, b2], by omega⟩
theorem PutRes.byt {l : List Av.Avp} {ys : List Int} {k : Int} (h : PutRes l ys k) (hb : AvsOK l) : Byt ys := by
  rcases h with ⟨-, h2, -⟩ | ⟨-, h2, -⟩
  · rw [h2]; exact byt_encAs hb
  · rw [h2]; exact byt_nil
end Go.Proofs.Ythncpkjnalmpkaa
