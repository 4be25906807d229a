import Derived.Test.YtghldkjbmfbdfaaDoorVf
namespace Go.Proofs.YtghldkjbmfbdfaaDoor
open Go Go.RowKit
set_option linter.unusedVariables false
set_option linter.unusedSimpArgs false
/-! What rules say of attributes. -/
namespace Dc
structure Ru where
  code : Int
  vendor : Int
  type : Int
  must : Bool
  least : Int
  most : Int
abbrev Nm := Int × Int
def Ru.nm (r : Ru) : Nm := (r.code, r.vendor)
def nmA (a : Av.Avp) : Nm := (a.code, a.vendor)
def Ru.may (r : Ru) : Bool := decide (1 ≤ r.type ∧ r.type ≤ 11 ∧ 0 ≤ r.least ∧ r.least ≤ r.most ∧ r.most ≤ 64)
def has (rs : List Ru) (n : Nm) : Bool := rs.any fun q => decide (q.nm = n)
def okAt (rs : List Ru) (i : Nat) : Bool := match rs[i]? with
  | some r => r.may && !has (rs.take i) r.nm
  | none => true
def sound (rs : List Ru) : Bool := decide (rs.length ≤ 64) && (List.range rs.length).all (okAt rs)
def cnt (n : Nm) (l : List Av.Avp) : Nat := l.countP fun a => decide (nmA a = n)
def find (rs : List Ru) (n : Nm) : Option Ru := rs.find? fun r => decide (r.nm = n)
def valF (t : Int) (bs : List Int) : Int := if fitsR t bs = 0 then 0 else if fitsR t bs = 3 then 5014 else 5004
def fault (rs : List Ru) (pre : List Av.Avp) (a : Av.Avp) : Int := match find rs (nmA a) with
  | none => if a.must then 5001 else 0
  | some r => if r.most = 0 then 5008 else if r.most < (cnt (nmA a) pre : Int) + 1 then 5009 else valF r.type a.bs
def scan (rs : List Ru) : List Av.Avp → List Av.Avp → Option (Int × Av.Avp)
  | _, [] => none
  | pre, a :: l => if fault rs pre a = 0 then scan rs (pre ++ [a]) l else some (fault rs pre a, a)
def missing (rs : List Ru) (l : List Av.Avp) : Option Ru := rs.find? fun r => decide ((cnt r.nm l : Int) < r.least)
def miss (r : Ru) : Av.Avp := ⟨r.code, r.vendor, r.must, false, List.replicate (lea r.type).toNat 0⟩
def judge (rs : List Ru) (l : List Av.Avp) : Int × List Av.Avp × Int := if sound rs then
    match scan rs [] l with
    | some (c, a) => (c, [a], 0)
    | none => match missing rs l with
      | some r => (5005, [miss r], 0)
      | none => (2001, [], 0)
  else (0, [], 2)
theorem cnt_snoc (n : Nm) (l : List Av.Avp) (a : Av.Avp) : cnt n (l ++ [a]) = cnt n l + if nmA a = n then 1 else 0 := by
  unfold cnt
  rw [List.countP_append]
  by_cases h : nmA a = n <;> simp [h]
theorem okAt_some {rs : List Ru} {i : Nat} {r : Ru} (h : rs[i]? = some r) : okAt rs i = (r.may && !has (rs.take i) r.nm) := by unfold okAt; rw [h]
theorem all_succ (f : Nat → Bool) (k : Nat) : (List.range (k + 1)).all f = ((List.range k).all f && f k) := by
  rw [List.range_succ, List.all_append]; simp
theorem sound_no {rs : List Ru} {i : Nat} (hi : i < rs.length) (h : okAt rs i = false) : sound rs = false := by
  unfold sound
  rw [Bool.and_eq_false_iff]
  refine .inr ?_
  rw [List.all_eq_false]
  exact ⟨i, List.mem_range.2 hi, by rw [h]; simp⟩
theorem sound_len {rs : List Ru} (h : ¬ rs.length ≤ 64) : sound rs = false := by unfold sound; rw [decide_eq_false h]; rfl
theorem sound_at {rs : List Ru} (h : sound rs = true) : rs.length ≤ 64 ∧ ∀ i, i < rs.length → okAt rs i = true := by
  unfold sound at h
  rw [Bool.and_eq_true, decide_eq_true_eq, List.all_eq_true] at h
  exact ⟨h.1, fun i hi => h.2 i (List.mem_range.2 hi)⟩
theorem has_true {rs : List Ru} {n : Nm} : has rs n = true ↔ ∃ r ∈ rs, r.nm = n := by
  unfold has; simp [List.any_eq_true]
/-- In sound rules a name stands once. -/
theorem sound_inj {rs : List Ru} (h : sound rs = true) {i j : Nat} {r q : Ru} (hi : rs[i]? = some r) (hj : rs[j]? = some q) (e : r.nm = q.nm) : i = j := by
  have key : ∀ {i j : Nat} {r q : Ru}, i < j → rs[i]? = some r → rs[j]? = some q → r.nm = q.nm → False := fun {i j r q} hlt hi hj e => by
    have h1 := (sound_at h).2 j (List.getElem?_eq_some_iff.1 hj).1
    rw [okAt_some hj, Bool.and_eq_true] at h1
    have h2 : has (rs.take j) q.nm = true := has_true.2 ⟨r, List.mem_of_getElem? (i := i) (by rw [List.getElem?_take, if_pos hlt]; exact hi), e⟩
    rw [h2] at h1
    exact absurd h1.2 (by simp)
  rcases Nat.lt_trichotomy i j with h1 | h1 | h1
  · exact (key h1 hi hj e).elim
  · exact h1
  · exact (key h1 hj hi e.symm).elim
theorem find_none {rs : List Ru} {n : Nm} (h : ∀ (i : Nat) (r : Ru), rs[i]? = some r → r.nm ≠ n) : find rs n = none := by
  unfold find
  rw [List.find?_eq_none]
  intro r hr
  obtain ⟨i, hi, rfl⟩ := List.mem_iff_getElem.1 hr
  simpa using h i _ (List.getElem?_eq_getElem hi)
theorem find_some {rs : List Ru} {n : Nm} {i : Nat} {r : Ru} (hi : rs[i]? = some r) (hr : r.nm = n) (hf : ∀ (j : Nat) (q : Ru), j < i → rs[j]? = some q → q.nm ≠ n) : find rs n = some r := by
  unfold find
  rw [List.find?_eq_some_iff_getElem]
  obtain ⟨h1, h2⟩ := List.getElem?_eq_some_iff.1 hi
  refine ⟨by simpa using hr, i, h1, h2, fun j hj => ?_⟩
  simpa using hf j _ hj (List.getElem?_eq_getElem (by omega))
theorem scan_cons {rs : List Ru} {pre l : List Av.Avp} {a : Av.Avp} (h : fault rs pre a = 0) : scan rs pre (a :: l) = scan rs (pre ++ [a]) l := by
  rw [scan, if_pos h]
theorem scan_split (rs : List Ru) : ∀ (l pre : List Av.Avp) (k : Nat), (∀ j a, j < k → l[j]? = some a → fault rs (pre ++ l.take j) a = 0) → scan rs pre l = scan rs (pre ++ l.take k) (l.drop k)
  | [], pre, k, _ => by simp
  | a :: l, pre, 0, _ => by simp
  | a :: l, pre, k + 1, h => by
    have h0 := h 0 a (by omega) rfl
    simp only [List.take_zero, List.append_nil] at h0
    rw [scan_cons h0, scan_split rs l (pre ++ [a]) k (fun j b hj hb => by
      have := h (j + 1) b (by omega) (by simpa using hb)
      simpa using this)]
    simp
theorem scan_hit {rs : List Ru} {l : List Av.Avp} {k : Nat} {a : Av.Avp} (ha : l[k]? = some a) (h : ∀ (j : Nat) (b : Av.Avp), j < k → l[j]? = some b → fault rs (l.take j) b = 0) (hf : fault rs (l.take k) a ≠ 0) : scan rs [] l = some (fault rs (l.take k) a, a) := by
  rw [scan_split rs l [] k (by simpa using h)]
  obtain ⟨h1, rfl⟩ := List.getElem?_eq_some_iff.1 ha
  rw [List.drop_eq_getElem_cons h1, List.nil_append]
  unfold scan
  rw [if_neg hf]
theorem scan_none {rs : List Ru} {l : List Av.Avp} (h : ∀ (j : Nat) (b : Av.Avp), l[j]? = some b → fault rs (l.take j) b = 0) : scan rs [] l = none := by
  rw [scan_split rs l [] l.length (fun j b _ hb => by simpa using h j b hb)]
  simp [scan]
end Dc
end Go.Proofs.YtghldkjbmfbdfaaDoor
