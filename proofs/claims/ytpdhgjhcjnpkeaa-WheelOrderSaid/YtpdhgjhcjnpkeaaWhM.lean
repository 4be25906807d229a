import Derived.Test.YtpdhgjhcjnpkeaaWhL2
namespace Go.Proofs.Ytpdhgjhcjnpkeaa
open Go Go.RowKit
set_option linter.unusedVariables false
/-- What is left behind a time: the alarms ahead of it are gone. -/
def Q2 (zs : List Int) (N : Nat) (last : Int) (L : List Tm.T) : Prop := L.length ≤ N ∧ ∀ x, x ∈ L ↔ ∃ j : Nat, j < N ∧ x = ((j : Int), zs.getD j 0) ∧ last < zs.getD j 0
/-- How often each was told. -/
def tld (zs : List Int) (N : Nat) (last : Int) : List Int := (List.range N).map fun j => if zs.getD j 0 ≤ last then 1 else 0
def mark (T : List Int) (R : List Tm.T) : List Int := R.foldl (fun T x => T.set x.1.toNat 1) T
theorem tld_length (zs : List Int) (N : Nat) (last : Int) : (tld zs N last).length = N := by simp [tld]
theorem tld_get {zs : List Int} {N j : Nat} {last : Int} (h : j < N) : (tld zs N last)[j]? = some (if zs.getD j 0 ≤ last then 1 else 0) := by
  simp [tld, h]
theorem mark_snoc (T : List Int) (R : List Tm.T) (x : Tm.T) : mark T (R ++ [x]) = (mark T R).set x.1.toNat 1 := by simp [mark]
theorem mark_length (T : List Int) (R : List Tm.T) : (mark T R).length = T.length := by
  induction R generalizing T with
  | nil => rfl
  | cons x R ih => show (mark (T.set x.1.toNat 1) R).length = _; rw [ih]; simp
theorem mark_get (T : List Int) (R : List Tm.T) (j : Nat) (hj : j < T.length) (hp : ∀ x ∈ R, 0 ≤ x.1) : (mark T R)[j]? = if Tm.has R j then some 1 else T[j]? := by
  induction R generalizing T with
  | nil => rfl
  | cons x R ih =>
    show (mark (T.set x.1.toNat 1) R)[j]? = _
    rw [ih _ (by simpa using hj) (fun y hy => hp y (List.mem_cons_of_mem _ hy))]
    have h0 := hp x List.mem_cons_self
    have e : Tm.has (x :: R) j = (x.1 == (j : Int) || Tm.has R j) := by simp [Tm.has]
    rw [e]
    by_cases hx : x.1 = j
    · have : x.1.toNat = j := by omega
      rw [this, beq_iff_eq.2 hx, Bool.true_or, if_pos rfl, List.getElem?_set_self hj]
      simp
    · have : x.1.toNat ≠ j := by omega
      rw [beq_eq_false_iff_ne.2 hx, Bool.false_or, List.getElem?_set_ne this]
/-- What is told between two times. -/
theorem due_mem {zs : List Int} {N : Nat} {last now : Int} {L : List Tm.T} (h : Q2 zs N last L) (x : Tm.T) : x ∈ Tm.due now L ↔ ∃ j : Nat, j < N ∧ x = ((j : Int), zs.getD j 0) ∧ last < zs.getD j 0 ∧ zs.getD j 0 ≤ now := by
  rw [Tm.mem_due, h.2]
  constructor
  · rintro ⟨⟨j, h1, rfl, h2⟩, h3⟩; exact ⟨j, h1, rfl, h2, h3⟩
  · rintro ⟨j, h1, rfl, h2, h3⟩; exact ⟨⟨j, h1, rfl, h2⟩, h3⟩
theorem q2_rest {zs : List Int} {N : Nat} {last now : Int} {L : List Tm.T} (h : Q2 zs N last L) (hl : last ≤ now) : Q2 zs N now (Tm.rest now L) := ⟨Nat.le_trans (List.length_filter_le _ _) h.1, fun x => by
  rw [Tm.mem_rest, h.2]
  constructor
  · rintro ⟨⟨j, h1, rfl, h2⟩, h3⟩; exact ⟨j, h1, rfl, h3⟩
  · rintro ⟨j, h1, rfl, h2⟩; exact ⟨⟨j, h1, rfl, by omega⟩, h2⟩⟩
theorem due_has {zs : List Int} {N : Nat} {last now : Int} {L : List Tm.T} (h : Q2 zs N last L) (j : Nat) (hj : j < N) : Tm.has (Tm.due now L) j = decide (last < zs.getD j 0 ∧ zs.getD j 0 ≤ now) := by
  rw [Bool.eq_iff_iff, Tm.has_iff, decide_eq_true_iff]
  constructor
  · rintro ⟨x, hx, e⟩
    obtain ⟨i, _, rfl, h2⟩ := (due_mem h x).1 hx
    obtain rfl : i = j := Int.ofNat.inj e
    exact h2
  · intro h2
    exact ⟨_, (due_mem h _).2 ⟨j, hj, rfl, h2⟩, rfl⟩
theorem mark_all {zs : List Int} {N : Nat} {last now : Int} {L : List Tm.T} (h : Q2 zs N last L) (hl : last ≤ now) : mark (tld zs N last) (Tm.due now L) = tld zs N now := by
  refine List.ext_getElem? fun j => ?_
  rcases Nat.lt_or_ge j N with hj | hj
  · rw [mark_get _ _ _ (by rw [tld_length]; exact hj) (fun x hx => by obtain ⟨i, _, rfl, _⟩ := (due_mem h x).1 hx; exact Int.natCast_nonneg _), due_has h j hj, tld_get hj, tld_get hj]
    by_cases h1 : zs.getD j 0 ≤ last
    · rw [decide_eq_false (by omega), if_neg (by simp), if_pos h1, if_pos (by omega)]
    · rw [if_neg h1]
      by_cases h2 : zs.getD j 0 ≤ now
      · rw [decide_eq_true (by omega), if_pos rfl, if_pos h2]
      · rw [decide_eq_false (by omega), if_neg (by simp), if_neg h2]
  · rw [List.getElem?_eq_none (by rw [mark_length, tld_length]; exact hj), List.getElem?_eq_none (by rw [tld_length]; exact hj)]
/-- Ahead of an alarm of those that are told it was not. -/
theorem mark_ahead {zs : List Int} {N k : Nat} {last now : Int} {L : List Tm.T} (h : Q2 zs N last L) (hi : Tm.Ids L) {x : Tm.T} (hx : (Tm.due now L)[k]? = some x) : ∃ j : Nat, j < N ∧ x = ((j : Int), zs.getD j 0) ∧ last < zs.getD j 0 ∧ zs.getD j 0 ≤ now ∧ (mark (tld zs N last) ((Tm.due now L).take k))[j]? = some 0 := by
  obtain ⟨j, h1, rfl, h2, h3⟩ := (due_mem h x).1 (List.mem_of_getElem? hx)
  refine ⟨j, h1, rfl, h2, h3, ?_⟩
  rw [mark_get _ _ _ (by rw [tld_length]; exact h1) (fun y hy => by obtain ⟨i, _, rfl, _⟩ := (due_mem h y).1 (List.mem_of_mem_take hy); exact Int.natCast_nonneg _)]
  have hn : Tm.has ((Tm.due now L).take k) j = false := by
    rw [Bool.eq_false_iff]
    intro hh
    obtain ⟨y, hy, e⟩ := Tm.has_iff.1 hh
    obtain ⟨i, hik, hy2⟩ := List.mem_take_iff_getElem.1 hy
    have hnd := Tm.ids_due (now := now) hi
    unfold Tm.Ids at hnd
    obtain ⟨hk, hx2⟩ := List.getElem?_eq_some_iff.1 hx
    have := (List.nodup_iff_pairwise_ne.1 hnd)
    have h4 := List.pairwise_iff_getElem.1 this i k (by simp; omega) (by simpa using hk) (by omega)
    simp only [List.getElem_map] at h4
    rw [hy2, hx2, e] at h4
    exact h4 rfl
  rw [hn, if_neg (by simp), tld_get h1, if_neg (by omega)]
theorem q2_last {zs : List Int} {N : Nat} {last : Int} {L : List Tm.T} (h : Q2 zs N last L) (hb : ∀ j, zs.getD j 0 ≤ last) : L = [] := by
  cases L with
  | nil => rfl
  | cons x L =>
    obtain ⟨j, _, _, h2⟩ := (h.2 x).1 List.mem_cons_self
    have := hb j
    omega
end Go.Proofs.Ytpdhgjhcjnpkeaa
