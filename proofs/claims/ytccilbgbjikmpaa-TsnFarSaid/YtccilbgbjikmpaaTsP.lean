import Derived.Test.YtccilbgbjikmpaaCk17
namespace Go.Proofs.Ytccilbgbjikmpaa
open Go Go.RowKit
set_option linter.unusedVariables false
/-! Stretches of an ascending list. -/
namespace Ts
/-- What a next stretch must reach, at the least. -/
def top : Int → List (Int × Int) → Int
  | x, [] => x
  | _, g :: l => top (g.2 + 2) l
theorem top_snoc (x : Int) (G : List (Int × Int)) (g : Int × Int) : top x (G ++ [g]) = g.2 + 2 := by
  induction G generalizing x with
  | nil => rfl
  | cons h G ih => exact ih _
theorem apB_cons (x : Int) (g : Int × Int) (G : List (Int × Int)) : Ck.apB x (g :: G) = true ↔ x ≤ g.1 ∧ g.1 ≤ g.2 ∧ Ck.apB (g.2 + 2) G = true := by
  show (decide (x ≤ g.1) && decide (g.1 ≤ g.2) && Ck.apB (g.2 + 2) G) = true ↔ _
  constructor
  · intro h
    rw [Bool.and_eq_true, Bool.and_eq_true] at h
    exact ⟨of_decide_eq_true h.1.1, of_decide_eq_true h.1.2, h.2⟩
  · rintro ⟨h1, h2, h3⟩
    rw [Bool.and_eq_true, Bool.and_eq_true]
    exact ⟨⟨decide_eq_true h1, decide_eq_true h2⟩, h3⟩
theorem apB_snoc (x : Int) (G : List (Int × Int)) (g : Int × Int) : Ck.apB x (G ++ [g]) = true ↔ (Ck.apB x G = true ∧ top x G ≤ g.1 ∧ g.1 ≤ g.2) := by
  induction G generalizing x with
  | nil =>
    rw [List.nil_append, apB_cons]
    exact ⟨fun h => ⟨rfl, h.1, h.2.1⟩, fun h => ⟨h.2.1, h.2.2, rfl⟩⟩
  | cons h G ih =>
    rw [List.cons_append, apB_cons, apB_cons, ih]
    exact ⟨fun q => ⟨⟨q.1, q.2.1, q.2.2.1⟩, q.2.2.2⟩, fun q => ⟨q.1.1, q.1.2.1, q.1.2.2, q.2⟩⟩
/-- The numbers of a stretch. -/
def run1 (g : Int × Int) : List Int := (List.range (g.2 + 1 - g.1).toNat).map fun (i : Nat) => g.1 + (i : Int)
def flat (G : List (Int × Int)) : List Int := G.flatMap run1
theorem flat_snoc (G : List (Int × Int)) (g : Int × Int) : flat (G ++ [g]) = flat G ++ run1 g := by simp [flat]
theorem run1_one (a : Int) : run1 (a, a) = [a] := by
  unfold run1
  rw [show (a + 1 - a).toNat = 1 by omega]
  simp
theorem run1_ext {f t : Int} (h : f ≤ t) : run1 (f, t + 1) = run1 (f, t) ++ [t + 1] := by
  unfold run1
  simp only
  rw [show (t + 1 + 1 - f).toNat = (t + 1 - f).toNat + 1 by omega, List.range_succ, List.map_append]
  congr 1
  simp
  omega
/-- G: the stretches of l. -/
structure Good (G : List (Int × Int)) (l : List Int) : Prop where
  fl : flat G = l
  ap : Ck.apB 2 G = true
  ok : ∀ g ∈ G, 2 ≤ g.1 ∧ g.1 ≤ g.2 ∧ g.2 ≤ 512
  len : G.length ≤ l.length
  tp : top 2 G = (l.getLast?.map (· + 2)).getD 2
theorem Good.nil : Good [] [] := ⟨rfl, rfl, fun g hg => absurd hg (by simp), Nat.le_refl _, rfl⟩
theorem Good.anew {G : List (Int × Int)} {l : List Int} (h : Good G l) {a : Int} (ha : top 2 G ≤ a) (h2 : 2 ≤ a) (h5 : a ≤ 512) : Good (G ++ [(a, a)]) (l ++ [a]) where
  fl := by rw [flat_snoc, h.fl, run1_one]
  ap := (apB_snoc _ _ _).2 ⟨h.ap, ha, Int.le_refl _⟩
  ok g hg := by
    rcases List.mem_append.1 hg with hg | hg
    · exact h.ok g hg
    · simp at hg; subst hg; exact ⟨h2, Int.le_refl _, h5⟩
  len := by have := h.len; simp; omega
  tp := by rw [top_snoc]; simp
theorem Good.ext {G : List (Int × Int)} {f t : Int} {l : List Int} (h : Good (G ++ [(f, t)]) l) (h5 : t + 1 ≤ 512) : Good (G ++ [(f, t + 1)]) (l ++ [t + 1]) where
  fl := by
    have h1 := h.fl
    have h2 := h.ok (f, t) (by simp)
    rw [flat_snoc] at h1 ⊢
    rw [run1_ext h2.2.1, ← List.append_assoc, h1]
  ap := by
    have h1 := h.ap
    have h2 := h.ok (f, t) (by simp)
    rw [apB_snoc] at h1 ⊢
    exact ⟨h1.1, h1.2.1, by simp only at h2 ⊢; omega⟩
  ok g hg := by
    rcases List.mem_append.1 hg with hg | hg
    · exact h.ok g (by simp [hg])
    · have h2 := h.ok (f, t) (by simp)
      simp at hg; subst hg; simp only at h2 ⊢; omega
  len := by have := h.len; simp at this ⊢; omega
  tp := by rw [top_snoc]; simp
/-- The last stretch ends where the list ends. -/
theorem Good.last {G : List (Int × Int)} {f t : Int} {l : List Int} (h : Good (G ++ [(f, t)]) l) : ∃ m, l = m ++ [t] := by
  have h1 := h.tp
  rw [top_snoc] at h1
  rcases List.eq_nil_or_concat l with e | ⟨m, x, e⟩
  · have := h.len; rw [e] at this; simp at this
  · rw [e] at h1 ⊢
    simp at h1
    exact ⟨m, by simp [h1]⟩
theorem Good.empty {l : List Int} (h : Good [] l) : l = [] := by rw [← h.fl]; rfl
theorem Good.gapOk {G : List (Int × Int)} {l : List Int} (h : Good G l) : GapOk G := fun g hg => by have := h.ok g hg; omega
end Ts
end Go.Proofs.Ytccilbgbjikmpaa
