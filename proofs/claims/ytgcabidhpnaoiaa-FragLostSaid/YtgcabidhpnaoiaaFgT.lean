import Derived.Test.YtgcabidhpnaoiaaFgE
namespace Go.Proofs.Ytgcabidhpnaoiaa
set_option linter.unusedVariables false
/-! The mathematics of FragLost: ordered messages of one piece each. -/
namespace Fg
/-- A message of one piece. -/
theorem put_single {B B' : Bx} {p : Pc} {r : Int} {ms : List (Nat × List Int)} (h : PutR B p r ms B') (hf : Form p) (hb : p.bg = true) (he : p.en = true) (hu : p.un = false) (hH : B.held = []) (ht : p.tsn < 4294967296) :
    r = 0 ∧ B'.held = [] ∧ Turns p.st (addW B.wait (p.st, p.sq, p.bs)) B.next ms B'.wait B'.next := by
  have hm : Mine (p :: B.held) p.tsn p.tsn 1 := by
    refine ⟨⟨by omega, by omega, ht, p, by simp, rfl, fun i hi => ?_⟩, by unfold off; omega⟩
    obtain rfl : i = 0 := by omega
    exact ⟨p, by simp, by unfold add; omega, rfl, rfl, rfl, by simp [hb], by simp [he]⟩
  have hap : Apart (p :: B.held) := by rw [hH]; exact List.pairwise_singleton _ _
  have hby : bytesOf (p :: B.held) p.tsn 1 = p.bs := by
    have e0 : add p.tsn 0 = p.tsn := by unfold add; omega
    unfold bytesOf
    rw [show List.range 1 = [0] from rfl]
    simp [e0]
  have hrest : rest (p :: B.held) p.tsn 1 = [] := by
    have e0 : off p.tsn p.tsn = 0 := by unfold off; omega
    unfold rest
    rw [hH]
    simp [e0]
  rcases h with ⟨f, _⟩ | ⟨_, ⟨q, hq, _⟩, _⟩ | ⟨_, _, f, _⟩ | ⟨_, _, _, rfl, h⟩
  · exact absurd hf f
  · rw [hH] at hq; cases hq
  · rw [hH] at f; simp at f
  · rcases h with ⟨h1, _⟩ | ⟨t, n, h1, h2, h3⟩
    · exact absurd hm (h1 _ _)
    · obtain ⟨rfl, rfl⟩ := Mine.uniq hap ht h1 hm
      rw [hrest] at h2
      rcases h3 with ⟨h4, _⟩ | ⟨_, h4⟩
      · rw [hu] at h4; cases h4
      · rw [hby] at h4
        exact ⟨rfl, List.perm_nil.1 h2, h4⟩
def lw (j : Nat) : Lt := (0, j, [(j : Int)])
def WL (gone i : Nat) : List Lt := (List.range' (gone + 1) (i - (gone + 1))).map lw
theorem wl_mem {gone i : Nat} {x : Lt} : x ∈ WL gone i ↔ ∃ j, gone < j ∧ j < i ∧ x = lw j := by
  unfold WL
  rw [List.mem_map]
  constructor
  · rintro ⟨j, hj, rfl⟩
    rw [List.mem_range'_1] at hj
    exact ⟨j, by omega, by omega, rfl⟩
  · rintro ⟨j, h1, h2, rfl⟩
    exact ⟨j, by rw [List.mem_range'_1]; omega, rfl⟩
theorem wl_apart (gone i : Nat) : KApart (WL gone i) := by
  unfold KApart WL
  rw [List.pairwise_map]
  exact (List.nodup_range' (step := 1)).imp fun {a b} hab e => hab e.2
theorem wl_succ {gone i : Nat} (h : gone < i) : WL gone (i + 1) = WL gone i ++ [lw i] := by
  unfold WL
  rw [show i + 1 - (gone + 1) = (i - (gone + 1)) + 1 by omega, List.range'_concat, List.map_append]
  rw [show gone + 1 + 1 * (i - (gone + 1)) = i by omega]
  rfl
theorem addW_new {W : List Lt} {x : Lt} (h : ∀ y ∈ W, ¬ (y.1 = x.1 ∧ y.2.1 = x.2.1)) : addW W x = x :: W := by
  unfold addW
  rw [if_neg]
  intro hh
  rw [List.any_eq_true] at hh
  obtain ⟨y, hy, e⟩ := hh
  simp at e
  exact h y hy e
/-- One whose turn it is, where none waits. -/
theorem turns_one {s q : Nat} {bs : List Int} {W W' : List Lt} {nx nx' : Nat → Nat} {ms : List (Nat × List Int)} (h : Turns s (addW W (s, q, bs)) nx ms W' nx') (hk : KApart W) (hq : nx s = q) (hno : ∀ y ∈ W, y.1 ≠ s) : ms = [(s, bs)] ∧ W'.Perm W ∧ nx' = upd nx s := by
  have hn : ∀ y ∈ W, ¬ (y.1 = (s, q, bs).1 ∧ y.2.1 = (s, q, bs).2.1) := fun y hy e => hno y hy e.1
  have h2 : Turns s (addW W (s, q, bs)) nx [(s, bs)] W (upd nx s) := by
    rw [addW_new hn]
    refine Turns.go (s, q, bs) (by simp) rfl hq.symm ?_
    refine Turns.stop (fun x hx e => ?_) ?_
    · rw [List.mem_filter] at hx
      rcases List.mem_cons.1 hx.1 with h1 | h1
      · have := hx.2
        rw [h1] at this
        simp [hq] at this
      · exact hno x h1 e.1
    · rw [List.filter_cons_of_neg (by simp [hq])]
      refine (List.filter_eq_self.2 fun x hx => ?_).symm ▸ List.Perm.refl _
      have := hno x hx
      simp [this]
  obtain ⟨e1, e2, e3⟩ := h.det (addW_apart hk _) (List.Perm.refl _) h2
  exact ⟨e1, e2, e3⟩
/-- One that is ahead of its turn. -/
theorem turns_wait {s q : Nat} {bs : List Int} {W W' : List Lt} {nx nx' : Nat → Nat} {ms : List (Nat × List Int)} (h : Turns s (addW W (s, q, bs)) nx ms W' nx') (hk : KApart W) (hq : nx s ≠ q) (hno : ∀ y ∈ W, ¬ (y.1 = s ∧ (y.2.1 = nx s ∨ y.2.1 = q))) : ms = [] ∧ W'.Perm ((s, q, bs) :: W) ∧ nx' = nx := by
  have hn : ∀ y ∈ W, ¬ (y.1 = (s, q, bs).1 ∧ y.2.1 = (s, q, bs).2.1) := fun y hy e => hno y hy ⟨e.1, .inr e.2⟩
  have h2 : Turns s (addW W (s, q, bs)) nx [] ((s, q, bs) :: W) nx := by
    rw [addW_new hn]
    refine Turns.stop (fun x hx e => ?_) (List.Perm.refl _)
    rcases List.mem_cons.1 hx with h1 | h1
    · rw [h1] at e; exact hq e.2.symm
    · exact hno x h1 ⟨e.1, .inl e.2⟩
  obtain ⟨e1, e2, e3⟩ := h.det (addW_apart hk _) (List.Perm.refl _) h2
  exact ⟨e1, e2, e3⟩
/-- All in a row. -/
theorem turns_run (n : Nat) : ∀ {a : Nat} {W : List Lt} {nx : Nat → Nat}, nx 0 = a → a + n < 65536 → W.Perm ((List.range' a n).map lw) → ∃ W' nx', Turns 0 W nx ((List.range' a n).map fun (j : Nat) => (0, [(j : Int)])) W' nx' := by
  induction n with
  | zero =>
    intro a W nx h1 h2 hW
    have : W = [] := List.perm_nil.1 hW
    subst this
    exact ⟨[], nx, Turns.stop (fun x hx => by cases hx) (List.Perm.refl _)⟩
  | succ n ih =>
    intro a W nx h1 h2 hW
    have e1 : List.range' a (n + 1) = a :: List.range' (a + 1) n := by rw [List.range'_succ]
    have hm : lw a ∈ W := hW.mem_iff.2 (by rw [e1]; simp)
    have hf : (W.filter fun y => !(decide (y.1 = 0) && decide (y.2.1 = nx 0))).Perm ((List.range' (a + 1) n).map lw) := by
      have h3 := hW.filter fun y => !(decide (y.1 = 0) && decide (y.2.1 = nx 0))
      rw [e1, List.map_cons, List.filter_cons_of_neg (by simp [lw, h1])] at h3
      have h5 : ((List.range' (a + 1) n).map lw).filter (fun y => !(decide (y.1 = 0) && decide (y.2.1 = nx 0))) = (List.range' (a + 1) n).map lw := List.filter_eq_self.2 (fun x hx => by
        obtain ⟨j, hj, rfl⟩ := List.mem_map.1 hx
        rw [List.mem_range'_1] at hj
        simp [lw, h1]; omega)
      rw [h5] at h3
      exact h3
    obtain ⟨W', nx', h4⟩ := ih (a := a + 1) (nx := upd nx 0) (by unfold upd; rw [if_pos rfl, h1]; omega) (by omega) hf
    refine ⟨W', nx', ?_⟩
    rw [e1, List.map_cons]
    exact Turns.go (lw a) hm rfl (by rw [h1]; rfl) h4
/-- What comes when the one that was missing comes. -/
theorem turns_gone {gone k : Nat} {W W' : List Lt} {nx nx' : Nat → Nat} {ms : List (Nat × List Int)} (hW : W.Perm (WL gone k)) (hg : gone < k) (hk : k < 1000) (hx : nx 0 = gone) (h : Turns 0 (addW W (0, gone, [(gone : Int)])) nx ms W' nx') : ms = (List.range' gone (k - gone)).map fun (j : Nat) => (0, [(j : Int)]) := by
  have hn : ∀ y ∈ W, ¬ (y.1 = (0, gone, [(gone : Int)]).1 ∧ y.2.1 = (0, gone, [(gone : Int)]).2.1) := fun y hy e => by
    obtain ⟨j, h1, h2, rfl⟩ := wl_mem.1 (hW.mem_iff.1 hy)
    have : j = gone := e.2
    omega
  have hp : (addW W (0, gone, [(gone : Int)])).Perm ((List.range' gone (k - gone)).map lw) := by
    rw [addW_new hn, show k - gone = (k - (gone + 1)) + 1 by omega, List.range'_succ, List.map_cons]
    exact hW.cons _
  have hka : KApart (addW W (0, gone, [(gone : Int)])) := addW_apart ((wl_apart gone k).perm hW.symm) _
  obtain ⟨W2, nx2, h2⟩ := turns_run (k - gone) hx (by omega) hp
  exact (h.det hka (List.Perm.refl _) h2).1
end Fg
end Go.Proofs.Ytgcabidhpnaoiaa
