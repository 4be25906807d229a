import Derived.Test.YtpdhgjhcjnpkeaaTm
namespace Go.Proofs.Ytpdhgjhcjnpkeaa
namespace Hp
open Tm
set_option linter.unusedVariables false
def d0 : T := (0, 0)
/-- The k-th. -/
def at_ (a : List T) (k : Nat) : T := a.getD k d0
def par (k : Nat) : Nat := (k - 1) / 2
def swp (a : List T) (i j : Nat) : List T := (a.set i (at_ a j)).set j (at_ a i)
theorem swp_length (a : List T) (i j : Nat) : (swp a i j).length = a.length := by simp [swp]
theorem at_swp {a : List T} {i j : Nat} (hi : i < a.length) (hj : j < a.length) (k : Nat) : at_ (swp a i j) k = if k = j then at_ a i else if k = i then at_ a j else at_ a k := by
  unfold at_ swp
  rw [List.getD_eq_getElem?_getD, List.getElem?_set]
  by_cases h1 : k = j
  · subst h1
    rw [if_pos rfl, if_pos rfl, if_pos (by simpa using hj)]
    rfl
  · rw [if_neg (fun e => h1 e.symm), if_neg h1, List.getElem?_set]
    by_cases h2 : k = i
    · subst h2
      rw [if_pos rfl, if_pos rfl, if_pos hi]; rfl
    · rw [if_neg (fun e => h2 e.symm), if_neg h2, List.getD_eq_getElem?_getD]
theorem swp_perm {a : List T} {i j : Nat} (hi : i < a.length) (hj : j < a.length) : (swp a i j).Perm a := by
  have := List.set_set_perm hi hj
  unfold swp at_
  rw [List.getD_eq_getElem?_getD, List.getElem?_eq_getElem hj, List.getD_eq_getElem?_getD, List.getElem?_eq_getElem hi]
  exact this
def Rel (a : List T) (k : Nat) : Prop := ¬ Bef (at_ a k) (at_ a (par k))
/-- The first n are a heap. -/
def Heap (a : List T) (n : Nat) : Prop := ∀ k, 0 < k → k < n → Rel a k
/-- Children of i are not ahead of its parent. -/
def Over (a : List T) (n i : Nat) : Prop := ∀ k, 0 < k → k < n → par k = i → 0 < i → ¬ Bef (at_ a k) (at_ a (par i))
/-- All is well but at i, and with i's children. -/
def But (a : List T) (n i : Nat) : Prop := ∀ k, 0 < k → k < n → k ≠ i → par k ≠ i → Rel a k
/-- All is well but at i. -/
def But1 (a : List T) (n i : Nat) : Prop := ∀ k, 0 < k → k < n → k ≠ i → Rel a k
theorem par_lt {k : Nat} (h : 0 < k) : par k < k := by unfold par; omega
/-- container/heap's up. -/
def up (a : List T) (j : Nat) : List T :=
  if h : j = 0 then a else if Bef (at_ a j) (at_ a (par j)) then up (swp a (par j) j) (par j) else a
termination_by j
decreasing_by exact par_lt (by omega)
theorem up_length (a : List T) (j : Nat) : (up a j).length = a.length := by
  induction j using Nat.strongRecOn generalizing a with
  | ind j ih =>
    unfold up
    split
    · rfl
    · split
      · rw [ih _ (par_lt (by omega)), swp_length]
      · rfl
theorem up_perm {a : List T} {j : Nat} (hj : j < a.length) : (up a j).Perm a := by
  induction j using Nat.strongRecOn generalizing a with
  | ind j ih =>
    unfold up
    split
    · exact .refl _
    · rename_i h0
      have hp := par_lt (k := j) (by omega)
      split
      · exact (ih _ hp (by rw [swp_length]; omega)).trans (swp_perm (by omega) hj)
      · exact .refl _
theorem nbef_trans {x y z : T} (h : ¬ Bef x y) (k : ¬ Bef y z) : ¬ Bef x z := by unfold Bef at *; omega
theorem bef_nbef {x y z : T} (h : ¬ Bef x y) (k : Bef z y) : ¬ Bef x z := by unfold Bef at *; omega
/-- Up mends what is amiss at j alone. -/
theorem up_heap {a : List T} {j n : Nat} (hj : j < n) (hn : n ≤ a.length) (h1 : But1 a n j) (h2 : Over a n j) : Heap (up a j) n := by
  induction j using Nat.strongRecOn generalizing a with
  | ind j ih =>
    unfold up
    split
    · rename_i h0
      subst h0
      exact fun k hk hkn => h1 k hk hkn (by omega)
    · rename_i h0
      have hp := par_lt (k := j) (by omega)
      split
      · rename_i hb
        have hl : par j < a.length := by omega
        have hl2 : j < a.length := by omega
        have S := at_swp hl hl2
        refine ih _ hp (by omega) (by rw [swp_length]; exact hn) (fun k hk hkn hne => ?_) (fun k hk hkn hpk hi => ?_)
        · unfold Rel
          rw [S, S]
          by_cases e1 : k = j
          · subst e1
            rw [if_pos rfl, if_neg (by omega), if_pos rfl]
            exact bef_asymm hb
          · rw [if_neg e1, if_neg hne]
            by_cases e2 : par k = j
            · rw [if_pos e2]; exact h2 k hk hkn e2 (by omega)
            · rw [if_neg e2]
              by_cases e3 : par k = par j
              · rw [if_pos e3]
                have := h1 k hk hkn e1
                unfold Rel at this
                rw [e3] at this
                exact bef_nbef this hb
              · rw [if_neg e3]; exact h1 k hk hkn e1
        · have hpp := par_lt hi
          rw [S, S, if_neg (show par (par j) ≠ j by omega), if_neg (show par (par j) ≠ par j by omega)]
          have hr := h1 (par j) hi (by omega) (by omega)
          by_cases e1 : k = j
          · rw [if_pos e1]; exact hr
          · rw [if_neg e1, if_neg (by have := par_lt hk; omega)]
            have := h1 k hk hkn e1
            unfold Rel at this
            rw [hpk] at this
            exact nbef_trans this hr
      · rename_i hb
        exact fun k hk hkn => by
          by_cases e : k = j
          · subst e; exact hb
          · exact h1 k hk hkn e
/-- The lesser child. -/
def child (a : List T) (i n : Nat) : Nat := if 2 * i + 2 < n ∧ Bef (at_ a (2 * i + 2)) (at_ a (2 * i + 1)) then 2 * i + 2 else 2 * i + 1
theorem child_bd (a : List T) (i n : Nat) : 2 * i + 1 ≤ child a i n ∧ child a i n ≤ 2 * i + 2 := by unfold child; split <;> omega
theorem child_lt {a : List T} {i n : Nat} (h : 2 * i + 1 < n) : child a i n < n := by unfold child; split <;> omega
theorem par_child (a : List T) (i n : Nat) : par (child a i n) = i := by have := child_bd a i n; unfold par; omega
/-- container/heap's down: what it leaves, and where it ends. -/
def down (a : List T) (i n : Nat) : List T × Nat :=
  if h : 2 * i + 1 < n then
    if Bef (at_ a (child a i n)) (at_ a i) then down (swp a i (child a i n)) (child a i n) n else (a, i)
  else (a, i)
termination_by n - i
decreasing_by have := child_bd a i n; have := child_lt (a := a) h; omega
theorem down_length (a : List T) (i n : Nat) : (down a i n).1.length = a.length := by
  generalize hm : n - i = m
  induction m using Nat.strongRecOn generalizing a i with
  | ind m ih =>
    unfold down
    split
    · rename_i h
      have := child_bd a i n
      have := child_lt (a := a) h
      split
      · rw [ih (n - child a i n) (by omega) _ _ rfl, swp_length]
      · rfl
    · rfl
theorem down_perm {a : List T} {i n : Nat} (hn : n ≤ a.length) : (down a i n).1.Perm a := by
  generalize hm : n - i = m
  induction m using Nat.strongRecOn generalizing a i with
  | ind m ih =>
    unfold down
    split
    · rename_i h
      have := child_bd a i n
      have := child_lt (a := a) h
      split
      · exact (ih (n - child a i n) (by omega) (by rw [swp_length]; exact hn) rfl).trans (swp_perm (by omega) (by omega))
      · exact .refl _
    · exact .refl _
theorem down_ge (a : List T) (i n : Nat) : i ≤ (down a i n).2 := by
  generalize hm : n - i = m
  induction m using Nat.strongRecOn generalizing a i with
  | ind m ih =>
    unfold down
    split
    · rename_i h
      have := child_bd a i n
      have := child_lt (a := a) h
      split
      · have := ih (n - child a i n) (by omega) (swp a i (child a i n)) _ rfl
        omega
      · exact Nat.le_refl _
    · exact Nat.le_refl _
theorem down_tail {a : List T} {i n k : Nat} (hn : n ≤ a.length) (hk : n ≤ k) : at_ (down a i n).1 k = at_ a k := by
  generalize hm : n - i = m
  induction m using Nat.strongRecOn generalizing a i with
  | ind m ih =>
    unfold down
    split
    · rename_i h
      have := child_bd a i n
      have := child_lt (a := a) h
      split
      · rw [ih (n - child a i n) (by omega) (by rw [swp_length]; exact hn) rfl, at_swp (by omega) (by omega), if_neg (by omega), if_neg (by omega)]
      · rfl
    · rfl
/-- Down mends what is amiss below i; if it did not move, only i itself may be amiss. -/
theorem down_heap {a : List T} {i n : Nat} (hn : n ≤ a.length) (h1 : But a n i) (h2 : Over a n i) :
    ((down a i n).2 = i → (down a i n).1 = a ∧ But1 a n i) ∧ ((down a i n).2 ≠ i → Heap (down a i n).1 n) := by
  generalize hm : n - i = m
  induction m using Nat.strongRecOn generalizing a i with
  | ind m ih =>
    unfold down
    split
    · rename_i h
      have c1 := child_bd a i n
      have c2 := child_lt (a := a) h
      have c3 := par_child a i n
      have hsib : ∀ k, 0 < k → k < n → par k = i → ¬ Bef (at_ a k) (at_ a (child a i n)) := fun k hk hkn hpk => by
        have hk2 : k = 2 * i + 1 ∨ k = 2 * i + 2 := by unfold par at hpk; omega
        unfold child
        split
        · rename_i hc
          rcases hk2 with rfl | rfl
          · exact bef_asymm hc.2
          · exact bef_irrefl _
        · rename_i hc
          rcases hk2 with rfl | rfl
          · exact bef_irrefl _
          · exact fun hb => hc ⟨hkn, hb⟩
      generalize hj : child a i n = j at *
      split
      · rename_i hb
        have S := at_swp (a := a) (i := i) (j := j) (by omega) (by omega)
        have hB : But (swp a i j) n j := fun k hk hkn e1 e2 => by
          unfold Rel
          rw [S, S, if_neg e1, if_neg e2]
          by_cases e3 : k = i
          · subst e3
            have := par_lt hk
            rw [if_pos rfl, if_neg (by omega)]
            exact h2 j (by omega) c2 c3 hk
          · rw [if_neg e3]
            by_cases e4 : par k = i
            · rw [if_pos e4]; exact hsib k hk hkn e4
            · rw [if_neg e4]; exact h1 k hk hkn e3 e4
        have hO : Over (swp a i j) n j := fun k hk hkn e1 _ => by
          have := par_lt hk
          rw [c3, S, S, if_neg (by omega), if_neg (by omega), if_neg (by omega), if_pos rfl]
          have := h1 k hk hkn (by omega) (by omega)
          unfold Rel at this
          rw [e1] at this
          exact this
        obtain ⟨r1, r2⟩ := ih (n - j) (by omega) (a := swp a i j) (i := j) (by rw [swp_length]; exact hn) hB hO rfl
        have hg := down_ge (swp a i j) j n
        refine ⟨fun e => by omega, fun _ => ?_⟩
        by_cases e : (down (swp a i j) j n).2 = j
        · obtain ⟨r3, r4⟩ := r1 e
          rw [r3]
          intro k hk hkn
          by_cases e5 : k = j
          · subst e5
            unfold Rel
            rw [c3, S, S, if_pos rfl, if_neg (by omega), if_pos rfl]
            exact bef_asymm hb
          · exact r4 k hk hkn e5
        · exact r2 e
      · rename_i hb
        refine ⟨fun _ => ⟨rfl, fun k hk hkn e => ?_⟩, fun e => absurd rfl e⟩
        by_cases e4 : par k = i
        · unfold Rel
          rw [e4]
          have := hsib k hk hkn e4
          exact nbef_trans this hb
        · exact h1 k hk hkn e e4
    · rename_i h
      refine ⟨fun _ => ⟨rfl, fun k hk hkn e => h1 k hk hkn e (by unfold par; omega)⟩, fun e => absurd rfl e⟩
/-- Nothing is ahead of the head. -/
theorem heap_min {a : List T} {n : Nat} (h : Heap a n) (k : Nat) (hk : k < n) : ¬ Bef (at_ a k) (at_ a 0) := by
  induction k using Nat.strongRecOn with
  | ind k ih =>
    rcases Nat.eq_zero_or_pos k with rfl | h0
    · exact bef_irrefl _
    · have hp := par_lt h0
      exact nbef_trans (h k h0 hk) (ih _ hp (by omega))
theorem over_of {a : List T} {n i : Nat} (h : Heap a n) (hi : i < n) : Over a n i := fun k hk hkn e h0 => by
  have h1 := h k hk hkn
  unfold Rel at h1
  rw [e] at h1
  exact nbef_trans h1 (h i h0 hi)
end Hp
end Go.Proofs.Ytpdhgjhcjnpkeaa
