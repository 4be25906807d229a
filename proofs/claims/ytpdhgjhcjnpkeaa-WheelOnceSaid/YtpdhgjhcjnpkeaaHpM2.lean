import Derived.Test.YtpdhgjhcjnpkeaaHpM
namespace Go.Proofs.Ytpdhgjhcjnpkeaa
namespace Hp
open Tm
set_option linter.unusedVariables false
theorem at_append {a : List T} {x : T} {k : Nat} (h : k < a.length) : at_ (a ++ [x]) k = at_ a k := by
  unfold at_
  rw [List.getD_eq_getElem?_getD, List.getD_eq_getElem?_getD, List.getElem?_append_left h]
theorem at_new (a : List T) (x : T) : at_ (a ++ [x]) a.length = x := by simp [at_, List.getD]
theorem at_drop {a : List T} {k : Nat} (h : k + 1 < a.length) : at_ a.dropLast k = at_ a k := by
  unfold at_
  rw [List.getD_eq_getElem?_getD, List.getD_eq_getElem?_getD, List.getElem?_dropLast]
  rw [if_pos (by omega)]
theorem at_set {a : List T} {i k : Nat} {y : T} (hi : i < a.length) : at_ (a.set i y) k = if k = i then y else at_ a k := by
  unfold at_
  rw [List.getD_eq_getElem?_getD, List.getElem?_set]
  by_cases h : k = i
  · subst h; rw [if_pos rfl, if_pos rfl, if_pos hi]; rfl
  · rw [if_neg (fun e => h e.symm), if_neg h, List.getD_eq_getElem?_getD]
theorem at_mem {a : List T} {k : Nat} (h : k < a.length) : at_ a k ∈ a := by
  unfold at_
  rw [List.getD_eq_getElem?_getD, List.getElem?_eq_getElem h]
  exact List.getElem_mem h
theorem heap_mono {a b : List T} {n m : Nat} (h : Heap a n) (hm : m ≤ n) (e : ∀ k, k < m → at_ b k = at_ a k) : Heap b m := fun k hk hkm => by
  unfold Rel
  have := par_lt hk
  rw [e k hkm, e _ (by omega)]
  exact h k hk (by omega)
theorem up_tail {a : List T} {j k : Nat} (hj : j < a.length) (hk : j < k) : at_ (up a j) k = at_ a k := by
  induction j using Nat.strongRecOn generalizing a with
  | ind j ih =>
    unfold up
    split
    · rfl
    · rename_i h0
      have hp := par_lt (k := j) (by omega)
      split
      · rw [ih _ hp (by rw [swp_length]; omega) (by omega), at_swp (by omega) hj, if_neg (by omega), if_neg (by omega)]
      · rfl
theorem push_heap {a : List T} (x : T) (h : Heap a a.length) : Heap (up (a ++ [x]) a.length) (a.length + 1) := by
  refine up_heap (by omega) (by simp) (fun k hk hkn hne => ?_) (fun k hk hkn hpk _ => ?_)
  · unfold Rel
    have := par_lt hk
    rw [at_append (by omega), at_append (by omega)]
    exact h k hk (by omega)
  · have := par_lt hk
    omega
theorem push_perm {a : List T} (x : T) : (up (a ++ [x]) a.length).Perm (x :: a) := (up_perm (by simp)).trans (List.perm_append_singleton x a)
/-- Mend at i: down, and if it did not move, up. -/
def fix (a : List T) (i n : Nat) : List T := if i < (down a i n).2 then (down a i n).1 else up (down a i n).1 i
theorem fix_length (a : List T) (i n : Nat) : (fix a i n).length = a.length := by
  unfold fix
  split
  · exact down_length _ _ _
  · rw [up_length, down_length]
theorem fix_perm {a : List T} {i n : Nat} (hi : i < a.length) (hn : n ≤ a.length) : (fix a i n).Perm a := by
  unfold fix
  split
  · exact down_perm hn
  · exact (up_perm (by rw [down_length]; exact hi)).trans (down_perm hn)
theorem fix_heap {a : List T} {i n : Nat} (hi : i < n) (hn : n ≤ a.length) (h1 : But a n i) (h2 : Over a n i) : Heap (fix a i n) n := by
  obtain ⟨r1, r2⟩ := down_heap hn h1 h2
  have hg := down_ge a i n
  unfold fix
  split
  · exact r2 (by omega)
  · obtain ⟨e1, e2⟩ := r1 (by omega)
    rw [e1]
    exact up_heap hi hn e2 h2
theorem fix_tail {a : List T} {i n k : Nat} (hi : i < n) (hn : n ≤ a.length) (hk : n ≤ k) : at_ (fix a i n) k = at_ a k := by
  unfold fix
  split
  · exact down_tail hn hk
  · rw [up_tail (by rw [down_length]; omega) (by omega)]; exact down_tail hn hk
/-- One alarm is another: only its place may be amiss. -/
theorem set_but {a : List T} {i : Nat} {y : T} (hi : i < a.length) (h : Heap a a.length) : But (a.set i y) a.length i ∧ Over (a.set i y) a.length i := by
  refine ⟨fun k hk hkn e1 e2 => ?_, fun k hk hkn e h0 => ?_⟩
  · unfold Rel
    rw [at_set hi, at_set hi, if_neg e1, if_neg e2]
    exact h k hk hkn
  · have := par_lt hk
    have := par_lt h0
    rw [at_set hi, at_set hi, if_neg (by omega), if_neg (by omega)]
    exact over_of h hi k hk hkn e h0
/-- The last one comes to i: only its place may be amiss. -/
theorem swp_but {a : List T} {i n : Nat} (hl : a.length = n + 1) (hi : i < n) (h : Heap a a.length) : But (swp a i n) n i ∧ Over (swp a i n) n i := by
  have S := at_swp (a := a) (i := i) (j := n) (by omega) (by omega)
  refine ⟨fun k hk hkn e1 e2 => ?_, fun k hk hkn e h0 => ?_⟩
  · unfold Rel
    have := par_lt hk
    rw [S, S, if_neg (by omega), if_neg e1, if_neg (by omega), if_neg e2]
    exact h k hk (by omega)
  · have := par_lt hk
    have := par_lt h0
    rw [S, S, if_neg (by omega), if_neg (by omega), if_neg (by omega), if_neg (by omega)]
    exact over_of h (by omega) k hk (by omega) e h0
/-- What Remove leaves ahead of Pop. -/
def out (a : List T) (i n : Nat) : List T := if n = i then a else fix (swp a i n) i n
theorem out_length (a : List T) (i n : Nat) : (out a i n).length = a.length := by
  unfold out
  split
  · rfl
  · rw [fix_length, swp_length]
theorem last_perm {b : List T} {n : Nat} (hl : b.length = n + 1) : (at_ b n :: b.dropLast).Perm b := by
  have hne : b ≠ [] := by intro e; subst e; simp at hl
  have e : at_ b n = b.getLast hne := by
    unfold at_
    rw [List.getD_eq_getElem?_getD, List.getElem?_eq_getElem (by omega), List.getLast_eq_getElem hne]
    simp [hl]
  rw [e]
  have := List.dropLast_concat_getLast hne
  exact (List.perm_append_singleton _ _).symm.trans (by rw [this])
theorem out_all {a : List T} {i n : Nat} (hl : a.length = n + 1) (hi : i ≤ n) (h : Heap a a.length) :
    at_ (out a i n) n = at_ a i ∧ Heap (out a i n).dropLast n ∧ (at_ a i :: (out a i n).dropLast).Perm a := by
  have key : at_ (out a i n) n = at_ a i ∧ Heap (out a i n) n ∧ (out a i n).Perm a := by
    unfold out
    by_cases e : n = i
    · rw [if_pos e]
      subst e
      exact ⟨rfl, fun k hk hkn => h k hk (by omega), .refl _⟩
    · rw [if_neg e]
      obtain ⟨b1, b2⟩ := swp_but hl (show i < n by omega) h
      have hsl : n ≤ (swp a i n).length := by rw [swp_length]; omega
      refine ⟨?_, fix_heap (by omega) hsl b1 b2, (fix_perm (by rw [swp_length]; omega) hsl).trans (swp_perm (by omega) (by omega))⟩
      rw [fix_tail (by omega) hsl (Nat.le_refl _), at_swp (by omega) (by omega), if_pos rfl]
  obtain ⟨k1, k2, k3⟩ := key
  have hol : (out a i n).length = n + 1 := by rw [out_length]; exact hl
  refine ⟨k1, heap_mono k2 (Nat.le_refl _) (fun k hk => at_drop (by omega)), ?_⟩
  rw [← k1]
  exact (last_perm hol).trans k3
/-- Pop is Remove of the head, up to the ups that there are none of. -/
theorem pop_all {a : List T} {n : Nat} (hl : a.length = n + 1) (h : Heap a a.length) :
    at_ (down (swp a 0 n) 0 n).1 n = at_ a 0 ∧ Heap (down (swp a 0 n) 0 n).1.dropLast n ∧ (at_ a 0 :: (down (swp a 0 n) 0 n).1.dropLast).Perm a := by
  have S := at_swp (a := a) (i := 0) (j := n) (by omega) (by omega)
  have hsl : n ≤ (swp a 0 n).length := by rw [swp_length]; omega
  have hdl : (down (swp a 0 n) 0 n).1.length = n + 1 := by rw [down_length, swp_length]; exact hl
  have k1 : at_ (down (swp a 0 n) 0 n).1 n = at_ a 0 := by
    rw [down_tail hsl (Nat.le_refl _), S, if_pos rfl]
  have k3 : (down (swp a 0 n) 0 n).1.Perm a := (down_perm hsl).trans (swp_perm (by omega) (by omega))
  have k2 : Heap (down (swp a 0 n) 0 n).1 n := by
    rcases Nat.eq_zero_or_pos n with e | e
    · subst e; exact fun k _ hkn => absurd hkn (Nat.not_lt_zero k)
    · obtain ⟨b1, b2⟩ := swp_but hl e h
      obtain ⟨r1, r2⟩ := down_heap hsl b1 b2
      by_cases e2 : (down (swp a 0 n) 0 n).2 = 0
      · obtain ⟨f1, f2⟩ := r1 e2
        rw [f1]
        intro k hk hkn
        exact f2 k hk hkn (Nat.ne_of_gt hk)
      · exact r2 e2
  refine ⟨k1, heap_mono k2 (Nat.le_refl _) (fun k hk => at_drop (by omega)), ?_⟩
  rw [← k1]
  exact (last_perm hdl).trans k3
/-- A row and its list: the same alarms; the head is the first. -/
theorem head_of {a L : List T} (h : Heap a a.length) (hp : a.Perm L) (hs : Srt L) (h0 : 0 < a.length) : ∃ M, L = at_ a 0 :: M := by
  cases L with
  | nil => have := hp.length_eq; rw [List.length_nil] at this; omega
  | cons x M =>
    refine ⟨M, ?_⟩
    congr 1
    have hx : x ∈ a := hp.mem_iff.2 List.mem_cons_self
    obtain ⟨k, hk, e⟩ := List.mem_iff_getElem.1 hx
    have e2 : at_ a k = x := by unfold at_; rw [List.getD_eq_getElem?_getD, List.getElem?_eq_getElem hk, e]; rfl
    have h1 := heap_min h k hk
    rw [e2] at h1
    rcases List.mem_cons.1 (hp.mem_iff.1 (at_mem h0)) with e3 | e3
    · exact e3.symm
    · exact absurd ((List.pairwise_cons.1 hs).1 _ e3) h1
theorem set_perm {a : List T} {i : Nat} {y : T} (hi : i < a.length) (hd : Ids a) (hy : (at_ a i).1 = y.1) : (a.set i y).Perm (y :: del y.1 a) := by
  induction a generalizing i with
  | nil => simp at hi
  | cons x a ih =>
    have hd2 := hd
    unfold Ids at hd
    rw [List.map_cons, List.nodup_cons] at hd
    cases i with
    | zero =>
      have e : x.1 = y.1 := hy
      have hn : has a y.1 = false := by
        rw [Bool.eq_false_iff]
        intro hh
        obtain ⟨z, hz, ez⟩ := has_iff.1 hh
        exact hd.1 (List.mem_map.2 ⟨z, hz, ez.trans e.symm⟩)
      have e2 : del y.1 (x :: a) = a := by
        have : del y.1 (x :: a) = del y.1 a := by unfold del; rw [List.filter_cons_of_neg (by simpa using e)]
        rw [this, del_none hn]
      rw [e2]
      exact .refl _
    | succ i =>
      have hi2 : i < a.length := by simpa using hi
      have hy2 : (at_ a i).1 = y.1 := hy
      have hne : x.1 ≠ y.1 := fun e => hd.1 (List.mem_map.2 ⟨at_ a i, at_mem hi2, hy2.trans e.symm⟩)
      have e2 : del y.1 (x :: a) = x :: del y.1 a := by unfold del; rw [List.filter_cons_of_pos (by simpa using hne)]
      rw [e2]
      exact (List.Perm.cons x (ih hi2 hd.2 hy2)).trans (List.Perm.swap y x _)
theorem del_perm {a b : List T} (h : a.Perm b) (id : Int) : (del id a).Perm (del id b) := h.filter _
theorem has_perm {a b : List T} (h : a.Perm b) (id : Int) : has a id = has b id := by
  rw [Bool.eq_iff_iff, has_iff, has_iff]
  exact ⟨fun ⟨x, hx, e⟩ => ⟨x, h.mem_iff.1 hx, e⟩, fun ⟨x, hx, e⟩ => ⟨x, h.mem_iff.2 hx, e⟩⟩
theorem ids_perm {a b : List T} (h : a.Perm b) : Ids a ↔ Ids b := (List.Perm.map (fun x : T => x.1) h).nodup_iff
end Hp
end Go.Proofs.Ytpdhgjhcjnpkeaa
