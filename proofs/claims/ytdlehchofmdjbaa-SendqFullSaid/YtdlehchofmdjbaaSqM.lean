namespace Go.Proofs.Ytdlehchofmdjbaa
set_option linter.unusedVariables false
set_option linter.unusedSimpArgs false
/-! Sendq: the mathematics. -/
namespace Sq
/-- A piece. -/
structure Pm where
  tsn : Nat
  st : Nat
  sq : Nat
  bg : Bool
  en : Bool
  un : Bool
  bs : List Int
/-- A piece that waits or is outstanding. -/
structure It where
  p : Pm
  out : Bool
  ack : Bool
  mkd : Bool
  path : Int
  miss : Nat
/-- A queue: the next TSN, and its pieces. -/
structure QS where
  nx : Nat
  l : List It
def fresh (p : Pm) (t : Nat) : It := ⟨{ p with tsn := t }, false, false, false, 0, 0⟩
def push (Q : QS) (p : Pm) : QS := ⟨(Q.nx + 1) % 4294967296, Q.l ++ [fresh p Q.nx]⟩
/-- Which piece is sent next. -/
def pick (l : List It) : Option Nat := match l.findIdx? (·.mkd) with
  | some k => some k
  | none => l.findIdx? (fun x => !x.out)
def go (path : Int) (x : It) : It := { x with out := true, mkd := false, path := path, miss := 0 }
def sent (Q : QS) (k : Nat) (path : Int) : QS := ⟨Q.nx, Q.l.modify k (go path)⟩
def outN (l : List It) : Nat := (l.takeWhile (·.out)).length
def cum (Q : QS) : Nat := (Q.nx + 4294967295 - Q.l.length) % 4294967296
/-- How many are heard of for good, by this Cum. -/
def done (Q : QS) (c : Nat) : Nat := (c + 4294967296 - cum Q) % 4294967296
def hit (d : Nat) (G : List (Nat × Nat)) (i : Nat) : Bool := decide (i + 1 ≤ d) || G.any (fun g => decide (g.1 + d ≤ i + 1) && decide (i + 1 ≤ g.2 + d))
/-- One more than the last one that is heard of, of the first n. -/
def top (d : Nat) (G : List (Nat × Nat)) : Nat → Nat
  | 0 => 0
  | n + 1 => if hit d G n then n + 1 else top d G n
def missed (d t i : Nat) (x : It) (h : Bool) : Bool := !h && decide (d ≤ i) && decide (i + 1 < t) && !x.mkd
def hear1 (d : Nat) (G : List (Nat × Nat)) (t i : Nat) (x : It) : It :=
  if hit d G i then { x with ack := true, mkd := false }
  else if missed d t i x false then (if x.miss = 2 then { x with ack := false, mkd := true, miss := 0 } else { x with ack := false, miss := x.miss + 1 })
  else { x with ack := false }
def heard (Q : QS) (d : Nat) (G : List (Nat × Nat)) : QS := ⟨Q.nx, ((Q.l.mapIdx fun i x => if i < outN Q.l then hear1 d G (top d G (outN Q.l)) i x else x)).drop d⟩
/-- The paths that lost one, in the order of the pieces. -/
def lostAt (l : List It) (d : Nat) (G : List (Nat × Nat)) (o i : Nat) : Option Int := match l[i]? with
  | some x => if missed d (top d G o) i x (hit d G i) = true ∧ x.miss = 2 then some x.path else none
  | none => none
def fastPs (Q : QS) (d : Nat) (G : List (Nat × Nat)) : List Int := (List.range (outN Q.l)).filterMap (lostAt Q.l d G (outN Q.l))
theorem filterMap_cong {α β : Type} {f g : α → Option β} {l : List α} (h : ∀ a ∈ l, f a = g a) : l.filterMap f = l.filterMap g := by
  induction l with
  | nil => rfl
  | cons a l ih =>
    rw [List.filterMap_cons, List.filterMap_cons, h a List.mem_cons_self, ih (fun b hb => h b (List.mem_cons_of_mem _ hb))]
theorem range_one {α : Type} {f : Nat → Option α} {d n : Nat} (hd : d < n) (h : ∀ i, i ≠ d → f i = none) : (List.range n).filterMap f = (f d).toList := by
  induction n with
  | zero => omega
  | succ n ih =>
    rw [List.range_succ, List.filterMap_append]
    by_cases e : d = n
    · subst e
      have h0 : (List.range d).filterMap f = [] := by
        rw [List.filterMap_eq_nil_iff]
        intro a ha
        exact h a (by have := List.mem_range.1 ha; omega)
      rw [h0]
      simp only [List.filterMap_cons, List.filterMap_nil, List.nil_append]
      cases f d <;> rfl
    · rw [ih (by omega)]
      have := h n (fun e' => e e'.symm)
      simp [this]
/-! Where the first m are out, as they were sent, and the others wait. -/
def plain (x : It) : Prop := x.ack = false ∧ x.mkd = false ∧ x.miss = 0
theorem outN_append {a b : List It} (ha : ∀ x ∈ a, x.out = true) : outN (a ++ b) = a.length + outN b := by
  unfold outN
  induction a with
  | nil => simp
  | cons x a ih =>
    have hx := ha x (by simp)
    simp only [List.cons_append, List.takeWhile_cons, hx, if_true, List.length_cons]
    rw [ih (fun y hy => ha y (List.mem_cons_of_mem _ hy))]
    omega
theorem outN_none {b : List It} (hb : ∀ x, b.head? = some x → x.out = false) : outN b = 0 := by
  cases b with
  | nil => rfl
  | cons x b => simp [outN, List.takeWhile_cons, hb x rfl]
theorem pick_wait {a b : List It} (hm : ∀ x ∈ a ++ b, x.mkd = false) (ha : ∀ x ∈ a, x.out = true) (hb : ∀ x, b.head? = some x → x.out = false) (hne : b ≠ []) : pick (a ++ b) = some a.length := by
  unfold pick
  have h0 : (a ++ b).findIdx? (·.mkd) = none := by
    rw [List.findIdx?_eq_none_iff]
    intro x hx; exact hm x hx
  rw [h0]
  show (a ++ b).findIdx? (fun x => !x.out) = some a.length
  have h1 : a.findIdx? (fun x => !x.out) = none := by
    rw [List.findIdx?_eq_none_iff]
    intro x hx; simp [ha x hx]
  rw [List.findIdx?_append, h1]
  cases b with
  | nil => exact absurd rfl hne
  | cons y b => simp [List.findIdx?_cons, hb y rfl]
theorem pick_none {a : List It} (hm : ∀ x ∈ a, x.mkd = false) (ha : ∀ x ∈ a, x.out = true) : pick a = none := by
  unfold pick
  have h0 : a.findIdx? (·.mkd) = none := by
    rw [List.findIdx?_eq_none_iff]
    intro x hx; exact hm x hx
  rw [h0]
  show a.findIdx? (fun x => !x.out) = none
  rw [List.findIdx?_eq_none_iff]
  intro x hx; simp [ha x hx]
theorem pick_mark {x : It} {b : List It} (h : x.mkd = true) : pick (x :: b) = some 0 := by
  unfold pick
  simp [List.findIdx?_cons, h]
end Sq
end Go.Proofs.Ytdlehchofmdjbaa
namespace Go.Proofs.Ytdlehchofmdjbaa
set_option linter.unusedVariables false
set_option linter.unusedSimpArgs false
/-! SendqFast: the mathematics. -/
namespace Sq
/-- All are out; the one at d was missed t times; nobody else is marked. -/
def Mid (d t ts : Nat) (l : List It) : Prop := (∀ i x, l[i]? = some x → x.out = true ∧ (i ≠ d → x.mkd = false) ∧ (i = d → x.path = 0 ∧ x.p.tsn = ts ∧ (t < 3 → x.mkd = false ∧ x.miss = t) ∧ (t = 3 → x.mkd = true))) ∧ d + 5 ≤ l.length
theorem hit_gap (d u i : Nat) : hit d [(2, u)] i = decide (i + 1 ≤ d ∨ (d + 2 ≤ i + 1 ∧ i + 1 ≤ d + u)) := by
  unfold hit
  rw [Bool.eq_iff_iff]
  simp
  omega
theorem top_gap (d t : Nat) (ht : 1 ≤ t) : ∀ m, top d [(2, t + 1)] (d + t + 1 + m) = d + t + 1
  | 0 => by
    show (if hit d [(2, t + 1)] (d + t) then d + t + 1 else _) = _
    rw [hit_gap, if_pos (by simp; omega)]
  | m + 1 => by
    show (if hit d [(2, t + 1)] (d + t + 1 + m) then _ else top d [(2, t + 1)] (d + t + 1 + m)) = _
    rw [hit_gap, if_neg (by simp; omega)]
    exact top_gap d t ht m
theorem outN_all {l : List It} (h : ∀ (i : Nat) (x : It), l[i]? = some x → x.out = true) : outN l = l.length := by
  have := outN_append (a := l) (b := []) (fun x hx => by
    obtain ⟨i, hi, e⟩ := List.mem_iff_getElem.1 hx
    exact h i x (by rw [List.getElem?_eq_getElem hi, e]))
  simpa [outN] using this
theorem mid_out {d t ts : Nat} {l : List It} (h : Mid d t ts l) : outN l = l.length := outN_all fun i x hx => (h.1 i x hx).1
theorem heard_at {Q : QS} {d : Nat} {G : List (Nat × Nat)} (ho : outN Q.l = Q.l.length) (i : Nat) : (heard Q d G).l[i]? = (Q.l[d + i]?).map (hear1 d G (top d G Q.l.length) (d + i)) := by
  unfold heard
  simp only [List.getElem?_drop, List.getElem?_mapIdx, ho]
  cases hq : Q.l[d + i]? with
  | none => rfl
  | some x =>
    have hlt := (List.getElem?_eq_some_iff.1 hq).1
    simp [hlt]
theorem mid_step {Q : QS} {d t ts : Nat} (h : Mid d t ts Q.l) (ht : t < 3) (hl : d + 5 ≤ Q.l.length) : Mid 0 (t + 1) ts (heard Q d [(2, t + 1 + 1)]).l := by
  have ho := mid_out h
  have htop : top d [(2, t + 1 + 1)] Q.l.length = d + (t + 1) + 1 := by
    have := top_gap d (t + 1) (by omega) (Q.l.length - (d + (t + 1) + 1))
    rwa [show d + (t + 1) + 1 + (Q.l.length - (d + (t + 1) + 1)) = Q.l.length by omega] at this
  refine ⟨fun i x hx => ?_, by rw [show (heard Q d [(2, t + 1 + 1)]).l.length = Q.l.length - d by unfold heard; simp]; omega⟩
  rw [heard_at ho, htop] at hx
  cases hq : Q.l[d + i]? with
  | none => rw [hq] at hx; cases hx
  | some y =>
    rw [hq] at hx
    simp only [Option.map_some, Option.some.injEq] at hx
    obtain ⟨h1, h2, h3⟩ := h.1 (d + i) y hq
    unfold hear1 at hx
    rw [hit_gap] at hx
    rcases Nat.eq_zero_or_pos i with hi | hi
    · subst hi
      rw [Nat.add_zero] at hx h3
      obtain ⟨g1, g2, g3, g4⟩ := h3 rfl
      obtain ⟨g5, g6⟩ := g3 ht
      rw [if_neg (by simp), if_pos (by unfold missed; simp [g5])] at hx
      by_cases h2m : y.miss = 2
      · rw [if_pos h2m] at hx
        subst hx
        refine ⟨h1, fun h => absurd rfl h, fun _ => ⟨g1, g2, fun h => by omega, fun _ => rfl⟩⟩
      · rw [if_neg h2m] at hx
        subst hx
        refine ⟨h1, fun h => absurd rfl h, fun _ => ⟨g1, g2, fun h => ⟨g5, by show y.miss + 1 = _; omega⟩, fun h => by omega⟩⟩
    · have hm : y.mkd = false := h2 (by omega)
      split at hx
      · subst hx
        exact ⟨h1, fun _ => rfl, fun h => by omega⟩
      · rename_i hn
        rw [if_neg (by unfold missed; simp at hn ⊢; omega)] at hx
        subst hx
        exact ⟨h1, fun _ => hm, fun h => by omega⟩
theorem fast_ps {Q : QS} {d t ts : Nat} (h : Mid d t ts Q.l) (ht : t < 3) : ∃ p : Int, fastPs Q d [(2, t + 1 + 1)] = if t = 2 then [p] else [] := by
  have ho := mid_out h
  have hl := h.2
  have htop : top d [(2, t + 1 + 1)] Q.l.length = d + (t + 1) + 1 := by
    have := top_gap d (t + 1) (by omega) (Q.l.length - (d + (t + 1) + 1))
    rwa [show d + (t + 1) + 1 + (Q.l.length - (d + (t + 1) + 1)) = Q.l.length by omega] at this
  obtain ⟨x, hx⟩ : ∃ x, Q.l[d]? = some x := ⟨_, List.getElem?_eq_getElem (by omega)⟩
  obtain ⟨_, _, h3⟩ := h.1 d x hx
  obtain ⟨g1, g2, g3, g4⟩ := h3 rfl
  obtain ⟨g5, g6⟩ := g3 ht
  refine ⟨x.path, ?_⟩
  unfold fastPs
  rw [ho, range_one (d := d) (by omega)]
  · unfold lostAt
    rw [hx, htop]
    have hm : missed d (d + (t + 1) + 1) d x (hit d [(2, t + 1 + 1)] d) = true := by
      rw [hit_gap]; unfold missed; simp [g5]
    by_cases h2 : t = 2
    · have : x.miss = 2 := by omega
      show (if missed d (d + (t + 1) + 1) d x (hit d [(2, t + 1 + 1)] d) = true ∧ x.miss = 2 then some x.path else none).toList = _
      rw [if_pos ⟨hm, this⟩, if_pos h2]; rfl
    · have : ¬ x.miss = 2 := by omega
      show (if missed d (d + (t + 1) + 1) d x (hit d [(2, t + 1 + 1)] d) = true ∧ x.miss = 2 then some x.path else none).toList = _
      rw [if_neg (fun e => this e.2), if_neg h2]; rfl
  · intro i hi
    unfold lostAt
    rw [htop]
    cases hq : Q.l[i]? with
    | none => rfl
    | some y =>
      have hmf : missed d (d + (t + 1) + 1) i y (hit d [(2, t + 1 + 1)] i) = false := by
        rw [hit_gap]
        unfold missed
        by_cases hd : d ≤ i
        · by_cases hi2 : i + 1 < d + (t + 1) + 1
          · have : decide (i + 1 ≤ d ∨ d + 2 ≤ i + 1 ∧ i + 1 ≤ d + (t + 1 + 1)) = true := by simp; omega
            rw [this]; simp
          · rw [decide_eq_false hi2]; simp
        · rw [decide_eq_false hd]; simp
      simp [hmf]
end Sq
end Go.Proofs.Ytdlehchofmdjbaa
