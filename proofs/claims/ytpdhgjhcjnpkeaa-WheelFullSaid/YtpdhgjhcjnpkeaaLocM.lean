import Derived.Test.YtpdhgjhcjnpkeaaWhI
namespace Go.Proofs.Ytpdhgjhcjnpkeaa
set_option linter.unusedVariables false
theorem nodup_inj {α β : Type} {f : α → β} : ∀ {l : List α}, (l.map f).Nodup → ∀ {x y : α}, x ∈ l → y ∈ l → f x = f y → x = y
  | [], _, x, y, h, _, _ => by cases h
  | z :: l, hn, x, y, hx, hy, e => by
    rw [List.map_cons, List.nodup_cons] at hn
    rcases List.mem_cons.1 hx with h1 | h1 <;> rcases List.mem_cons.1 hy with h2 | h2
    · rw [h1, h2]
    · subst h1; exact absurd (List.mem_map.2 ⟨y, h2, e.symm⟩) hn.1
    · subst h2; exact absurd (List.mem_map.2 ⟨x, h1, e⟩) hn.1
    · exact nodup_inj hn.2 h1 h2 e
structure Keyd (E : List Ent) : Prop where
  keys : (E.map (·.1)).Nodup
  borns : (E.map (·.2.2)).Nodup
theorem MapI.keyd {w : World} {m : Nat} {E : List Ent} (h : MapI w m E) : Keyd E := by
  obtain ⟨c, _, h1, h2, _⟩ := h
  exact ⟨h1, h2⟩
theorem Loc.mem {E : List Ent} {a : List Tm.T} (h : Loc E a) {i : Nat} (hi : i < a.length) : ∃ b, ((Hp.at_ a i).1, (i : Int), b) ∈ E := (h _ _).2 ⟨i, hi, rfl, rfl⟩
theorem Loc.inj {E : List Ent} {a : List Tm.T} (h : Loc E a) (hk : Keyd E) {i j : Nat} (hi : i < a.length) (hj : j < a.length) (e : (Hp.at_ a i).1 = (Hp.at_ a j).1) : i = j := by
  obtain ⟨b, h1⟩ := h.mem hi
  obtain ⟨d, h2⟩ := h.mem hj
  have := nodup_inj hk.keys h1 h2 e
  simp only [Prod.mk.injEq] at this
  omega
theorem loc_swap {E : List Ent} {a : List Tm.T} (h : Loc E a) (hk : Keyd E) {i j b1 b2 : Nat} (hi : i < a.length) (hj : j < a.length) (m1 : ((Hp.at_ a j).1, (j : Int), b1) ∈ E) (m2 : ((Hp.at_ a i).1, (i : Int), b2) ∈ E) :
    Loc (setE (setE E b1 i) b2 j) (Hp.swp a i j) := by
  have S := Hp.at_swp (a := a) hi hj
  have hb : b1 = b2 → i = j := fun e => by
    have := nodup_inj hk.borns m1 m2 e
    simp only [Prod.mk.injEq] at this
    exact h.inj hk hi hj this.1.symm
  have hE1 : ∃ u, ((Hp.at_ a i).1, u, b2) ∈ setE E b1 i := by
    by_cases e : b2 = b1
    · exact ⟨i, mem_setE.2 (.inr ⟨rfl, e, _, by rw [← e]; exact m2⟩)⟩
    · exact ⟨_, mem_setE.2 (.inl ⟨m2, e⟩)⟩
  intro k v
  rw [Hp.swp_length]
  constructor
  · rintro ⟨b, hm⟩
    rcases mem_setE.1 hm with ⟨h1, h2⟩ | ⟨h1, h2, u, h3⟩
    · rcases mem_setE.1 h1 with ⟨h4, h5⟩ | ⟨h4, h5, u, h6⟩
      · obtain ⟨q, hq, rfl, rfl⟩ := (h k v).1 ⟨b, h4⟩
        refine ⟨q, hq, ?_, rfl⟩
        have e1 : q ≠ j := by
          rintro rfl
          have := nodup_inj hk.keys h4 m1 rfl
          simp only [Prod.mk.injEq] at this
          exact h5 this.2.2
        have e2 : q ≠ i := by
          rintro rfl
          have := nodup_inj hk.keys h4 m2 rfl
          simp only [Prod.mk.injEq] at this
          exact h2 this.2.2
        rw [S, if_neg e1, if_neg e2]
      · have := nodup_inj hk.borns h6 m1 rfl
        simp only [Prod.mk.injEq] at this
        refine ⟨i, hi, ?_, h4⟩
        by_cases e : i = j
        · rw [S, if_pos e, this.1]
          subst e; rfl
        · rw [S, if_neg e, if_pos rfl, this.1]
    · refine ⟨j, hj, ?_, h1⟩
      rw [S, if_pos rfl]
      rcases mem_setE.1 h3 with ⟨h4, h5⟩ | ⟨h4, h5, u2, h6⟩
      · have := nodup_inj hk.borns h4 m2 rfl
        simp only [Prod.mk.injEq] at this
        exact this.1
      · have e2 : b2 = b1 := h5
        have := nodup_inj hk.borns h6 m2 e2.symm
        simp only [Prod.mk.injEq] at this
        exact this.1
  · rintro ⟨q, hq, rfl, rfl⟩
    by_cases e1 : q = j
    · subst e1
      rw [S, if_pos rfl]
      exact ⟨b2, mem_setE.2 (.inr ⟨rfl, rfl, hE1⟩)⟩
    · by_cases e2 : q = i
      · subst e2
        rw [S, if_neg e1, if_pos rfl]
        refine ⟨b1, mem_setE.2 (.inl ⟨mem_setE.2 (.inr ⟨rfl, rfl, _, m1⟩), fun e => e1 (hb e)⟩)⟩
      · rw [S, if_neg e1, if_neg e2]
        obtain ⟨b, hm⟩ := h.mem hq
        refine ⟨b, mem_setE.2 (.inl ⟨mem_setE.2 (.inl ⟨hm, fun e => ?_⟩), fun e => ?_⟩)⟩
        · have := nodup_inj hk.borns hm m1 e
          simp only [Prod.mk.injEq] at this
          omega
        · have := nodup_inj hk.borns hm m2 e
          simp only [Prod.mk.injEq] at this
          omega
/-- One more at the end. -/
theorem loc_push {E : List Ent} {a : List Tm.T} (h : Loc E a) (x : Tm.T) (b : Nat) : Loc (E ++ [(x.1, (a.length : Int), b)]) (a ++ [x]) := by
  intro k v
  rw [List.length_append, List.length_singleton]
  constructor
  · rintro ⟨d, hm⟩
    rcases List.mem_append.1 hm with h1 | h1
    · obtain ⟨q, hq, rfl, rfl⟩ := (h k v).1 ⟨d, h1⟩
      exact ⟨q, by omega, by rw [Hp.at_append hq], rfl⟩
    · simp at h1
      obtain ⟨rfl, rfl, rfl⟩ := h1
      exact ⟨a.length, by omega, by rw [Hp.at_new], rfl⟩
  · rintro ⟨q, hq, rfl, rfl⟩
    by_cases e : q = a.length
    · subst e; exact ⟨b, by rw [Hp.at_new]; simp⟩
    · rw [Hp.at_append (by omega)]
      obtain ⟨d, hm⟩ := h.mem (i := q) (by omega)
      exact ⟨d, List.mem_append.2 (.inl hm)⟩
/-- The last one is gone. -/
theorem loc_pop {E : List Ent} {a : List Tm.T} (h : Loc E a) (hk : Keyd E) {n : Nat} (hl : a.length = n + 1) : Loc (E.filter fun x => x.1 != (Hp.at_ a n).1) a.dropLast := by
  intro k v
  rw [List.length_dropLast, hl, Nat.add_sub_cancel]
  constructor
  · rintro ⟨d, hm⟩
    obtain ⟨h1, h2⟩ := List.mem_filter.1 hm
    obtain ⟨q, hq, rfl, rfl⟩ := (h k v).1 ⟨d, h1⟩
    have : q ≠ n := by rintro rfl; simp at h2
    exact ⟨q, by omega, by rw [Hp.at_drop (by omega)], rfl⟩
  · rintro ⟨q, hq, rfl, rfl⟩
    rw [Hp.at_drop (by omega)]
    obtain ⟨d, hm⟩ := h.mem (i := q) (by omega)
    refine ⟨d, List.mem_filter.2 ⟨hm, ?_⟩⟩
    rw [bne_iff_ne]
    intro e
    have := h.inj hk (i := q) (j := n) (by omega) (by omega) e
    omega
/-- A time is another: the places stay. -/
theorem loc_set {E : List Ent} {a : List Tm.T} (h : Loc E a) {i : Nat} (hi : i < a.length) (n : Int) : Loc E (a.set i ((Hp.at_ a i).1, n)) := by
  intro k v
  rw [h k v, List.length_set]
  constructor
  · rintro ⟨q, hq, rfl, rfl⟩
    refine ⟨q, hq, ?_, rfl⟩
    rw [Hp.at_set hi]
    split
    · rename_i e; rw [e]
    · rfl
  · rintro ⟨q, hq, rfl, rfl⟩
    refine ⟨q, hq, ?_, rfl⟩
    rw [Hp.at_set hi]
    split
    · rename_i e; rw [e]
    · rfl
end Go.Proofs.Ytpdhgjhcjnpkeaa
