namespace Go.Proofs.Ytpdhgjhcjnpkeaa
set_option linter.unusedVariables false
namespace Tm
/-- An alarm: its number, its time. -/
abbrev T := Int × Int
/-- a is told ahead of b. -/
def Bef (a b : T) : Prop := a.2 < b.2 ∨ (a.2 = b.2 ∧ a.1 < b.1)
instance (a b : T) : Decidable (Bef a b) := by unfold Bef; exact inferInstance
theorem bef_irrefl (a : T) : ¬ Bef a a := by unfold Bef; omega
theorem bef_trans {a b c : T} (h : Bef a b) (k : Bef b c) : Bef a c := by unfold Bef at *; omega
theorem bef_asymm {a b : T} (h : Bef a b) : ¬ Bef b a := by unfold Bef at *; omega
theorem bef_total {a b : T} (h : a ≠ b) : Bef a b ∨ Bef b a := by
  unfold Bef
  have : ¬ (a.1 = b.1 ∧ a.2 = b.2) := fun e => h (Prod.ext e.1 e.2)
  omega
/-- In the order in which they are told, no number twice. -/
def Srt (L : List T) : Prop := L.Pairwise Bef
def Ids (L : List T) : Prop := (L.map (·.1)).Nodup
/-- Is there an alarm of this number? -/
def has (L : List T) (id : Int) : Bool := L.any fun x => x.1 == id
theorem has_iff {L : List T} {id : Int} : has L id = true ↔ ∃ x ∈ L, x.1 = id := by simp [has]
def ins (t : T) : List T → List T
  | [] => [t]
  | x :: L => if Bef t x then t :: x :: L else x :: ins t L
def del (id : Int) (L : List T) : List T := L.filter fun x => x.1 != id
def set (L : List T) (id at_ : Int) : List T := ins (id, at_) (del id L)
theorem ins_perm (t : T) (L : List T) : (ins t L).Perm (t :: L) := by
  induction L with
  | nil => exact .refl _
  | cons x L ih =>
    unfold ins
    split
    · exact .refl _
    · exact (List.Perm.cons x ih).trans (List.Perm.swap t x L)
theorem mem_ins {t x : T} {L : List T} : x ∈ ins t L ↔ x = t ∨ x ∈ L := by rw [(ins_perm t L).mem_iff, List.mem_cons]
theorem length_ins (t : T) (L : List T) : (ins t L).length = L.length + 1 := by rw [(ins_perm t L).length_eq, List.length_cons]
theorem srt_ins {t : T} {L : List T} (h : Srt L) (hn : t ∉ L) : Srt (ins t L) := by
  induction L with
  | nil => exact List.pairwise_singleton _ _
  | cons x L ih =>
    obtain ⟨h1, h2⟩ := List.pairwise_cons.1 h
    unfold ins
    split
    · rename_i hb
      refine List.pairwise_cons.2 ⟨fun y hy => ?_, h⟩
      rcases List.mem_cons.1 hy with rfl | hy
      · exact hb
      · exact bef_trans hb (h1 y hy)
    · rename_i hb
      have hx : t ≠ x := fun e => hn (by rw [e]; exact List.mem_cons_self)
      refine List.pairwise_cons.2 ⟨fun y hy => ?_, ih h2 fun hm => hn (List.mem_cons_of_mem _ hm)⟩
      rcases mem_ins.1 hy with rfl | hy
      · exact (bef_total hx).resolve_left hb
      · exact h1 y hy
theorem mem_del {id : Int} {x : T} {L : List T} : x ∈ del id L ↔ x ∈ L ∧ x.1 ≠ id := by simp [del]
theorem srt_del {id : Int} {L : List T} (h : Srt L) : Srt (del id L) := List.Pairwise.filter _ h
theorem ids_del {id : Int} {L : List T} (h : Ids L) : Ids (del id L) := by
  unfold Ids at *
  exact List.Nodup.sublist (List.Sublist.map _ List.filter_sublist) h
theorem mem_set {L : List T} {id at_ : Int} {x : T} : x ∈ set L id at_ ↔ x = (id, at_) ∨ (x ∈ L ∧ x.1 ≠ id) := by unfold set; rw [mem_ins, mem_del]
theorem srt_set {L : List T} {id at_ : Int} (h : Srt L) : Srt (set L id at_) := srt_ins (srt_del h) fun hm => (mem_del.1 hm).2 rfl
theorem ids_ins {t : T} {L : List T} (h : Ids L) (hn : ∀ x ∈ L, x.1 ≠ t.1) : Ids (ins t L) := by
  unfold Ids at *
  rw [((ins_perm t L).map (·.1)).nodup_iff, List.map_cons, List.nodup_cons]
  refine ⟨fun hm => ?_, h⟩
  obtain ⟨x, hx, e⟩ := List.mem_map.1 hm
  exact hn x hx e
theorem ids_set {L : List T} {id at_ : Int} (h : Ids L) : Ids (set L id at_) := ids_ins (ids_del h) fun x hx => (mem_del.1 hx).2
theorem del_none {id : Int} {L : List T} (h : has L id = false) : del id L = L := by
  refine List.filter_eq_self.2 fun x hx => ?_
  rw [bne_iff_ne]
  intro e
  have : has L id = true := has_iff.2 ⟨x, hx, e⟩
  rw [h] at this; cases this
theorem del_length {id : Int} {L : List T} (hi : Ids L) (h : has L id = true) : (del id L).length + 1 = L.length := by
  induction L with
  | nil => simp [has] at h
  | cons x L ih =>
    unfold Ids at hi
    rw [List.map_cons, List.nodup_cons] at hi
    by_cases e : x.1 = id
    · have hn : has L id = false := by
        rw [Bool.eq_false_iff]
        intro hh
        obtain ⟨y, hy, ey⟩ := has_iff.1 hh
        exact hi.1 (List.mem_map.2 ⟨y, hy, ey.trans e.symm⟩)
      have : del id (x :: L) = del id L := by unfold del; rw [List.filter_cons_of_neg (by simpa using e)]
      rw [this, del_none hn, List.length_cons]
    · have hh : has L id = true := by
        obtain ⟨y, hy, ey⟩ := has_iff.1 h
        rcases List.mem_cons.1 hy with rfl | hy
        · exact absurd ey e
        · exact has_iff.2 ⟨y, hy, ey⟩
      have : del id (x :: L) = x :: del id L := by unfold del; rw [List.filter_cons_of_pos (by simpa using e)]
      rw [this, List.length_cons, List.length_cons, ih hi.2 hh]
theorem set_length_new {L : List T} {id at_ : Int} (h : has L id = false) : (set L id at_).length = L.length + 1 := by unfold set; rw [length_ins, del_none h]
theorem set_length_old {L : List T} {id at_ : Int} (hi : Ids L) (h : has L id = true) : (set L id at_).length = L.length := by unfold set; rw [length_ins, del_length hi h]
theorem has_set {L : List T} {id at_ j : Int} : has (set L id at_) j = (id == j || has L j) := by
  rw [Bool.eq_iff_iff, has_iff, Bool.or_eq_true, beq_iff_eq, has_iff]
  constructor
  · rintro ⟨x, hx, rfl⟩
    rcases mem_set.1 hx with rfl | ⟨h, _⟩
    · exact .inl rfl
    · exact .inr ⟨x, h, rfl⟩
  · rintro (rfl | ⟨x, hx, rfl⟩)
    · exact ⟨_, mem_set.2 (.inl rfl), rfl⟩
    · by_cases e : x.1 = id
      · exact ⟨_, mem_set.2 (.inl rfl), e.symm⟩
      · exact ⟨x, mem_set.2 (.inr ⟨hx, e⟩), rfl⟩
theorem has_del {L : List T} {id j : Int} : has (del id L) j = (id != j && has L j) := by
  rw [Bool.eq_iff_iff, has_iff, Bool.and_eq_true, bne_iff_ne, has_iff]
  constructor
  · rintro ⟨x, hx, rfl⟩
    obtain ⟨h1, h2⟩ := mem_del.1 hx
    exact ⟨fun e => h2 e.symm, x, h1, rfl⟩
  · rintro ⟨h, x, hx, rfl⟩
    exact ⟨x, mem_del.2 ⟨hx, fun e => h e.symm⟩, rfl⟩
/-- Those that are due, and those that are not. -/
def due (now : Int) (L : List T) : List T := L.filter fun x => decide (x.2 ≤ now)
def rest (now : Int) (L : List T) : List T := L.filter fun x => decide (now < x.2)
theorem mem_due {now : Int} {x : T} {L : List T} : x ∈ due now L ↔ x ∈ L ∧ x.2 ≤ now := by simp [due]
theorem mem_rest {now : Int} {x : T} {L : List T} : x ∈ rest now L ↔ x ∈ L ∧ now < x.2 := by simp [rest]
theorem srt_rest {now : Int} {L : List T} (h : Srt L) : Srt (rest now L) := List.Pairwise.filter _ h
theorem ids_rest {now : Int} {L : List T} (h : Ids L) : Ids (rest now L) := List.Nodup.sublist (List.Sublist.map _ List.filter_sublist) h
theorem ids_due {now : Int} {L : List T} (h : Ids L) : Ids (due now L) := List.Nodup.sublist (List.Sublist.map _ List.filter_sublist) h
/-- The order says what the list is. -/
theorem srt_ext {L M : List T} (hl : Srt L) (hm : Srt M) (h : ∀ x, x ∈ L ↔ x ∈ M) : L = M := by
  induction L generalizing M with
  | nil =>
    cases M with
    | nil => rfl
    | cons y M => have := (h y).2 List.mem_cons_self; cases this
  | cons x L ih =>
    cases M with
    | nil => have := (h x).1 List.mem_cons_self; cases this
    | cons y M =>
      obtain ⟨l1, l2⟩ := List.pairwise_cons.1 hl
      obtain ⟨m1, m2⟩ := List.pairwise_cons.1 hm
      have e : x = y := by
        rcases List.mem_cons.1 ((h x).1 List.mem_cons_self) with e | hx
        · exact e
        · rcases List.mem_cons.1 ((h y).2 List.mem_cons_self) with e | hy
          · exact e.symm
          · exact absurd (l1 y hy) (bef_asymm (m1 x hx))
      subst e
      congr 1
      refine ih l2 m2 fun z => ⟨fun hz => ?_, fun hz => ?_⟩
      · rcases List.mem_cons.1 ((h z).1 (List.mem_cons_of_mem _ hz)) with rfl | h1
        · exact absurd (l1 z hz) (bef_irrefl z)
        · exact h1
      · rcases List.mem_cons.1 ((h z).2 (List.mem_cons_of_mem _ hz)) with rfl | h1
        · exact absurd (m1 z hz) (bef_irrefl z)
        · exact h1
end Tm
end Go.Proofs.Ytpdhgjhcjnpkeaa
