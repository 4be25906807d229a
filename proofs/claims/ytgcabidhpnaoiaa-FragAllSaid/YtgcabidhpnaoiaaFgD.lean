import Derived.Test.YtgcabidhpnaoiaaFgA
import Derived.Test.YtgcabidhpnaoiaaFgC
namespace Go.Proofs.Ytgcabidhpnaoiaa
set_option linter.unusedVariables false
/-! Messages cut one behind the other; and what was told when all their pieces came. -/
namespace Fg
/-- One more message. -/
def Lay.snoc (L : Lay) (st sq : Nat) (un : Bool) (sz : Nat) (bs : List Int) : Lay :=
  { N := L.N + npt sz bs.length, C := L.C + 1, F := L.F
    pc := fun i => if i < L.N then L.pc i else { cutPc st sq un sz bs (i - L.N) with tsn := add L.F i }
    mg := fun i => if i < L.N then L.mg i else L.C
    a := fun j => if j < L.C then L.a j else L.N
    ln := fun j => if j < L.C then L.ln j else npt sz bs.length
    st := fun j => if j < L.C then L.st j else st
    sq := fun j => if j < L.C then L.sq j else sq
    un := fun j => if j < L.C then L.un j else un
    bs := fun j => if j < L.C then L.bs j else bs }
def Lay.none (F : Nat) : Lay := ⟨0, 0, F, fun _ => ⟨0, 0, 0, false, false, false, []⟩, fun _ => 0, fun _ => 0, fun _ => 0, fun _ => 0, fun _ => 0, fun _ => false, fun _ => []⟩
/-- The numbers of the messages. -/
structure LayC (L : Lay) (nx : Nat → Nat) : Prop where
  ok : L.Ok
  lt : ∀ j, j < L.C → L.un j = false → L.sq j < nx (L.st j)
  all : ∀ s q, q < nx s → ∃ j, j < L.C ∧ L.un j = false ∧ L.st j = s ∧ L.sq j = q
  mono : ∀ j j', j < j' → j' < L.C → L.un j = false → L.un j' = false → L.st j = L.st j' → L.sq j < L.sq j'
  le : ∀ s, nx s ≤ L.C
theorem layC_none {F : Nat} (h : F < 4294967296) : LayC (Lay.none F) (fun _ => 0) :=
  ⟨⟨by simp [Lay.none], h, fun i h => by simp [Lay.none] at h, fun i h => by simp [Lay.none] at h, fun i h => by simp [Lay.none] at h, fun i h => by simp [Lay.none] at h, fun i h => by simp [Lay.none] at h, fun i h => by simp [Lay.none] at h, fun i h => by simp [Lay.none] at h, fun i h => by simp [Lay.none] at h, fun i h => by simp [Lay.none] at h, fun i _ h => by simp [Lay.none] at h, fun i h => by simp [Lay.none] at h⟩,
   fun i h => by simp [Lay.none] at h, fun s q h => by simp at h, fun _ _ _ h => by simp [Lay.none] at h, fun _ => Nat.zero_le _⟩
theorem cut_cat (sz : Nat) (hs : 1 ≤ sz) (bs : List Int) : ∀ k, ((List.range k).flatMap fun i => (bs.drop (i * sz)).take sz) = bs.take (k * sz)
  | 0 => by simp
  | k + 1 => by
    rw [List.range_succ, List.flatMap_append, cut_cat sz hs bs k]
    simp only [List.flatMap_cons, List.flatMap_nil, List.append_nil]
    rw [Nat.add_mul, Nat.one_mul, List.take_add]
theorem cut_all {sz : Nat} (hs : 1 ≤ sz) (bs : List Int) : ((List.range (npt sz bs.length)).flatMap fun i => (bs.drop (i * sz)).take sz) = bs := by
  rw [cut_cat sz hs]
  refine List.take_of_length_le ?_
  have := mt (npt_lt (i := npt sz bs.length) (N := bs.length) hs).2 (by omega)
  omega
section
variable {L : Lay} {nx : Nat → Nat} {st sz : Nat} {un : Bool} {bs : List Int}
theorem layC_snoc (h : LayC L nx) (hb : 0 < bs.length) (hst : st < 8) (h1 : 1 ≤ sz) (h2 : sz ≤ 256) (hN : L.N + npt sz bs.length ≤ 300) (hC : L.C < 20) :
    LayC (L.snoc st (if un = true then 0 else nx st) un sz bs) (if un = true then nx else upd nx st) := by
  obtain ⟨⟨k1, k2, k3, k4, k5, k6, k7, k8, k9, k10, k11, k12, k13⟩, g1, g2, g3, g4⟩ := h
  have hp := npt_pos h1 hb
  generalize hq : (if un = true then 0 else nx st) = q
  have hq20 : q ≤ 20 := by have := g4 st; subst hq; split <;> omega
  have hnx : (if un = true then nx else upd nx st) = fun s => if un = false ∧ s = st then nx st + 1 else nx s := by
    funext s
    have := g4 st
    cases un
    · simp only [Bool.false_eq_true, if_false, true_and]
      unfold upd
      split
      · omega
      · rfl
    · simp
  have hqu : un = false → q = nx st := fun e => by subst hq; simp [e]
  rw [hnx]
  refine ⟨⟨hN, k2, fun i hi => ?_, fun i hi => ?_, fun i hi => ?_, fun j hj => ?_, fun j hj i h3 h4 => ?_, fun i hi => ?_, fun i hi => ?_, fun i hi => ?_, fun j hj => ?_, fun j j' hj hj' u1 u2 e1 e2 => ?_, fun j hj => ?_⟩, fun j hj u => ?_, fun s x hx => ?_, fun j j' hlt hj' u1 u2 e => ?_, fun s => ?_⟩
  · simp only [Lay.snoc] at hi ⊢
    split
    · exact k3 i ‹_›
    · rfl
  · simp only [Lay.snoc] at hi ⊢
    split
    · exact k4 i ‹_›
    · have := (npt_lt (i := i - L.N) (N := bs.length) h1).1 (by omega)
      simp only [Form, cutPc, List.length_take, List.length_drop]
      exact ⟨by omega, by omega, hst⟩
  · simp only [Lay.snoc] at hi ⊢
    by_cases hiN : i < L.N
    · obtain ⟨m1, m2, m3⟩ := k5 i hiN
      simp only [if_pos hiN, if_pos m1]
      exact ⟨by omega, m2, m3⟩
    · simp only [if_neg hiN, if_neg (Nat.lt_irrefl L.C)]
      exact ⟨by omega, by omega, by omega⟩
  · simp only [Lay.snoc] at hj ⊢
    by_cases hjC : j < L.C
    · simp only [if_pos hjC]
      have := k6 j hjC
      exact ⟨this.1, by omega⟩
    · simp only [if_neg hjC]
      exact ⟨hp, by omega⟩
  · simp only [Lay.snoc] at hj h3 h4 ⊢
    by_cases hjC : j < L.C
    · simp only [if_pos hjC] at h3 h4
      have := k6 j hjC
      rw [if_pos (by omega)]
      exact k7 j hjC i h3 h4
    · simp only [if_neg hjC] at h3 h4
      rw [if_neg (by omega)]
      omega
  · simp only [Lay.snoc] at hi ⊢
    by_cases hiN : i < L.N
    · have := k5 i hiN
      simp only [if_pos hiN, if_pos this.1]
      exact k8 i hiN
    · simp only [if_neg hiN, if_neg (Nat.lt_irrefl L.C), cutPc]
      exact ⟨trivial, trivial, trivial⟩
  · simp only [Lay.snoc] at hi ⊢
    by_cases hiN : i < L.N
    · have := k5 i hiN
      simp only [if_pos hiN, if_pos this.1]
      exact k9 i hiN
    · simp only [if_neg hiN, if_neg (Nat.lt_irrefl L.C), cutPc, decide_eq_true_eq]
      omega
  · simp only [Lay.snoc] at hi ⊢
    by_cases hiN : i < L.N
    · have := k5 i hiN
      simp only [if_pos hiN, if_pos this.1]
      exact k10 i hiN
    · simp only [if_neg hiN, if_neg (Nat.lt_irrefl L.C), cutPc, decide_eq_true_eq]
      omega
  · simp only [Lay.snoc] at hj ⊢
    by_cases hjC : j < L.C
    · simp only [if_pos hjC]
      rw [← k11 j hjC]
      have := k6 j hjC
      rw [List.flatMap_def, List.flatMap_def]
      congr 1
      refine List.map_congr_left fun k hk => ?_
      have := List.mem_range.1 hk
      rw [if_pos (by omega)]
    · simp only [if_neg hjC]
      refine Eq.trans ?_ (cut_all h1 bs)
      rw [List.flatMap_def, List.flatMap_def]
      congr 1
      refine List.map_congr_left fun k hk => ?_
      rw [if_neg (by omega)]
      simp only [cutPc, Nat.add_sub_cancel_left]
  · simp only [Lay.snoc] at hj hj' u1 u2 e1 e2
    by_cases c1 : j < L.C <;> by_cases c2 : j' < L.C
    · simp only [if_pos c1, if_pos c2] at u1 u2 e1 e2
      exact k12 j j' c1 c2 u1 u2 e1 e2
    · simp only [if_pos c1, if_neg c2] at u1 u2 e1 e2
      have := g1 j c1 u1
      rw [e1, e2, hqu u2] at this
      omega
    · simp only [if_neg c1, if_pos c2] at u1 u2 e1 e2
      have := g1 j' c2 u2
      rw [← e1, ← e2, hqu u1] at this
      omega
    · omega
  · simp only [Lay.snoc] at hj ⊢
    split
    · exact k13 j ‹_›
    · omega
  · simp only [Lay.snoc] at hj u ⊢
    by_cases c1 : j < L.C
    · simp only [if_pos c1] at u ⊢
      have := g1 j c1 u
      split
      · rename_i e; rw [e.2] at this; omega
      · exact this
    · simp only [if_neg c1] at u ⊢
      rw [if_pos ⟨u, trivial⟩, hqu u]
      omega
  · simp only [Lay.snoc]
    have old : x < nx s → ∃ j, j < L.C + 1 ∧ (if j < L.C then L.un j else un) = false ∧ (if j < L.C then L.st j else st) = s ∧ (if j < L.C then L.sq j else q) = x := fun h => by
      obtain ⟨j, h1, h2, h3, h4⟩ := g2 s x h
      exact ⟨j, by omega, by rw [if_pos h1]; exact h2, by rw [if_pos h1]; exact h3, by rw [if_pos h1]; exact h4⟩
    split at hx
    · rename_i e
      by_cases hx2 : x < nx s
      · exact old hx2
      · rw [← e.2] at hx
        exact ⟨L.C, by omega, by rw [if_neg (Nat.lt_irrefl _)]; exact e.1, by rw [if_neg (Nat.lt_irrefl _)]; exact e.2.symm, by rw [if_neg (Nat.lt_irrefl _), hqu e.1, ← e.2]; omega⟩
    · exact old hx
  · simp only [Lay.snoc] at hj' u1 u2 e ⊢
    have c1 : j < L.C := by omega
    simp only [if_pos c1] at u1 e ⊢
    by_cases c2 : j' < L.C
    · simp only [if_pos c2] at u2 e ⊢
      exact g3 j j' hlt c2 u1 u2 e
    · simp only [if_neg c2] at u2 e ⊢
      have := g1 j c1 u1
      rw [e] at this
      rw [hqu u2]; exact this
  · simp only [Lay.snoc]
    have := g4 s
    have := g4 st
    split <;> omega
/-- The pieces, one behind the other. -/
def Lay.list (L : Lay) : List Pc := (List.range L.N).map L.pc
theorem list_snoc {sq : Nat} : (L.snoc st sq un sz bs).list = L.list ++ (List.range (npt sz bs.length)).map fun k => { cutPc st sq un sz bs k with tsn := add L.F (L.N + k) } := by
  unfold Lay.list
  simp only [Lay.snoc]
  rw [List.range_add, List.map_append, List.map_map]
  congr 1
  · exact List.map_congr_left fun i hi => if_pos (List.mem_range.1 hi)
  · refine List.map_congr_left fun k _ => ?_
    simp only [Function.comp]
    rw [if_neg (by omega), Nat.add_sub_cancel_left]
/-- Nothing came yet. -/
theorem st_none (h : L.Ok) : St L [] ⟨[], [], fun _ => 0⟩ [] := by
  have nd : ∀ j, j < L.C → ¬ Done L [] j := fun j hj hd => by
    have := h.ln j hj
    cases hd (L.a j) (Nat.le_refl _) (by omega)
  have e0 : ∀ {j : Nat}, ¬ j ∈ ([] : List Nat) := by intro j h; cases h
  exact ⟨fun i hi => absurd hi e0, fun p => ⟨fun h => (by cases h), fun ⟨i, h, _⟩ => absurd h e0⟩, List.Pairwise.nil, fun x => ⟨fun h => (by cases h), fun ⟨j, h1, _, h3, _⟩ => absurd h3 (nd j h1)⟩, List.Pairwise.nil, fun j h1 _ _ => nd j h1, fun j _ _ h => absurd h (Nat.not_lt_zero _), fun s => (by simp), fun j => ⟨fun h => absurd h e0, fun ⟨h1, h2, _⟩ => absurd h2 (nd j h1)⟩, List.nodup_nil, List.Pairwise.nil⟩
/-- All pieces came: all is told, and nothing is held. -/
theorem st_all (h : LayC L nx) {R : List Nat} {B : Bx} {js : List Nat} (hs : St L R B js) (hR : ∀ i, i < L.N → i ∈ R) : B.held = [] ∧ js.Perm (List.range L.C) := by
  have dn : ∀ j, j < L.C → Done L R j := fun j hj i h1 h2 => hR i (by have := h.ok.ln j hj; omega)
  constructor
  · cases hh : B.held with
    | nil => rfl
    | cons p l =>
      obtain ⟨i, h1, _, h3⟩ := (hs.held p).1 (by rw [hh]; simp)
      exact absurd (dn _ (h.ok.mg i (hs.lt i h1)).1) h3
  · refine (List.perm_ext_iff_of_nodup hs.nd List.nodup_range).2 fun j => ?_
    rw [hs.told, List.mem_range]
    refine ⟨fun h => h.1, fun hj => ⟨hj, dn j hj, ?_⟩⟩
    cases hu : L.un j with
    | true => exact .inl rfl
    | false =>
      right
      rcases Nat.lt_or_ge (L.sq j) (B.next (L.st j)) with h5 | h5
      · exact h5
      · obtain ⟨j', a1, a2, a3, a4⟩ := h.all (L.st j) (B.next (L.st j)) (by have := h.lt j hj hu; omega)
        exact absurd (dn j' a1) (hs.nxn j' a1 a2 (by rw [a3]; exact a4))
/-- Where a message is told. -/
theorem told_at {js : List Nat} (hp : js.Perm (List.range L.C)) {j : Nat} (hj : j < L.C) : ∃ k, k < js.length ∧ js[k]? = some j := by
  have := hp.mem_iff.2 (List.mem_range.2 hj)
  obtain ⟨k, hk, e⟩ := List.mem_iff_getElem.1 this
  exact ⟨k, hk, by rw [List.getElem?_eq_getElem hk, e]⟩
/-- The ordered ones of a stream are told in their order. -/
theorem told_ord (h : LayC L nx) {js : List Nat} (ho : js.Pairwise fun x y => L.un x = false → L.un y = false → L.st x = L.st y → L.sq x < L.sq y) {j j' k k' : Nat} (hlt : j < j') (hj' : j' < L.C) (u : L.un j = false) (u' : L.un j' = false) (e : L.st j = L.st j') (hk : js[k]? = some j) (hk' : js[k']? = some j') : k < k' := by
  have hm := h.mono j j' hlt hj' u u' e
  rcases Nat.lt_trichotomy k k' with h1 | h1 | h1
  · exact h1
  · subst h1; rw [hk] at hk'; injection hk' with hk'; omega
  · obtain ⟨l1, e1⟩ := List.getElem?_eq_some_iff.1 hk
    obtain ⟨l2, e2⟩ := List.getElem?_eq_some_iff.1 hk'
    have := List.pairwise_iff_getElem.1 ho k' k l2 l1 h1
    rw [e1, e2] at this
    have := this u' u e.symm
    omega
end
end Fg
end Go.Proofs.Ytgcabidhpnaoiaa
