import Derived.Test.YtgcabidhpnaoiaaFgM
namespace Go.Proofs.Ytgcabidhpnaoiaa
set_option linter.unusedVariables false
/-! Messages in pieces, which come in whichever order: each message is told once, whole, the ordered ones of a stream in their order. -/
namespace Fg
/-- How messages lie in pieces. -/
structure Lay where
  N : Nat
  C : Nat
  F : Nat
  pc : Nat → Pc
  mg : Nat → Nat
  a : Nat → Nat
  ln : Nat → Nat
  st : Nat → Nat
  sq : Nat → Nat
  un : Nat → Bool
  bs : Nat → List Int
structure Lay.Ok (L : Lay) : Prop where
  n300 : L.N ≤ 300
  fb : L.F < 4294967296
  tsn : ∀ i, i < L.N → (L.pc i).tsn = add L.F i
  form : ∀ i, i < L.N → Form (L.pc i)
  mg : ∀ i, i < L.N → L.mg i < L.C ∧ L.a (L.mg i) ≤ i ∧ i < L.a (L.mg i) + L.ln (L.mg i)
  ln : ∀ j, j < L.C → 0 < L.ln j ∧ L.a j + L.ln j ≤ L.N
  in_ : ∀ j, j < L.C → ∀ i, L.a j ≤ i → i < L.a j + L.ln j → L.mg i = j
  lab : ∀ i, i < L.N → (L.pc i).st = L.st (L.mg i) ∧ (L.pc i).sq = L.sq (L.mg i) ∧ (L.pc i).un = L.un (L.mg i)
  bg : ∀ i, i < L.N → ((L.pc i).bg = true ↔ i = L.a (L.mg i))
  en : ∀ i, i < L.N → ((L.pc i).en = true ↔ i + 1 = L.a (L.mg i) + L.ln (L.mg i))
  bytes : ∀ j, j < L.C → ((List.range (L.ln j)).flatMap fun k => (L.pc (L.a j + k)).bs) = L.bs j
  key : ∀ j j', j < L.C → j' < L.C → L.un j = false → L.un j' = false → L.st j = L.st j' → L.sq j = L.sq j' → j = j'
  small : ∀ j, j < L.C → L.sq j < 60000
/-- All pieces of message j came. -/
def Done (L : Lay) (R : List Nat) (j : Nat) : Prop := ∀ i, L.a j ≤ i → i < L.a j + L.ln j → i ∈ R
/-- Where the box stands when the pieces R came, and the messages js were told. -/
structure St (L : Lay) (R : List Nat) (B : Bx) (js : List Nat) : Prop where
  lt : ∀ i ∈ R, i < L.N
  held : ∀ p, p ∈ B.held ↔ ∃ i ∈ R, p = L.pc i ∧ ¬ Done L R (L.mg i)
  hap : Apart B.held
  wait : ∀ x, x ∈ B.wait ↔ ∃ j, j < L.C ∧ L.un j = false ∧ Done L R j ∧ B.next (L.st j) ≤ L.sq j ∧ x = (L.st j, L.sq j, L.bs j)
  wap : KApart B.wait
  nxn : ∀ j, j < L.C → L.un j = false → L.sq j = B.next (L.st j) → ¬ Done L R j
  nxd : ∀ j, j < L.C → L.un j = false → L.sq j < B.next (L.st j) → Done L R j
  nlt : ∀ s, B.next s < 60001
  told : ∀ j, j ∈ js ↔ j < L.C ∧ Done L R j ∧ (L.un j = true ∨ L.sq j < B.next (L.st j))
  nd : js.Nodup
  ord : js.Pairwise fun x y => L.un x = false → L.un y = false → L.st x = L.st y → L.sq x < L.sq y
/-- A message as it is told. -/
def tell (L : Lay) (j : Nat) : Nat × List Int := (L.st j, L.bs j)
theorem add_inj {F i j : Nat} (hi : i < 1000) (hj : j < 1000) (h : add F i = add F j) : i = j := by unfold add at h; omega
section
variable {L : Lay} (hL : L.Ok) {R : List Nat} {i : Nat}
theorem done_mono {j : Nat} (h : Done L R j) : Done L (i :: R) j := fun k h1 h2 => List.mem_cons_of_mem _ (h k h1 h2)
include hL
theorem done_cons {j : Nat} (hj : j < L.C) (hi : i < L.N) (hne : j ≠ L.mg i) : Done L (i :: R) j ↔ Done L R j := by
  refine ⟨fun h k h1 h2 => ?_, done_mono⟩
  rcases List.mem_cons.1 (h k h1 h2) with e | h3
  · subst e; exact absurd (hL.in_ j hj k h1 h2).symm hne
  · exact h3
theorem not_done (hi : i < L.N) (hR : i ∉ R) : ¬ Done L R (L.mg i) := fun h => hR (h i (hL.mg i hi).2.1 (hL.mg i hi).2.2)
theorem pc_inj {j : Nat} (hi : i < L.N) (hj : j < L.N) (h : (L.pc i).tsn = (L.pc j).tsn) : i = j := by
  rw [hL.tsn i hi, hL.tsn j hj] at h
  have := hL.n300
  exact add_inj (by omega) (by omega) h
/-- The pieces of a message that all came are one. -/
theorem whole_of {H : List Pc} {j : Nat} (hj : j < L.C) (hH : ∀ k, L.a j ≤ k → k < L.a j + L.ln j → L.pc k ∈ H) : Whole H (add L.F (L.a j)) (L.ln j) := by
  obtain ⟨h0, h1⟩ := hL.ln j hj
  have h300 := hL.n300
  refine ⟨h0, by omega, by unfold add; omega, L.pc (L.a j), hH _ (Nat.le_refl _) (by omega), hL.tsn _ (by omega), fun k hk => ⟨L.pc (L.a j + k), hH _ (by omega) (by omega), ?_⟩⟩
  have e0 := hL.in_ j hj (L.a j) (Nat.le_refl _) (by omega)
  have ek := hL.in_ j hj (L.a j + k) (by omega) (by omega)
  have l0 := hL.lab (L.a j) (by omega)
  have lk := hL.lab (L.a j + k) (by omega)
  have hb := hL.bg (L.a j + k) (by omega)
  have he := hL.en (L.a j + k) (by omega)
  rw [e0] at l0
  rw [ek] at lk hb he
  refine ⟨by rw [hL.tsn _ (by omega)]; unfold add; omega, by rw [lk.1, l0.1], by rw [lk.2.1, l0.2.1], by rw [lk.2.2, l0.2.2], by rw [hb]; omega, by rw [he]; omega⟩
/-- A message that piece i is of, among pieces that came, is its own, and all of it came. -/
theorem mine_of {H : List Pc} {t n : Nat} (hi : i < L.N) (hH : ∀ p ∈ H, ∃ k, k < L.N ∧ p = L.pc k) (hm : Mine H (L.pc i).tsn t n) :
    t = add L.F (L.a (L.mg i)) ∧ n = L.ln (L.mg i) ∧ ∀ k, L.a (L.mg i) ≤ k → k < L.a (L.mg i) + L.ln (L.mg i) → L.pc k ∈ H := by
  obtain ⟨⟨h1, h2, h3, p, hp, h4, h5⟩, h6⟩ := hm
  have h300 := hL.n300
  have hti := hL.tsn i hi
  obtain ⟨hmC, ha1, ha2⟩ := hL.mg i hi
  -- where the pieces of the message lie
  have loc : ∀ k, k < n → ∃ m, m < L.N ∧ m + off t (L.pc i).tsn = i + k ∧ (L.pc m ∈ H ∧ add L.F m = add t k) ∧ (L.pc m).st = p.st ∧ (L.pc m).sq = p.sq ∧ (L.pc m).un = p.un ∧ ((L.pc m).bg = true ↔ k = 0) ∧ ((L.pc m).en = true ↔ k + 1 = n) := fun k hk => by
    obtain ⟨q, hq, q1, q2⟩ := h5 k hk
    obtain ⟨m, hm, rfl⟩ := hH q hq
    rw [hL.tsn m hm] at q1
    refine ⟨m, hm, ?_, ⟨hq, q1⟩, q2⟩
    rw [hti]
    rw [hti] at h6
    unfold add off at *
    omega
  generalize off t (L.pc i).tsn = d at h6 loc
  -- the first one begins
  obtain ⟨m0, b1, b2, _, _, _, _, b3, _⟩ := loc 0 h1
  have hb0 := (hL.bg m0 b1).1 (b3.2 rfl)
  obtain ⟨mC0, c1, c2⟩ := hL.mg m0 b1
  -- no other one does up to i, so the first one is of i's message
  have hsame : ∀ k, k < n → L.mg (m0 + k) = L.mg m0 ∧ m0 + k < L.N := fun k => by
    induction k with
    | zero => intro _; exact ⟨rfl, by omega⟩
    | succ k ih =>
      intro hk
      obtain ⟨e1, e2⟩ := ih (by omega)
      obtain ⟨m, f1, f2, _, _, _, _, f3, _⟩ := loc (k + 1) hk
      obtain ⟨m', g1, g2, _, _, _, _, _, g4⟩ := loc k (by omega)
      have em : m = m0 + (k + 1) := by omega
      have em' : m' = m0 + k := by omega
      subst em; subst em'
      refine ⟨?_, f1⟩
      -- the one ahead does not end
      have hen : ¬ ((L.pc (m0 + k)).en = true) := fun h => by have := g4.1 h; omega
      rw [hL.en _ e2, e1] at hen
      obtain ⟨_, h7, h8⟩ := hL.mg (m0 + k) e2
      rw [e1] at h7 h8
      exact hL.in_ (L.mg m0) mC0 (m0 + (k + 1)) (by omega) (by omega)
  have hi0 : L.mg i = L.mg m0 := by
    have := (hsame d h6).1
    rwa [show m0 + d = i by omega] at this
  -- the last one ends
  obtain ⟨ml, z1, z2, _, _, _, _, _, z4⟩ := loc (n - 1) (by omega)
  have eml : ml = m0 + (n - 1) := by omega
  subst eml
  have hel := (hL.en _ z1).1 (z4.2 (by omega))
  rw [(hsame (n - 1) (by omega)).1] at hel
  rw [hi0]
  refine ⟨?_, by omega, fun k hk1 hk2 => ?_⟩
  · obtain ⟨m, g1, g2, g3, _⟩ := loc 0 h1
    have e : m = m0 := by omega
    rw [← hb0, ← e, g3.2]
    unfold add
    omega
  · obtain ⟨m, g1, g2, g3, _⟩ := loc (k - m0) (by omega)
    have e : m = k := by omega
    rw [← e]; exact g3.1
/-- What waits, by its numbers. -/
def WIs (L : Lay) (R : List Nat) (nx : Nat → Nat) (W : List Lt) : Prop := ∀ x, x ∈ W ↔ ∃ j, j < L.C ∧ L.un j = false ∧ Done L R j ∧ nx (L.st j) ≤ L.sq j ∧ x = (L.st j, L.sq j, L.bs j)
/-- What Turns tells. -/
theorem turns_lay {s : Nat} {W W' : List Lt} {nx nx' : Nat → Nat} {ms : List (Nat × List Int)} (h : Turns s W nx ms W' nx') (hW : WIs L R nx W) (hd : ∀ j, j < L.C → L.un j = false → L.st j = s → L.sq j < nx s → Done L R j) (hn : nx s < 60001) :
    ∃ js2 : List Nat, ms = js2.map (tell L) ∧ (∀ j, j ∈ js2 ↔ j < L.C ∧ L.un j = false ∧ L.st j = s ∧ Done L R j ∧ nx s ≤ L.sq j ∧ L.sq j < nx' s) ∧ js2.Nodup ∧ js2.Pairwise (fun x y => L.sq x < L.sq y) ∧ WIs L R nx' W' ∧
      (∀ k, k ≠ s → nx' k = nx k) ∧ nx s ≤ nx' s ∧ nx' s < 60001 ∧ (∀ j, j < L.C → L.un j = false → L.st j = s → L.sq j < nx' s → Done L R j) ∧ (∀ j, j < L.C → L.un j = false → L.st j = s → L.sq j = nx' s → ¬ Done L R j) := by
  induction h with
  | stop h hw =>
    refine ⟨[], rfl, fun j => by simp, List.nodup_nil, List.Pairwise.nil, fun x => by rw [hw.mem_iff]; exact hW x, fun _ _ => rfl, Nat.le_refl _, hn, hd, fun j h1 h2 h3 h4 h5 => ?_⟩
    exact h _ ((hW _).2 ⟨j, h1, h2, h5, by rw [h3, h4]; exact Nat.le_refl _, rfl⟩) ⟨h3, h4⟩
  | go x hx h1 h2 h ih =>
    rename_i W0 W0' nx0 nx0' ms0
    obtain ⟨j0, a1, a2, a3, a4, rfl⟩ := (hW x).1 hx
    simp only at h1 h2
    have hsm := hL.small j0 a1
    have hup : upd nx0 s s = nx0 s + 1 := by unfold upd; rw [if_pos rfl]; omega
    have hup2 : ∀ k, k ≠ s → upd nx0 s k = nx0 k := fun k hk => by unfold upd; rw [if_neg hk]
    obtain ⟨js2, b1, b2, b3, b4, b5, b6, b7, b8, b9, b10⟩ := ih (fun y => by
      rw [List.mem_filter, hW]
      constructor
      · rintro ⟨⟨j, c1, c2, c3, c4, rfl⟩, c5⟩
        refine ⟨j, c1, c2, c3, ?_, rfl⟩
        by_cases e : L.st j = s
        · rw [e, hup]
          rw [e] at c4
          simp [e] at c5
          omega
        · rw [hup2 _ e]; exact c4
      · rintro ⟨j, c1, c2, c3, c4, rfl⟩
        by_cases e : L.st j = s
        · rw [e, hup] at c4
          refine ⟨⟨j, c1, c2, c3, by rw [e]; omega, rfl⟩, ?_⟩
          simp [e]; omega
        · rw [hup2 _ e] at c4
          exact ⟨⟨j, c1, c2, c3, c4, rfl⟩, by simp [e]⟩) (fun j c1 c2 c3 c4 => by
      rw [hup] at c4
      rcases Nat.lt_or_ge (L.sq j) (nx0 s) with k | k
      · exact hd j c1 c2 c3 k
      · have e : j = j0 := hL.key j j0 c1 a1 c2 a2 (c3.trans h1.symm) (by omega)
        rw [e]; exact a3) (by rw [hup]; omega)
    simp only [hup] at b2 b7
    refine ⟨j0 :: js2, by rw [b1]; simp [tell, h1], fun j => ?_, ?_, ?_, b5, fun k hk => by rw [b6 k hk, hup2 k hk], by omega, b8, b9, b10⟩
    · rw [List.mem_cons, b2]
      constructor
      · rintro (e | ⟨c1, c2, c3, c4, c5, c6⟩)
        · subst e; exact ⟨a1, a2, h1, a3, by omega, by omega⟩
        · exact ⟨c1, c2, c3, c4, by omega, c6⟩
      · rintro ⟨c1, c2, c3, c4, c5, c6⟩
        by_cases e : L.sq j = nx0 s
        · exact .inl (hL.key j j0 c1 a1 c2 a2 (c3.trans h1.symm) (by omega))
        · exact .inr ⟨c1, c2, c3, c4, by omega, c6⟩
    · rw [List.nodup_cons]
      exact ⟨fun hm => by have := (b2 j0).1 hm; omega, b3⟩
    · rw [List.pairwise_cons]
      exact ⟨fun y hy => by have := (b2 y).1 hy; omega, b4⟩
theorem held_len {H : List Pc} (ha : Apart H) (hH : ∀ p ∈ H, ∃ k, k < L.N ∧ p = L.pc k) : H.length ≤ L.N := by
  have hfb := hL.fb
  have h300 := hL.n300
  have h1 : (H.map fun p => off L.F p.tsn + 1).length ≤ L.N := Ts.nodup_le L.N (C := 0) (by
    show List.Pairwise (· ≠ ·) _
    rw [List.pairwise_map]
    refine ha.imp_of_mem fun {p q} hp hq hne e => hne ?_
    obtain ⟨i, hi, rfl⟩ := hH p hp
    obtain ⟨j, hj, rfl⟩ := hH q hq
    rw [hL.tsn i hi, hL.tsn j hj] at e ⊢
    unfold add off at *
    omega) fun x hx => by
    obtain ⟨p, hp, rfl⟩ := List.mem_map.1 hx
    obtain ⟨i, hi, rfl⟩ := hH p hp
    rw [hL.tsn i hi]
    unfold add off
    omega
  simpa using h1
theorem bytes_of {H : List Pc} (ha : Apart H) {j : Nat} (hj : j < L.C) (hH : ∀ k, L.a j ≤ k → k < L.a j + L.ln j → L.pc k ∈ H) : bytesOf H (add L.F (L.a j)) (L.ln j) = L.bs j := by
  obtain ⟨h0, h1⟩ := hL.ln j hj
  have h300 := hL.n300
  rw [← hL.bytes j hj]
  unfold bytesOf
  rw [List.flatMap_def, List.flatMap_def]
  congr 1
  refine List.map_congr_left fun k hk => ?_
  have hk := List.mem_range.1 hk
  have hm := hH (L.a j + k) (by omega) (by omega)
  have e : add (add L.F (L.a j)) k = (L.pc (L.a j + k)).tsn := by rw [hL.tsn _ (by omega)]; unfold add; omega
  rw [e, find_apart ha hm]
  rfl
theorem off_in {j k : Nat} (hj : j < L.C) (hk : k < L.N) : off (add L.F (L.a j)) (L.pc k).tsn < L.ln j ↔ L.mg k = j := by
  obtain ⟨h0, h1⟩ := hL.ln j hj
  have h300 := hL.n300
  rw [hL.tsn k hk]
  constructor
  · intro h
    refine hL.in_ j hj k ?_ ?_
    all_goals unfold add off at h; omega
  · intro h
    obtain ⟨_, h2, h3⟩ := hL.mg k hk
    rw [h] at h2 h3
    unfold add off
    omega
/-- One piece more. -/
theorem step {B B' : Bx} {js : List Nat} {r : Int} {ms : List (Nat × List Int)} (h : St L R B js) (hi : i < L.N) (hR : i ∉ R) (hp : PutR B (L.pc i) r ms B') : r = 0 ∧ ∃ js2, ms = js2.map (tell L) ∧ St L (i :: R) B' (js ++ js2) := by
  have h300 := hL.n300
  have hlt : ∀ k ∈ i :: R, k < L.N := fun k hk => by
    rcases List.mem_cons.1 hk with e | hk
    · omega
    · exact h.lt k hk
  have hno : ∀ q ∈ B.held, q.tsn ≠ (L.pc i).tsn := fun q hq e => by
    obtain ⟨k, hk, rfl, _⟩ := (h.held q).1 hq
    have := pc_inj hL (h.lt k hk) hi e
    rw [this] at hk
    exact hR hk
  have hHB : ∀ p ∈ B.held, ∃ k, k < L.N ∧ p = L.pc k := fun p hp => by
    obtain ⟨k, hk, e, _⟩ := (h.held p).1 hp
    exact ⟨k, h.lt k hk, e⟩
  have hH : ∀ p ∈ L.pc i :: B.held, ∃ k, k < L.N ∧ p = L.pc k := fun p hp => by
    rcases List.mem_cons.1 hp with e | hp
    · exact ⟨i, hi, e⟩
    · exact hHB p hp
  have hlen := held_len hL h.hap hHB
  have hap := apart_cons h.hap hno
  obtain ⟨hmC, hm1, hm2⟩ := hL.mg i hi
  have hnd := not_done hL hi hR
  -- which pieces of i's message are at hand
  have hmem : ∀ k, k < L.N → L.mg k = L.mg i → (L.pc k ∈ L.pc i :: B.held ↔ k ∈ i :: R) := fun k hk e => by
    rw [List.mem_cons, List.mem_cons]
    constructor
    · rintro (e2 | hq)
      · exact .inl (pc_inj hL hk hi (by rw [e2]))
      · obtain ⟨k', hk', e2, _⟩ := (h.held _).1 hq
        have := pc_inj hL hk (h.lt k' hk') (by rw [e2])
        exact .inr (this ▸ hk')
    · rintro (e2 | hk')
      · exact .inl (by rw [e2])
      · exact .inr ((h.held _).2 ⟨k, hk', rfl, by rw [e]; exact hnd⟩)
  have hdn : ∀ j, j < L.C → j ≠ L.mg i → (Done L (i :: R) j ↔ Done L R j) := fun j hj hne => done_cons hL hj hi hne
  rcases hp with ⟨f, _⟩ | ⟨_, ⟨q, hq, e⟩, _⟩ | ⟨_, _, f, _⟩ | ⟨_, _, _, rfl, hp⟩
  · exact absurd (hL.form i hi) f
  · exact absurd e (hno q hq)
  · omega
  · refine ⟨rfl, ?_⟩
    rcases hp with ⟨hnm, rfl, p1, p2, p3⟩ | ⟨t, n, hm, p1, hp⟩
    · -- its message is not whole
      have hnd2 : ¬ Done L (i :: R) (L.mg i) := fun hd => by
        have hall : ∀ k, L.a (L.mg i) ≤ k → k < L.a (L.mg i) + L.ln (L.mg i) → L.pc k ∈ L.pc i :: B.held := fun k h1 h2 =>
          (hmem k (hlt k (hd k h1 h2)) (hL.in_ _ hmC k h1 h2)).2 (hd k h1 h2)
        exact hnm _ _ ⟨whole_of hL hmC hall, (off_in hL hmC hi).2 rfl⟩
      have hdd : ∀ j, j < L.C → (Done L (i :: R) j ↔ Done L R j) := fun j hj => by
        by_cases e : j = L.mg i
        · subst e; exact ⟨fun h => absurd h hnd2, fun h => absurd h hnd⟩
        · exact hdn j hj e
      refine ⟨[], rfl, ?_⟩
      rw [List.append_nil]
      refine ⟨hlt, fun q => ?_, hap.perm p1.symm, fun x => ?_, by rw [p2]; exact h.wap, fun j h1 h2 h3 h4 => ?_, fun j h1 h2 h3 => ?_, by rw [p3]; exact h.nlt, fun j => ?_, h.nd, h.ord⟩
      · rw [p1.mem_iff, List.mem_cons, h.held]
        constructor
        · rintro (e | ⟨k, h1, h2, h3⟩)
          · exact ⟨i, List.mem_cons_self .., e, hnd2⟩
          · exact ⟨k, List.mem_cons_of_mem _ h1, h2, fun hd => h3 ((hdd _ (hL.mg k (h.lt k h1)).1).1 hd)⟩
        · rintro ⟨k, h1, h2, h3⟩
          rcases List.mem_cons.1 h1 with e | h1
          · subst e; exact .inl h2
          · exact .inr ⟨k, h1, h2, fun hd => h3 (done_mono hd)⟩
      · rw [p2, p3, h.wait]
        constructor
        · rintro ⟨j, h1, h2, h3, h4⟩; exact ⟨j, h1, h2, (hdd j h1).2 h3, h4⟩
        · rintro ⟨j, h1, h2, h3, h4⟩; exact ⟨j, h1, h2, (hdd j h1).1 h3, h4⟩
      · rw [p3] at h3; exact h.nxn j h1 h2 h3 ((hdd j h1).1 h4)
      · rw [p3] at h3; exact (hdd j h1).2 (h.nxd j h1 h2 h3)
      · rw [p3, h.told]
        constructor
        · rintro ⟨h1, h2, h3⟩; exact ⟨h1, (hdd j h1).2 h2, h3⟩
        · rintro ⟨h1, h2, h3⟩; exact ⟨h1, (hdd j h1).1 h2, h3⟩
    · -- its message is whole
      obtain ⟨rfl, rfl, hall⟩ := mine_of hL hi hH hm
      have hd : Done L (i :: R) (L.mg i) := fun k h1 h2 => by
        have hk : k < L.N := by have := (hL.ln _ hmC).2; omega
        exact (hmem k hk (hL.in_ _ hmC k h1 h2)).1 (hall k h1 h2)
      have hby := bytes_of hL hap hmC hall
      rw [hby] at hp
      obtain ⟨l1, l2, l3⟩ := hL.lab i hi
      have hheld : ∀ q, q ∈ B'.held ↔ ∃ k ∈ i :: R, q = L.pc k ∧ ¬ Done L (i :: R) (L.mg k) := fun q => by
        rw [p1.mem_iff]
        unfold rest
        rw [List.mem_filter]
        constructor
        · rintro ⟨h1, h2⟩
          obtain ⟨k, hk, rfl⟩ := hH q h1
          have hne : L.mg k ≠ L.mg i := fun e => by
            have := (off_in hL hmC hk).2 e
            simp [this] at h2
          rcases List.mem_cons.1 h1 with e | h1
          · exact absurd (by rw [pc_inj hL hk hi (by rw [e])]) hne
          · obtain ⟨k', h3, h4, h5⟩ := (h.held _).1 h1
            have := pc_inj hL hk (h.lt k' h3) (by rw [h4])
            subst this
            exact ⟨k, List.mem_cons_of_mem _ h3, rfl, fun hd2 => h5 ((hdn _ (hL.mg k hk).1 hne).1 hd2)⟩
        · rintro ⟨k, h1, rfl, h3⟩
          have hk := hlt k h1
          have hne : L.mg k ≠ L.mg i := fun e => h3 (by rw [e]; exact hd)
          rcases List.mem_cons.1 h1 with e | h1
          · exact absurd (by rw [e]) hne
          · refine ⟨List.mem_cons_of_mem _ ((h.held _).2 ⟨k, h1, rfl, fun hd2 => h3 (done_mono hd2)⟩), ?_⟩
            have : ¬ off (add L.F (L.a (L.mg i))) (L.pc k).tsn < L.ln (L.mg i) := fun hh => hne ((off_in hL hmC hk).1 hh)
            simp [this]
      have hap2 : Apart B'.held := Apart.perm (List.Pairwise.filter _ hap) p1.symm
      rcases hp with ⟨u1, rfl, p2, p3⟩ | ⟨u1, hT⟩
      · rw [l3] at u1
        have hju : ∀ j, j < L.C → L.un j = false → (Done L (i :: R) j ↔ Done L R j) := fun j hj hu => hdn j hj (fun e => by rw [e, u1] at hu; cases hu)
        refine ⟨[L.mg i], by simp [tell, l1], hlt, hheld, hap2, fun x => ?_, by rw [p2]; exact h.wap, fun j h1 h2 h3 h4 => ?_, fun j h1 h2 h3 => ?_, by rw [p3]; exact h.nlt, fun j => ?_, ?_, ?_⟩
        · rw [p2, p3, h.wait]
          constructor
          · rintro ⟨j, h1, h2, h3, h4⟩; exact ⟨j, h1, h2, done_mono h3, h4⟩
          · rintro ⟨j, h1, h2, h3, h4⟩; exact ⟨j, h1, h2, (hju j h1 h2).1 h3, h4⟩
        · rw [p3] at h3; exact h.nxn j h1 h2 h3 ((hju j h1 h2).1 h4)
        · rw [p3] at h3; exact done_mono (h.nxd j h1 h2 h3)
        · rw [List.mem_append, List.mem_singleton, h.told, p3]
          constructor
          · rintro (⟨h1, h2, h3⟩ | e)
            · exact ⟨h1, done_mono h2, h3⟩
            · subst e; exact ⟨hmC, hd, .inl u1⟩
          · rintro ⟨h1, h2, h3⟩
            by_cases e : j = L.mg i
            · exact .inr e
            · exact .inl ⟨h1, (hdn j h1 e).1 h2, h3⟩
        · rw [List.nodup_append]
          exact ⟨h.nd, by simp, fun x hx y hy e => by
            simp at hy
            rw [e, hy] at hx
            exact hnd ((h.told _).1 hx).2.1⟩
        · rw [List.pairwise_append]
          exact ⟨h.ord, by simp, fun x hx y hy _ hu => by simp at hy; rw [hy, u1] at hu; cases hu⟩
      · rw [l3] at u1
        rw [l1, l2] at hT
        have hjn : ¬ L.sq (L.mg i) < B.next (L.st (L.mg i)) := fun hh => hnd (h.nxd _ hmC u1 hh)
        have hany : (B.wait.any fun y => decide (y.1 = (L.st (L.mg i), L.sq (L.mg i), L.bs (L.mg i)).1) && decide (y.2.1 = (L.st (L.mg i), L.sq (L.mg i), L.bs (L.mg i)).2.1)) = false := by
          rw [List.any_eq_false]
          intro x hx hh
          obtain ⟨j, h1, h2, h3, h4, rfl⟩ := (h.wait x).1 hx
          simp at hh
          have e : j = L.mg i := hL.key j _ h1 hmC h2 u1 hh.1 hh.2
          rw [e] at h3
          exact hnd h3
        have hadd : addW B.wait (L.st (L.mg i), L.sq (L.mg i), L.bs (L.mg i)) = (L.st (L.mg i), L.sq (L.mg i), L.bs (L.mg i)) :: B.wait := by
          unfold addW; rw [hany]; rfl
        rw [hadd] at hT
        have hW : WIs L (i :: R) B.next ((L.st (L.mg i), L.sq (L.mg i), L.bs (L.mg i)) :: B.wait) := fun x => by
          rw [List.mem_cons, h.wait]
          constructor
          · rintro (e | ⟨j, h1, h2, h3, h4⟩)
            · exact ⟨L.mg i, hmC, u1, hd, by omega, e⟩
            · exact ⟨j, h1, h2, done_mono h3, h4⟩
          · rintro ⟨j, h1, h2, h3, h4, h5⟩
            by_cases e : j = L.mg i
            · rw [e] at h5; exact .inl h5
            · exact .inr ⟨j, h1, h2, (hdn j h1 e).1 h3, h4, h5⟩
        have hkp : KApart ((L.st (L.mg i), L.sq (L.mg i), L.bs (L.mg i)) :: B.wait) := by
          have := addW_apart h.wap (L.st (L.mg i), L.sq (L.mg i), L.bs (L.mg i))
          rwa [hadd] at this
        obtain ⟨js2, t1, t2, t3, t4, t5, t6, t7, t8, t9, t10⟩ := turns_lay hL hT hW (fun j h1 h2 h3 h4 => done_mono (h.nxd j h1 h2 (by rw [h3]; exact h4))) (h.nlt _)
        have hge : ∀ k, B.next k ≤ B'.next k := fun k => by
          by_cases e : k = L.st (L.mg i)
          · rw [e]; exact t7
          · rw [t6 k e]; exact Nat.le_refl _
        have hne : ∀ j, L.st j ≠ L.st (L.mg i) → j ≠ L.mg i := fun j h1 e => h1 (by rw [e])
        refine ⟨js2, t1, hlt, hheld, hap2, t5, hT.apart hkp, fun j h1 h2 h3 => ?_, fun j h1 h2 h3 => ?_, fun k => ?_, fun j => ?_, ?_, ?_⟩
        · by_cases e : L.st j = L.st (L.mg i)
          · rw [e] at h3; exact t10 j h1 h2 e h3
          · rw [t6 _ e] at h3
            exact fun hd2 => h.nxn j h1 h2 h3 ((hdn j h1 (hne j e)).1 hd2)
        · by_cases e : L.st j = L.st (L.mg i)
          · rw [e] at h3; exact t9 j h1 h2 e h3
          · rw [t6 _ e] at h3
            exact done_mono (h.nxd j h1 h2 h3)
        · by_cases e : k = L.st (L.mg i)
          · rw [e]; exact t8
          · rw [t6 k e]; exact h.nlt k
        · rw [List.mem_append, h.told, t2]
          constructor
          · rintro (⟨h1, h2, h3⟩ | ⟨h1, h2, h3, h4, h5, h6⟩)
            · refine ⟨h1, done_mono h2, ?_⟩
              rcases h3 with h3 | h3
              · exact .inl h3
              · exact .inr (Nat.lt_of_lt_of_le h3 (hge _))
            · exact ⟨h1, h4, .inr (by rw [h3]; exact h6)⟩
          · rintro ⟨h1, h2, h3⟩
            rcases h3 with h3 | h3
            · exact .inl ⟨h1, (hdn j h1 (fun e => by rw [e, u1] at h3; cases h3)).1 h2, .inl h3⟩
            · cases hu : L.un j with
              | true => exact .inl ⟨h1, (hdn j h1 (fun e => by rw [e, u1] at hu; cases hu)).1 h2, .inl rfl⟩
              | false =>
                by_cases e : L.st j = L.st (L.mg i)
                · rcases Nat.lt_or_ge (L.sq j) (B.next (L.st j)) with hlo | hhi
                  · exact .inl ⟨h1, h.nxd j h1 hu hlo, .inr hlo⟩
                  · exact .inr ⟨h1, rfl, e, h2, by rw [← e]; exact hhi, by rw [← e]; exact h3⟩
                · rw [t6 _ e] at h3
                  exact .inl ⟨h1, (hdn j h1 (hne j e)).1 h2, .inr h3⟩
        · rw [List.nodup_append]
          refine ⟨h.nd, t3, fun x hx y hy e => ?_⟩
          subst e
          have h1 := (h.told x).1 hx
          have h2 := (t2 x).1 hy
          rcases h1.2.2 with h3 | h3
          · rw [h2.2.1] at h3; cases h3
          · rw [h2.2.2.1] at h3; omega
        · rw [List.pairwise_append]
          refine ⟨h.ord, t4.imp fun {x y} hxy _ _ _ => hxy, fun x hx y hy hux huy hst => ?_⟩
          have h1 := (h.told x).1 hx
          have h2 := (t2 y).1 hy
          rcases h1.2.2 with h3 | h3
          · rw [hux] at h3; cases h3
          · rw [hst, h2.2.2.1] at h3; omega
end
end Fg
end Go.Proofs.Ytgcabidhpnaoiaa
