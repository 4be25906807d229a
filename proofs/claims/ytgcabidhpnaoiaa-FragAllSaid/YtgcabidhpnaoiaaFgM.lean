namespace Go.Proofs.Ytgcabidhpnaoiaa
set_option linter.unusedVariables false
/-! The mathematics of a box: pieces that are held, messages that wait, the next number of each stream. Of no program. -/
namespace Fg
structure Pc where
  tsn : Nat
  st : Nat
  sq : Nat
  un : Bool
  bg : Bool
  en : Bool
  bs : List Int
/-- TSN t, and i beyond. -/
def add (t i : Nat) : Nat := (t + i) % 4294967296
/-- How far x is beyond t. -/
def off (t x : Nat) : Nat := (x + 4294967296 - t) % 4294967296
theorem add_off {t x : Nat} (ht : t < 4294967296) (hx : x < 4294967296) : add t (off t x) = x := by unfold add off; omega
/-- A message that waits: its stream, its number, its bytes. -/
abbrev Lt := Nat × Nat × List Int
structure Bx where
  held : List Pc
  wait : List Lt
  next : Nat → Nat
/-- Whether a piece may be. -/
def Form (p : Pc) : Prop := 0 < p.bs.length ∧ p.bs.length ≤ 256 ∧ p.st < 8
/-- From t on, n pieces of H are a message. -/
structure Whole (H : List Pc) (t n : Nat) : Prop where
  pos : 0 < n
  le : n ≤ 512
  lt : t < 4294967296
  all : ∃ p ∈ H, p.tsn = t ∧ ∀ i, i < n → ∃ q ∈ H, q.tsn = add t i ∧ q.st = p.st ∧ q.sq = p.sq ∧ q.un = p.un ∧ (q.bg = true ↔ i = 0) ∧ (q.en = true ↔ i + 1 = n)
/-- A message that TSN x is of. -/
def Mine (H : List Pc) (x t n : Nat) : Prop := Whole H t n ∧ off t x < n
/-- The bytes of n pieces. -/
def bytesOf (H : List Pc) (t n : Nat) : List Int := (List.range n).flatMap fun i => ((H.find? fun p => p.tsn == add t i).map (·.bs)).getD []
/-- Those beyond n pieces from t on. -/
def rest (H : List Pc) (t n : Nat) : List Pc := H.filter fun q => !decide (off t q.tsn < n)
def Apart (H : List Pc) : Prop := H.Pairwise fun p q => p.tsn ≠ q.tsn
theorem apart_eq {H : List Pc} (h : Apart H) {p q : Pc} (hp : p ∈ H) (hq : q ∈ H) (e : p.tsn = q.tsn) : p = q := by
  obtain ⟨i, hi, rfl⟩ := List.getElem_of_mem hp
  obtain ⟨j, hj, rfl⟩ := List.getElem_of_mem hq
  rcases Nat.lt_trichotomy i j with k | k | k
  · exact absurd e ((List.pairwise_iff_getElem.1 h) i j hi hj k)
  · subst k; rfl
  · exact absurd e.symm ((List.pairwise_iff_getElem.1 h) j i hj hi k)
theorem find_apart {H : List Pc} (h : Apart H) {p : Pc} (hp : p ∈ H) : H.find? (fun q => q.tsn == p.tsn) = some p := by
  cases hf : H.find? fun q => q.tsn == p.tsn with
  | none => rw [List.find?_eq_none] at hf; exact absurd (by simp) (hf p hp)
  | some q =>
    have h1 := List.mem_of_find?_eq_some hf
    have h2 := List.find?_some hf
    simp at h2
    rw [apart_eq h h1 hp h2]
theorem Apart.perm {H H' : List Pc} (h : Apart H) (hp : H.Perm H') : Apart H' := (hp.pairwise_iff (fun {_ _} e => Ne.symm e)).1 h
theorem Whole.mono {H H' : List Pc} {t n : Nat} (h : Whole H t n) (hs : ∀ p, p ∈ H → p ∈ H') : Whole H' t n := by
  obtain ⟨h1, h2, h3, p, hp, h4, h5⟩ := h
  refine ⟨h1, h2, h3, p, hs p hp, h4, fun i hi => ?_⟩
  obtain ⟨q, hq, r⟩ := h5 i hi
  exact ⟨q, hs q hq, r⟩
/-- A TSN is of one message at most. -/
theorem Mine.uniq {H : List Pc} (ha : Apart H) {x t n t' n' : Nat} (hx : x < 4294967296) (h : Mine H x t n) (h' : Mine H x t' n') : t = t' ∧ n = n' := by
  have key : ∀ {t n t' n' : Nat}, Mine H x t n → Mine H x t' n' → off t x ≤ off t' x → t = t' := by
    intro t n t' n' h h' hle
    obtain ⟨⟨h1, h2, h3, p, hp, h4, h5⟩, h6⟩ := h
    obtain ⟨⟨g1, g2, g3, p', hp', g4, g5⟩, g6⟩ := h'
    rcases Nat.lt_or_ge (off t x) (off t' x) with hlt | hge
    · exfalso
      obtain ⟨q, hq, q1, _, _, _, q2, _⟩ := g5 (off t' x - off t x) (by omega)
      obtain ⟨r, hr, r1, _, _, _, r2, _⟩ := h5 0 h1
      have e : q = r := apart_eq ha hq hr (by rw [q1, r1]; unfold add off at *; omega)
      have := r2.2 rfl
      rw [← e, q2] at this
      omega
    · unfold off at *; omega
  have ht : t = t' := by
    rcases Nat.le_total (off t x) (off t' x) with k | k
    · exact key h h' k
    · exact (key h' h k).symm
  subst ht
  refine ⟨rfl, ?_⟩
  have key2 : ∀ {n n' : Nat}, Mine H x t n → Mine H x t n' → n ≤ n' → n = n' := by
    intro n n' h h' hle
    obtain ⟨⟨h1, h2, h3, p, hp, h4, h5⟩, h6⟩ := h
    obtain ⟨⟨g1, g2, g3, p', hp', g4, g5⟩, g6⟩ := h'
    rcases Nat.lt_or_ge n n' with hlt | hge
    · exfalso
      obtain ⟨q, hq, q1, _, _, _, _, q2⟩ := g5 (n - 1) (by omega)
      obtain ⟨r, hr, r1, _, _, _, _, r2⟩ := h5 (n - 1) (by omega)
      have e : q = r := apart_eq ha hq hr (by rw [q1, r1])
      have := r2.2 (by omega)
      rw [← e, q2] at this
      omega
    · omega
  rcases Nat.le_total n n' with k | k
  · exact key2 h h' k
  · exact (key2 h' h k).symm
/-- The turn that comes of stream s, and of those that wait behind it. -/
def upd (nx : Nat → Nat) (s : Nat) : Nat → Nat := fun k => if k = s then (nx s + 1) % 65536 else nx k
inductive Turns (s : Nat) : List Lt → (Nat → Nat) → List (Nat × List Int) → List Lt → (Nat → Nat) → Prop
  | stop {W W' : List Lt} {nx : Nat → Nat} (h : ∀ x ∈ W, ¬ (x.1 = s ∧ x.2.1 = nx s)) (hw : W'.Perm W) : Turns s W nx [] W' nx
  | go {W W' : List Lt} {nx nx' : Nat → Nat} {ms : List (Nat × List Int)} (x : Lt) (hx : x ∈ W) (h1 : x.1 = s) (h2 : x.2.1 = nx s) (h : Turns s (W.filter fun y => !(decide (y.1 = s) && decide (y.2.1 = nx s))) (upd nx s) ms W' nx') : Turns s W nx ((s, x.2.2) :: ms) W' nx'
/-- One more that waits, if none of its number does. -/
def addW (W : List Lt) (x : Lt) : List Lt := if W.any (fun y => decide (y.1 = x.1) && decide (y.2.1 = x.2.1)) then W else x :: W
/-- No two that wait with one number. -/
def KApart (W : List Lt) : Prop := W.Pairwise fun x y => ¬ (x.1 = y.1 ∧ x.2.1 = y.2.1)
theorem KApart.perm {W W' : List Lt} (h : KApart W) (hp : W.Perm W') : KApart W' := (hp.pairwise_iff (fun {_ _} e h => e ⟨h.1.symm, h.2.symm⟩)).1 h
theorem kapart_eq {W : List Lt} (h : KApart W) {x y : Lt} (hx : x ∈ W) (hy : y ∈ W) (e : x.1 = y.1 ∧ x.2.1 = y.2.1) : x = y := by
  obtain ⟨i, hi, rfl⟩ := List.getElem_of_mem hx
  obtain ⟨j, hj, rfl⟩ := List.getElem_of_mem hy
  rcases Nat.lt_trichotomy i j with k | k | k
  · exact absurd e ((List.pairwise_iff_getElem.1 h) i j hi hj k)
  · subst k; rfl
  · exact absurd ⟨e.1.symm, e.2.symm⟩ ((List.pairwise_iff_getElem.1 h) j i hj hi k)
theorem addW_apart {W : List Lt} (h : KApart W) (x : Lt) : KApart (addW W x) := by
  unfold addW
  split
  · exact h
  · rename_i hn
    refine List.pairwise_cons.2 ⟨fun y hy e => hn ?_, h⟩
    rw [List.any_eq_true]
    exact ⟨y, hy, by simp [e.1, e.2]⟩
theorem addW_perm {W W' : List Lt} (h : W.Perm W') (x : Lt) : (addW W x).Perm (addW W' x) := by
  unfold addW
  rw [h.any_eq]
  split
  · exact h
  · exact h.cons x
/-- What is told hangs on what waits alone, not on its order. -/
theorem Turns.det {s : Nat} {W W2 W' W2' : List Lt} {nx nx' nx2' : Nat → Nat} {ms ms2 : List (Nat × List Int)} (h : Turns s W nx ms W' nx') (hk : KApart W) (hp : W.Perm W2) (h2 : Turns s W2 nx ms2 W2' nx2') : ms = ms2 ∧ W'.Perm W2' ∧ nx' = nx2' := by
  induction h generalizing W2 ms2 with
  | stop h hw =>
    cases h2 with
    | stop h' hw' => exact ⟨rfl, (hw.trans hp).trans hw'.symm, rfl⟩
    | go x hx h1 h3 _ => exact absurd ⟨h1, h3⟩ (h x (hp.mem_iff.2 hx))
  | go x hx h1 h3 h ih =>
    cases h2 with
    | stop h' hw' => exact absurd ⟨h1, h3⟩ (h' x (hp.mem_iff.1 hx))
    | go y hy g1 g3 g =>
      have e : x = y := kapart_eq hk hx (hp.mem_iff.2 hy) ⟨h1.trans g1.symm, h3.trans g3.symm⟩
      subst e
      obtain ⟨q1, q2, q3⟩ := ih (hk.filter _) (hp.filter _) g
      exact ⟨by rw [q1], q2, q3⟩
theorem Turns.apart {s : Nat} {W W' : List Lt} {nx nx' : Nat → Nat} {ms : List (Nat × List Int)} (h : Turns s W nx ms W' nx') (hk : KApart W) : KApart W' := by
  induction h with
  | stop h hw => exact hk.perm hw.symm
  | go x hx h1 h3 h ih => exact ih (hk.filter _)
/-- What Put does. -/
def PutR (B : Bx) (p : Pc) (r : Int) (ms : List (Nat × List Int)) (B' : Bx) : Prop :=
  (¬ Form p ∧ r = 2 ∧ ms = [] ∧ B' = B) ∨
  (Form p ∧ (∃ q ∈ B.held, q.tsn = p.tsn) ∧ r = 9 ∧ ms = [] ∧ B' = B) ∨
  (Form p ∧ (∀ q ∈ B.held, q.tsn ≠ p.tsn) ∧ 512 ≤ B.held.length ∧ r = 10 ∧ ms = [] ∧ B' = B) ∨
  (Form p ∧ (∀ q ∈ B.held, q.tsn ≠ p.tsn) ∧ B.held.length < 512 ∧ r = 0 ∧
    ((∀ t n, ¬ Mine (p :: B.held) p.tsn t n) ∧ ms = [] ∧ B'.held.Perm (p :: B.held) ∧ B'.wait = B.wait ∧ B'.next = B.next ∨
     ∃ t n, Mine (p :: B.held) p.tsn t n ∧ B'.held.Perm (rest (p :: B.held) t n) ∧
      (p.un = true ∧ ms = [(p.st, bytesOf (p :: B.held) t n)] ∧ B'.wait = B.wait ∧ B'.next = B.next ∨
       p.un = false ∧ Turns p.st (addW B.wait (p.st, p.sq, bytesOf (p :: B.held) t n)) B.next ms B'.wait B'.next)))
/-- The same but for the order in which it is kept. -/
structure Same (A B : Bx) : Prop where
  held : A.held.Perm B.held
  wait : A.wait.Perm B.wait
  next : A.next = B.next
structure BOk (B : Bx) : Prop where
  held : Apart B.held
  wait : KApart B.wait
  lt : ∀ p ∈ B.held, p.tsn < 4294967296
theorem bytesOf_perm {H H' : List Pc} (ha : Apart H) (h : H.Perm H') {t n : Nat} (hw : Whole H t n) : bytesOf H t n = bytesOf H' t n := by
  unfold bytesOf
  obtain ⟨_, _, _, p, hp, _, h5⟩ := hw
  have e : ∀ i ∈ List.range n, ((H.find? fun p => p.tsn == add t i).map (·.bs)).getD [] = ((H'.find? fun p => p.tsn == add t i).map (·.bs)).getD [] := fun i hi => by
    obtain ⟨q, hq, q1, _⟩ := h5 i (List.mem_range.1 hi)
    rw [← q1, find_apart ha hq, find_apart (ha.perm h) (h.mem_iff.1 hq)]
  rw [List.flatMap_def, List.flatMap_def, List.map_congr_left e]
theorem Mine.perm {H H' : List Pc} (h : H.Perm H') {x t n : Nat} (hm : Mine H x t n) : Mine H' x t n := ⟨hm.1.mono fun p hp => h.mem_iff.1 hp, hm.2⟩
theorem apart_cons {p : Pc} {H : List Pc} (h : Apart H) (hn : ∀ q ∈ H, q.tsn ≠ p.tsn) : Apart (p :: H) := List.pairwise_cons.2 ⟨fun q hq e => hn q hq e.symm, h⟩
theorem PutR.ok {B B' : Bx} {p : Pc} {r : Int} {ms : List (Nat × List Int)} (h : PutR B p r ms B') (hb : BOk B) (hp : p.tsn < 4294967296) : BOk B' := by
  rcases h with ⟨_, _, _, rfl⟩ | ⟨_, _, _, _, rfl⟩ | ⟨_, _, _, _, _, rfl⟩ | ⟨_, h1, _, _, h⟩
  · exact hb
  · exact hb
  · exact hb
  · have ha := apart_cons hb.held h1
    have hlt : ∀ q ∈ p :: B.held, q.tsn < 4294967296 := fun q hq => by
      rcases List.mem_cons.1 hq with e | hq
      · rw [e]; exact hp
      · exact hb.lt q hq
    rcases h with ⟨_, _, h2, h3, _⟩ | ⟨t, n, _, h2, h⟩
    · exact ⟨ha.perm h2.symm, by rw [h3]; exact hb.wait, fun q hq => hlt q (h2.mem_iff.1 hq)⟩
    · have hl2 : ∀ q ∈ B'.held, q.tsn < 4294967296 := fun q hq => hlt q (List.mem_filter.1 (h2.mem_iff.1 hq)).1
      have ha2 : Apart B'.held := Apart.perm (List.Pairwise.filter _ ha) h2.symm
      rcases h with ⟨_, _, h3, _⟩ | ⟨_, h3⟩
      · exact ⟨ha2, by rw [h3]; exact hb.wait, hl2⟩
      · exact ⟨ha2, h3.apart (addW_apart hb.wait _), hl2⟩
/-- What Put answers, and leaves, hangs on what is kept alone, not on its order. -/
theorem PutR.det {A B A' B' : Bx} {p : Pc} {r r' : Int} {ms ms' : List (Nat × List Int)} (ha : BOk A) (hp : p.tsn < 4294967296) (hs : Same A B) (h : PutR A p r ms A') (h' : PutR B p r' ms' B') : r = r' ∧ ms = ms' ∧ Same A' B' := by
  have hmem : ∀ q, q ∈ A.held ↔ q ∈ B.held := fun q => hs.held.mem_iff
  have hlen := hs.held.length_eq
  rcases h with ⟨f1, rfl, rfl, rfl⟩ | ⟨f1, ⟨q, hq, f2⟩, rfl, rfl, rfl⟩ | ⟨f1, f2, f3, rfl, rfl, rfl⟩ | ⟨f1, f2, f3, rfl, h⟩
  · rcases h' with ⟨g1, rfl, rfl, rfl⟩ | ⟨g1, _⟩ | ⟨g1, _⟩ | ⟨g1, _⟩
    · exact ⟨rfl, rfl, hs⟩
    all_goals exact absurd g1 f1
  · rcases h' with ⟨g1, _⟩ | ⟨g1, _, rfl, rfl, rfl⟩ | ⟨g1, g2, _⟩ | ⟨g1, g2, _⟩
    · exact absurd f1 g1
    · exact ⟨rfl, rfl, hs⟩
    all_goals exact absurd f2 (g2 q ((hmem q).1 hq))
  · rcases h' with ⟨g1, _⟩ | ⟨g1, ⟨q, hq, g2⟩, _⟩ | ⟨g1, g2, g3, rfl, rfl, rfl⟩ | ⟨g1, g2, g3, _⟩
    · exact absurd f1 g1
    · exact absurd g2 (f2 q ((hmem q).2 hq))
    · exact ⟨rfl, rfl, hs⟩
    · omega
  · rcases h' with ⟨g1, _⟩ | ⟨g1, ⟨q, hq, g2⟩, _⟩ | ⟨g1, g2, g3, _⟩ | ⟨g1, g2, g3, rfl, h'⟩
    · exact absurd f1 g1
    · exact absurd g2 (f2 q ((hmem q).2 hq))
    · omega
    · have hap := apart_cons ha.held f2
      have hc : (p :: A.held).Perm (p :: B.held) := hs.held.cons p
      rcases h with ⟨m1, rfl, m2, m3, m4⟩ | ⟨t, n, m1, m2, h⟩
      · rcases h' with ⟨k1, rfl, k2, k3, k4⟩ | ⟨t, n, k1, _⟩
        · exact ⟨rfl, rfl, ⟨(m2.trans hc).trans k2.symm, by rw [m3, k3]; exact hs.wait, by rw [m4, k4]; exact hs.next⟩⟩
        · exact absurd (k1.perm hc.symm) (m1 t n)
      · rcases h' with ⟨k1, _⟩ | ⟨t', n', k1, k2, h'⟩
        · exact absurd (m1.perm hc) (k1 t n)
        · obtain ⟨rfl, rfl⟩ := Mine.uniq hap hp m1 (k1.perm hc.symm)
          have hby := bytesOf_perm hap hc m1.1
          have hr : A'.held.Perm B'.held := (m2.trans (hc.filter _)).trans k2.symm
          rcases h with ⟨u1, rfl, m3, m4⟩ | ⟨u1, m3⟩
          · rcases h' with ⟨v1, rfl, k3, k4⟩ | ⟨v1, _⟩
            · exact ⟨rfl, by rw [hby], ⟨hr, by rw [m3, k3]; exact hs.wait, by rw [m4, k4]; exact hs.next⟩⟩
            · rw [u1] at v1; cases v1
          · rcases h' with ⟨v1, _⟩ | ⟨v1, k3⟩
            · rw [u1] at v1; cases v1
            · rw [hby, hs.next] at m3
              obtain ⟨e1, e2, e3⟩ := m3.det (addW_apart ha.wait _) (addW_perm hs.wait _) k3
              exact ⟨rfl, e1, ⟨hr, e2, e3⟩⟩
end Fg
end Go.Proofs.Ytgcabidhpnaoiaa
namespace Go.Proofs.Ytgcabidhpnaoiaa
/-! The mathematics of a track: C: the last number up to which all came (not yet cut to 32 bits), A: those beyond it. -/
namespace Ts
def M : Nat := 4294967296
/-- The numbers beyond C are distinct, beyond C + 1 and not far. -/
structure Ok (C : Nat) (A : List Nat) : Prop where
  nd : A.Nodup
  lo : ∀ x ∈ A, C + 1 < x
  hi : ∀ x ∈ A, x ≤ C + 512
/-- While all that is now in order is passed: from (C, A) to (D, B). -/
structure Run (C : Nat) (A : List Nat) (D : Nat) (B : List Nat) : Prop where
  le : C ≤ D
  all : ∀ x, C < x → x ≤ D → x ∈ A
  mem : ∀ x, x ∈ B ↔ x ∈ A ∧ D < x
  nd : B.Nodup
theorem Run.start {C : Nat} {A : List Nat} (h : A.Nodup) (hlo : ∀ x ∈ A, C < x) : Run C A C A := ⟨Nat.le_refl _, fun x h1 h2 => by omega, fun x => ⟨fun hx => ⟨hx, hlo x hx⟩, fun hx => hx.1⟩, h⟩
theorem Run.step {C D : Nat} {A B : List Nat} (h : Run C A D B) (hm : D + 1 ∈ B) : Run C A (D + 1) (B.filter fun x => x != D + 1) where
  le := by have := h.le; omega
  all x h1 h2 := by
    rcases Nat.lt_or_ge D x with h3 | h3
    · have e : x = D + 1 := by omega
      rw [e]; exact ((h.mem _).1 hm).1
    · exact h.all x h1 h3
  mem x := by
    rw [List.mem_filter, h.mem, bne_iff_ne]
    constructor
    · rintro ⟨⟨h1, h2⟩, h3⟩; exact ⟨h1, by omega⟩
    · rintro ⟨h1, h2⟩; exact ⟨⟨h1, by omega⟩, by omega⟩
  nd := h.nd.filter _
theorem Run.ok {C D : Nat} {A B : List Nat} (h : Run C A D B) (hn : D + 1 ∉ B) (hi : ∀ x ∈ A, x ≤ C + 512) : Ok D B where
  nd := h.nd
  lo x hx := by
    have h1 := ((h.mem x).1 hx).2
    rcases Nat.lt_or_ge (D + 1) x with h2 | h2
    · exact h2
    · have e : x = D + 1 := by omega
      exact absurd (e ▸ hx) hn
  hi x hx := by have := hi x ((h.mem x).1 hx).1; have := h.le; omega
theorem nodup_le : ∀ (n : Nat) {A : List Nat} {C : Nat}, A.Nodup → (∀ x ∈ A, C < x ∧ x ≤ C + n) → A.length ≤ n := by
  intro n
  induction n with
  | zero =>
    intro A C _ hb
    cases A with
    | nil => simp
    | cons x l => have := hb x (by simp); omega
  | succ n ih =>
    intro A C hn hb
    have h1 := ih (A := A.erase (C + n + 1)) (C := C) (hn.erase _) fun x hx => by
      have h2 := (hn.mem_erase_iff).1 hx
      have := hb x h2.2
      omega
    have h3 := List.length_erase (a := C + n + 1) (l := A)
    split at h3 <;> omega
theorem Ok.len {C : Nat} {A : List Nat} (h : Ok C A) : A.length ≤ 511 :=
  nodup_le 511 (C := C + 1) h.nd fun x hx => ⟨h.lo x hx, by have := h.hi x hx; omega⟩
theorem mod_inj {C x y : Nat} (hx : C < x ∧ x ≤ C + 512) (hy : C < y ∧ y ≤ C + 512) (h : x % M = y % M) : x = y := by unfold M at h; omega
end Ts
end Go.Proofs.Ytgcabidhpnaoiaa
namespace Go.Proofs.Ytgcabidhpnaoiaa
set_option linter.unusedVariables false
namespace Fg
/-- So far as it was looked at, n pieces from t on may begin a message; p is the first one, x the last one. -/
structure Pre (H : List Pc) (t n : Nat) (p x : Pc) : Prop where
  pos : 0 < n
  lt : t < 4294967296
  p1 : p ∈ H
  p2 : p.tsn = t
  x1 : x ∈ H
  x2 : x.tsn = add t (n - 1)
  all : ∀ i, i < n → ∃ q ∈ H, q.tsn = add t i ∧ q.st = p.st ∧ q.sq = p.sq ∧ q.un = p.un ∧ (q.bg = true ↔ i = 0)
  en : ∀ i, i + 1 < n → ∀ q ∈ H, q.tsn = add t i → q.en = false
theorem Pre.one {H : List Pc} {t : Nat} {p : Pc} (hp : p ∈ H) (ht : t < 4294967296) (he : p.tsn = t) (hb : p.bg = true) : Pre H t 1 p p :=
  ⟨by omega, ht, hp, he, hp, by rw [he]; unfold add; omega, fun i hi => ⟨p, hp, by rw [he]; unfold add; omega, rfl, rfl, rfl, by simp [hb]; omega⟩, fun i hi => by omega⟩
theorem Pre.le {H : List Pc} {t n : Nat} {p x : Pc} (h : Pre H t n p x) (hl : H.length ≤ 1024) : n ≤ H.length := by
  rcases Nat.lt_or_ge H.length n with h1 | h1
  · exfalso
    have hf : ∀ i, i < n → ∃ k, ∃ hk : k < H.length, (H[k]).tsn = add t i := fun i hi => by
      obtain ⟨q, hq, e, _⟩ := h.all i hi
      obtain ⟨k, hk, rfl⟩ := List.getElem_of_mem hq
      exact ⟨k, hk, e⟩
    have hf2 : ∀ i, ∃ k, i < n → ∃ hk : k < H.length, (H[k]).tsn = add t i := fun i => by
      by_cases hi : i < n
      · obtain ⟨k, hk⟩ := hf i hi; exact ⟨k, fun _ => hk⟩
      · exact ⟨0, fun h => absurd h hi⟩
    obtain ⟨f, hf3⟩ := Classical.axiomOfChoice hf2
    have h2 := Ts.nodup_le H.length (A := (List.range (H.length + 1)).map fun i => f i + 1) (C := 0) (by
      show List.Pairwise (· ≠ ·) _
      rw [List.pairwise_map]
      refine (List.nodup_range (n := H.length + 1)).imp_of_mem fun {i j} hi hj hne e => hne ?_
      have hi := List.mem_range.1 hi
      have hj := List.mem_range.1 hj
      obtain ⟨k1, e1⟩ := hf3 i (by omega)
      obtain ⟨k2, e2⟩ := hf3 j (by omega)
      have e3 : f i = f j := by omega
      have e4 : add t i = add t j := by rw [← e1, ← e2]; simp only [e3]
      unfold add at e4; omega) fun y hy => by
      obtain ⟨i, hi, rfl⟩ := List.mem_map.1 hy
      have hi := List.mem_range.1 hi
      obtain ⟨k1, _⟩ := hf3 i (by omega)
      omega
    simp at h2
    omega
  · exact h1
theorem Pre.whole {H : List Pc} {t n : Nat} {p x : Pc} (h : Pre H t n p x) (ha : Apart H) (hl : H.length ≤ 512) (he : x.en = true) : Whole H t n := by
  have hle := h.le (by omega)
  refine ⟨h.pos, by omega, h.lt, p, h.p1, h.p2, fun i hi => ?_⟩
  obtain ⟨q, hq, e1, e2, e3, e4, e5⟩ := h.all i hi
  refine ⟨q, hq, e1, e2, e3, e4, e5, ?_⟩
  have hp := h.pos
  by_cases h1 : i + 1 = n
  · have : q = x := apart_eq ha hq h.x1 (by rw [e1, h.x2, ← h1]; rfl)
    rw [this, he]
    simp [h1]
  · have := h.en i (by omega) q hq e1
    rw [this]
    simp [h1]
/-- Any message from t on goes beyond what was looked at. -/
theorem Pre.more {H : List Pc} {t n m : Nat} {p x : Pc} (h : Pre H t n p x) (ha : Apart H) (he : x.en = false) (hw : Whole H t m) : ∃ q ∈ H, q.tsn = add t n ∧ q.st = p.st ∧ q.sq = p.sq ∧ q.un = p.un ∧ q.bg = false := by
  obtain ⟨m1, m2, m3, p', hp', e0, hall⟩ := hw
  have hpp : p' = p := apart_eq ha hp' h.p1 (by rw [e0, h.p2])
  subst hpp
  have hn := h.pos
  have hen : ∀ i, i < n → ∀ q ∈ H, q.tsn = add t i → q.en = false := fun i hi q hq e => by
    by_cases h1 : i + 1 = n
    · have : q = x := apart_eq ha hq h.x1 (by rw [e, h.x2, ← h1]; rfl)
      rw [this, he]
    · exact h.en i (by omega) q hq e
  rcases Nat.lt_or_ge n m with h1 | h1
  · obtain ⟨q, hq, f1, f2, f3, f4, f5, f6⟩ := hall n h1
    refine ⟨q, hq, f1, f2, f3, f4, ?_⟩
    cases hb : q.bg with
    | false => rfl
    | true => have := f5.1 hb; omega
  · obtain ⟨q, hq, f1, f2, f3, f4, f5, f6⟩ := hall (m - 1) (by omega)
    have := hen (m - 1) (by omega) q hq f1
    rw [f6.2 (by omega)] at this
    cases this
theorem Pre.step {H : List Pc} {t n : Nat} {p x q : Pc} (h : Pre H t n p x) (ha : Apart H) (he : x.en = false) (hq : q ∈ H) (h1 : q.tsn = add t n) (h2 : q.st = p.st) (h3 : q.sq = p.sq) (h4 : q.un = p.un) (h5 : q.bg = false) : Pre H t (n + 1) p q := by
  have hn := h.pos
  refine ⟨by omega, h.lt, h.p1, h.p2, hq, h1, fun i hi => ?_, fun i hi y hy e => ?_⟩
  · rcases Nat.lt_or_ge i n with k | k
    · exact h.all i k
    · obtain rfl : i = n := by omega
      exact ⟨q, hq, h1, h2, h3, h4, by rw [h5]; simp; omega⟩
  · by_cases k : i + 1 = n
    · have : y = x := apart_eq ha hy h.x1 (by rw [e, h.x2, ← k]; rfl)
      rw [this, he]
    · exact h.en i (by omega) y hy e
theorem none_at {H : List Pc} {t : Nat} (h : ∀ q ∈ H, q.tsn ≠ t) (m : Nat) : ¬ Whole H t m := fun hw => by
  obtain ⟨_, _, _, p, hp, e, _⟩ := hw
  exact h p hp e
theorem none_bg {H : List Pc} {t : Nat} {q : Pc} (ha : Apart H) (hq : q ∈ H) (h : q.tsn = t) (hb : q.bg = false) (m : Nat) : ¬ Whole H t m := fun hw => by
  obtain ⟨m1, _, m3, p, hp, e, hall⟩ := hw
  obtain ⟨y, hy, f1, _, _, _, f5, _⟩ := hall 0 m1
  have : y = q := apart_eq ha hy hq (by rw [f1, h]; unfold add; omega)
  rw [this, hb] at f5
  simp at f5
/-- What 'from' tells. -/
def FromR (H : List Pc) (t n : Nat) : Prop := Whole H t n ∨ n = 0 ∧ ∀ m, ¬ Whole H t m
end Fg
end Go.Proofs.Ytgcabidhpnaoiaa
