import Derived.Test.YtgcabidhpnaoiaaFgM3
namespace Go.Proofs.Ytgcabidhpnaoiaa
set_option linter.unusedVariables false
/-! The mathematics of ends: a piece's message, found by going to its neighbours. -/
namespace Fg
theorem run_le {H : List Pc} {f : Nat → Nat} {k : Nat} (hf : ∀ i, i ≤ k → ∃ q ∈ H, q.tsn = f i) (inj : ∀ i j, i ≤ k → j ≤ k → f i = f j → i = j) : k < H.length := by
  rcases Nat.lt_or_ge k H.length with h1 | h1
  · exact h1
  · exfalso
    have hf2 : ∀ i, ∃ m, i ≤ k → ∃ hm : m < H.length, (H[m]).tsn = f i := fun i => by
      by_cases hi : i ≤ k
      · obtain ⟨q, hq, e⟩ := hf i hi
        obtain ⟨m, hm, rfl⟩ := List.getElem_of_mem hq
        exact ⟨m, fun _ => ⟨hm, e⟩⟩
      · exact ⟨0, fun h => absurd h hi⟩
    obtain ⟨g, hg⟩ := Classical.axiomOfChoice hf2
    have h2 := Ts.nodup_le H.length (A := (List.range (H.length + 1)).map fun i => g i + 1) (C := 0) (by
      show List.Pairwise (· ≠ ·) _
      rw [List.pairwise_map]
      refine (List.nodup_range (n := H.length + 1)).imp_of_mem fun {i j} hi hj hne e => hne ?_
      have hi := List.mem_range.1 hi
      have hj := List.mem_range.1 hj
      obtain ⟨k1, e1⟩ := hg i (by omega)
      obtain ⟨k2, e2⟩ := hg j (by omega)
      have e3 : g i = g j := by omega
      exact inj i j (by omega) (by omega) (by rw [← e1, ← e2]; simp only [e3])) fun y hy => by
      obtain ⟨i, hi, rfl⟩ := List.mem_map.1 hy
      have hi := List.mem_range.1 hi
      obtain ⟨k1, _⟩ := hg i (by omega)
      omega
    simp at h2
    omega
/-- What a piece's kind is. -/
def kdOf (p : Pc) : Nat × Nat × Bool := (p.st, p.sq, p.un)
/-- So far as it was looked at ahead of t, its message goes on. -/
structure Bk (H : List Pc) (kd : Nat × Nat × Bool) (t k : Nat) : Prop where
  at_ : ∀ i, i ≤ k → ∃ q ∈ H, q.tsn = sub t i ∧ kdOf q = kd
  bg : ∀ i, i < k → ∀ q ∈ H, q.tsn = sub t i → q.bg = false
  en : ∀ i, 1 ≤ i → i ≤ k → ∀ q ∈ H, q.tsn = sub t i → q.en = false
/-- And behind it. -/
structure Fw (H : List Pc) (kd : Nat × Nat × Bool) (t k : Nat) : Prop where
  at_ : ∀ i, i ≤ k → ∃ q ∈ H, q.tsn = add t i ∧ kdOf q = kd
  en : ∀ i, i < k → ∀ q ∈ H, q.tsn = add t i → q.en = false
  bg : ∀ i, 1 ≤ i → i ≤ k → ∀ q ∈ H, q.tsn = add t i → q.bg = false
theorem sub_zero {t : Nat} (ht : t < 4294967296) : sub t 0 = t := by unfold sub; omega
theorem add_zero {t : Nat} (ht : t < 4294967296) : add t 0 = t := by unfold add; omega
theorem Bk.zero {H : List Pc} {kd : Nat × Nat × Bool} {t : Nat} {p : Pc} (ht : t < 4294967296) (hp : p ∈ H) (e : p.tsn = t) (hk : kdOf p = kd) : Bk H kd t 0 :=
  ⟨fun i hi => ⟨p, hp, by obtain rfl : i = 0 := by omega
                          rw [sub_zero ht, e], hk⟩, fun i hi => by omega, fun i h1 h2 => by omega⟩
theorem Fw.zero {H : List Pc} {kd : Nat × Nat × Bool} {t : Nat} {p : Pc} (ht : t < 4294967296) (hp : p ∈ H) (e : p.tsn = t) (hk : kdOf p = kd) : Fw H kd t 0 :=
  ⟨fun i hi => ⟨p, hp, by obtain rfl : i = 0 := by omega
                          rw [add_zero ht, e], hk⟩, fun i hi => by omega, fun i h1 h2 => by omega⟩
theorem Bk.lt {H : List Pc} {kd : Nat × Nat × Bool} {t k : Nat} (h : Bk H kd t k) (hk : k ≤ 1000000) : k < H.length :=
  run_le (f := fun i => sub t i) (fun i hi => by obtain ⟨q, hq, e, _⟩ := h.at_ i hi; exact ⟨q, hq, e⟩) (fun i j hi hj e => by simp only [sub] at e; omega)
theorem Fw.lt {H : List Pc} {kd : Nat × Nat × Bool} {t k : Nat} (h : Fw H kd t k) (hk : k ≤ 1000000) : k < H.length :=
  run_le (f := fun i => add t i) (fun i hi => by obtain ⟨q, hq, e, _⟩ := h.at_ i hi; exact ⟨q, hq, e⟩) (fun i j hi hj e => by simp only [add] at e; omega)
section
variable {H : List Pc} (ha : Apart H) {kd : Nat × Nat × Bool} {t k : Nat}
include ha
theorem Bk.step {q y : Pc} (h : Bk H kd t k) (hq : q ∈ H) (e : q.tsn = sub t k) (hb : q.bg = false) (hy : y ∈ H) (ey : y.tsn = sub t (k + 1)) (hyk : kdOf y = kd) (hye : y.en = false) : Bk H kd t (k + 1) := by
  refine ⟨fun i hi => ?_, fun i hi z hz ez => ?_, fun i h1 h2 z hz ez => ?_⟩
  · rcases Nat.lt_or_ge k i with h1 | h1
    · obtain rfl : i = k + 1 := by omega
      exact ⟨y, hy, ey, hyk⟩
    · exact h.at_ i h1
  · by_cases h1 : i = k
    · subst h1
      rw [apart_eq ha hz hq (ez.trans e.symm)]; exact hb
    · exact h.bg i (by omega) z hz ez
  · by_cases h3 : i = k + 1
    · subst h3
      rw [apart_eq ha hz hy (ez.trans ey.symm)]; exact hye
    · exact h.en i h1 (by omega) z hz ez
theorem Fw.step {q y : Pc} (h : Fw H kd t k) (hq : q ∈ H) (e : q.tsn = add t k) (hb : q.en = false) (hy : y ∈ H) (ey : y.tsn = add t (k + 1)) (hyk : kdOf y = kd) (hye : y.bg = false) : Fw H kd t (k + 1) := by
  refine ⟨fun i hi => ?_, fun i hi z hz ez => ?_, fun i h1 h2 z hz ez => ?_⟩
  · rcases Nat.lt_or_ge k i with h1 | h1
    · obtain rfl : i = k + 1 := by omega
      exact ⟨y, hy, ey, hyk⟩
    · exact h.at_ i h1
  · by_cases h1 : i = k
    · subst h1
      rw [apart_eq ha hz hq (ez.trans e.symm)]; exact hb
    · exact h.en i (by omega) z hz ez
  · by_cases h3 : i = k + 1
    · subst h3
      rw [apart_eq ha hz hy (ez.trans ey.symm)]; exact hye
    · exact h.bg i h1 (by omega) z hz ez
/-- The kind of each piece of a message that t is of. -/
theorem mine_at {p : Pc} (ht : t < 4294967296) (hp : p ∈ H) (ep : p.tsn = t) {t' n : Nat} (hm : Mine H t t' n) : off t' t < n ∧ n ≤ 512 ∧ ∀ i, i < n → ∃ q ∈ H, q.tsn = add t' i ∧ kdOf q = kdOf p ∧ (q.bg = true ↔ i = 0) ∧ (q.en = true ↔ i + 1 = n) := by
  obtain ⟨⟨h1, h2, h3, p', hp', e', hall⟩, h6⟩ := hm
  refine ⟨h6, h2, fun i hi => ?_⟩
  obtain ⟨q0, hq0, f1, f2, f3, f4, _⟩ := hall (off t' t) h6
  have e0 : q0 = p := apart_eq ha hq0 hp (by rw [f1, ep, add_off h3 ht])
  subst e0
  obtain ⟨q, hq, g1, g2, g3, g4, g5⟩ := hall i hi
  exact ⟨q, hq, g1, by unfold kdOf; rw [g2, g3, g4, f2, f3, f4], g5⟩
/-- There is none, if the one ahead is not of it. -/
theorem Bk.none {p q : Pc} (ht : t < 4294967296) (hp : p ∈ H) (ep : p.tsn = t) (hpk : kdOf p = kd) (h : Bk H kd t k) (hq : q ∈ H) (e : q.tsn = sub t k) (hb : q.bg = false) (hk : k ≤ 1000) (hno : ∀ y ∈ H, y.tsn = sub t (k + 1) → kdOf y = kd → y.en = true) (t' n : Nat) : ¬ Mine H t t' n := fun hm => by
  have hlt := hm.1.lt
  obtain ⟨h1, h2, hall⟩ := mine_at ha ht hp ep hm
  rw [hpk] at hall
  rcases Nat.lt_or_ge k (off t' t) with h3 | h3
  · obtain ⟨y, hy, y1, y2, y3, y4⟩ := hall (off t' t - (k + 1)) (by omega)
    have := y4.1 (hno y hy (by rw [y1]; unfold add off sub at *; omega) y2)
    omega
  · obtain ⟨y, hy, y1, y2, y3, y4⟩ := hall 0 (by omega)
    have ey : y.tsn = sub t (off t' t) := by rw [y1]; unfold add off sub at *; omega
    have hyb : y.bg = false := by
      by_cases h5 : off t' t = k
      · rw [apart_eq ha hy hq (by rw [ey, e, h5])]; exact hb
      · exact h.bg _ (by omega) y hy ey
    rw [y3.2 rfl] at hyb
    cases hyb
/-- Nor if the one behind is not of it. -/
theorem Fw.none {p q : Pc} (ht : t < 4294967296) (hp : p ∈ H) (ep : p.tsn = t) (hpk : kdOf p = kd) (h : Fw H kd t k) (hq : q ∈ H) (e : q.tsn = add t k) (hb : q.en = false) (hk : k ≤ 1000) (hno : ∀ y ∈ H, y.tsn = add t (k + 1) → kdOf y = kd → y.bg = true) (t' n : Nat) : ¬ Mine H t t' n := fun hm => by
  have hlt := hm.1.lt
  obtain ⟨h1, h2, hall⟩ := mine_at ha ht hp ep hm
  rw [hpk] at hall
  rcases Nat.lt_or_ge (off t' t + k + 1) n with h3 | h3
  · obtain ⟨y, hy, y1, y2, y3, y4⟩ := hall (off t' t + (k + 1)) (by omega)
    have := y3.1 (hno y hy (by rw [y1]; unfold add off at *; omega) y2)
    omega
  · obtain ⟨y, hy, y1, y2, y3, y4⟩ := hall (n - 1) (by omega)
    have ey : y.tsn = add t (n - 1 - off t' t) := by rw [y1]; unfold add off at *; omega
    have hye : y.en = false := by
      by_cases h5 : n - 1 - off t' t = k
      · rw [apart_eq ha hy hq (by rw [ey, e, h5])]; exact hb
      · exact h.en _ (by omega) y hy ey
    rw [y4.2 (by omega)] at hye
    cases hye
/-- Both ends are there. -/
theorem mine_ends {k2 : Nat} {q y : Pc} (ht : t < 4294967296) (h : Bk H kd t k) (h2 : Fw H kd t k2) (hq : q ∈ H) (eq : q.tsn = sub t k) (hb : q.bg = true) (hy : y ∈ H) (ey : y.tsn = add t k2) (he : y.en = true) (hl : H.length ≤ 512) (hk : k ≤ 1000) (hk2 : k2 ≤ 1000) : Mine H t (sub t k) (k + k2 + 1) := by
  have hall : ∀ i, i < k + k2 + 1 → ∃ z ∈ H, z.tsn = add (sub t k) i ∧ kdOf z = kd ∧ (z.bg = true ↔ i = 0) ∧ (z.en = true ↔ i + 1 = k + k2 + 1) := fun i hi => by
    rcases Nat.lt_or_ge i k with h3 | h3
    · obtain ⟨z, hz, z1, z2⟩ := h.at_ (k - i) (by omega)
      have hze := h.en (k - i) (by omega) (by omega) z hz z1
      refine ⟨z, hz, by rw [z1]; unfold add sub; omega, z2, ?_, by rw [hze]; simp; omega⟩
      by_cases h4 : i = 0
      · subst h4
        rw [apart_eq ha hz hq (by rw [z1, eq]; simp)]
        simp [hb]
      · rw [h.bg (k - i) (by omega) z hz z1]
        simp [h4]
    · obtain ⟨z, hz, z1, z2⟩ := h2.at_ (i - k) (by omega)
      refine ⟨z, hz, by rw [z1]; unfold add sub; omega, z2, ?_, ?_⟩
      · by_cases h4 : i = k
        · have e1 : z = (z : Pc) := rfl
          by_cases h5 : k = 0
          · have : z = q := apart_eq ha hz hq (by rw [z1, eq, h4, h5]; unfold add sub; omega)
            rw [this, hb]; simp; omega
          · rw [h.bg 0 (by omega) z hz (by rw [z1, h4]; unfold add sub; omega)]; simp; omega
        · rw [h2.bg (i - k) (by omega) (by omega) z hz z1]; simp; omega
      · by_cases h4 : i - k = k2
        · rw [apart_eq ha hz hy (by rw [z1, ey, h4]), he]; simp; omega
        · rw [h2.en (i - k) (by omega) z hz z1]; simp; omega
  have hn : k + k2 < H.length := run_le (f := fun i => add (sub t k) i) (fun i hi => by
    obtain ⟨z, hz, z1, _⟩ := hall i (by omega)
    exact ⟨z, hz, z1⟩) (fun i j hi hj e => by simp only [add] at e; omega)
  have hkq : kdOf q = kd := by
    obtain ⟨z, hz, z1, z2, _⟩ := hall 0 (by omega)
    rw [apart_eq ha hq hz (by rw [eq, z1]; unfold add sub; omega)]; exact z2
  refine ⟨⟨by omega, by omega, sub_lt t k, q, hq, eq, fun i hi => ?_⟩, by rw [off_sub ht (by omega)]; omega⟩
  obtain ⟨z, hz, z1, z2, z3⟩ := hall i hi
  rw [← hkq] at z2
  unfold kdOf at z2
  exact ⟨z, hz, z1, congrArg (·.1) z2, congrArg (·.2.1) z2, congrArg (·.2.2) z2, z3⟩
end
end Fg
end Go.Proofs.Ytgcabidhpnaoiaa
