import Derived.Test.YthncpkjnalmpkaaAvG1
namespace Go.Proofs.Ythncpkjnalmpkaa
open Go Go.RowKit
set_option linter.unusedVariables false
set_option linter.unusedSimpArgs false
/-! The program's first, whole. -/
theorem numS_one {xs : List Int} (i : Nat) : numS xs i 1 = xs.getD i 0 := by
  unfold numS
  by_cases h : i + 1 ≤ xs.length
  · rw [if_pos h]
    have hl : i < xs.length := by omega
    rw [List.drop_eq_getElem_cons hl, List.take_succ_cons, List.take_zero]
    simp [num, List.getD, hl]
  · rw [if_neg h]
    have hl : xs.length ≤ i := by omega
    simp [List.getD, hl]
theorem getD_byt {xs : List Int} (hb : Byt xs) (i : Nat) : 0 ≤ xs.getD i 0 ∧ xs.getD i 0 < 256 := by
  by_cases h : i < xs.length
  · have := hb xs[i] (List.getElem_mem h)
    simpa [List.getD, h] using this
  · have hl : xs.length ≤ i := by omega
    simp [List.getD, hl]
theorem numS_ok {xs : List Int} {a s : Nat} (h : a + s ≤ xs.length) : numS xs a s = num 0 ((xs.drop a).take s) := by unfold numS; rw [if_pos h]
theorem numS_bd {xs : List Int} (hb : Byt xs) (a s : Nat) : 0 ≤ numS xs a s := by
  unfold numS; split
  · exact (num_bd _ ((hb.drop a).take s)).1
  · exact Int.le_refl 0
theorem numS_24 {xs : List Int} (hb : Byt xs) (a : Nat) : numS xs a 3 < 16777216 := by
  unfold numS; split
  · rename_i h
    have h1 := (num_bd _ ((hb.drop a).take 3)).2
    have h2 : ((xs.drop a).take 3).length = 3 := by rw [List.length_take, List.length_drop]; omega
    rw [h2, p256_3] at h1
    exact h1
  · omega
theorem numS_32 {xs : List Int} (hb : Byt xs) (a : Nat) : numS xs a 4 < 4294967296 := by
  unfold numS; split
  · exact (num_u32 hb a 4 (by omega)).2
  · omega
/-- The first attribute of bytes, or why there is none. -/
def FirstPost (xs : List Int) (w : World) (e : Ending) (w' : World) : Prop := (∃ k, Hid (stepA xs = .error k) ∧ FErr k w e w') ∨ (∃ a s, Hid (stepA xs = .ok (a, s)) ∧ FOk a.code a.vendor a.must a.prot a.bs s w e w')
theorem flag_of {B : Int} (h : 0 ≤ B ∧ B < 256) (k : Nat) (hk : k = 128 ∨ k = 64 ∨ k = 32) : (bits .and .u32 B (k : Int) != 0) = decide (B / k % 2 = 1) := by
  obtain ⟨n, rfl⟩ := Int.eq_ofNat_of_zero_le h.1
  have := and_flag k hk n (by omega)
  rw [this]
  have e : ((n : Int) / (k : Int) % 2 = 1) ↔ n / k % 2 = 1 := by rcases hk with rfl | rfl | rfl <;> omega
  simp only [e]
theorem first_any (A : Option Addr) (m c : Nat) (xs : List Int) (w : World) (hin : InB w A m c xs) (hm : m ≤ 4096) : Calls Try.prog 53 #[.slice A m c] w (FirstPost xs w) := by
  have hb := hin.byt
  have hl := hin.len
  have hB : numS xs 4 1 = xs.getD 4 0 := numS_one 4
  have bB := getD_byt hb 4
  have b24 := numS_24 hb 5
  have b0 := numS_bd hb 5 3
  obtain ⟨N, hN⟩ := Int.eq_ofNat_of_zero_le b0
  have hN2 : N < 16777216 := by omega
  have f1 := flag_of bB 128 (.inl rfl)
  have f2 := flag_of bB 64 (.inr (.inl rfl))
  have f3 := flag_of bB 32 (.inr (.inr rfl))
  have c1 := numS_bd hb 0 4
  have c2 := numS_32 hb 0
  have hst : stepA xs = stepA xs := rfl
  conv at hst => rhs; unfold stepA
  have e5 : 8 ≤ m → (num 0 ((xs.drop 5).take 3)).toNat = N := fun h => by
    have := numS_ok (xs := xs) (a := 5) (s := 3) (by omega)
    rw [← this, hN]; exact Int.toNat_natCast N
  have e0 : 8 ≤ m → num 0 (xs.take 4) = numS xs 0 4 := fun h => by rw [numS_ok (by omega)]; rfl
  generalize hBB : xs.getD 4 0 = B at *
  by_cases hv : 128 ≤ B
  · have g1 : (bits .and .u32 B 128 != 0) = true := by
      have : (bits .and .u32 B ((128 : Nat) : Int) != 0) = decide (B / ((128 : Nat) : Int) % 2 = 1) := f1
      exact this.trans (by rw [decide_eq_true_eq]; omega)
    by_cases h1 : m < 12
    · rw [if_pos (.inr ⟨hv, by omega⟩)] at hst
      exact (first_short_v A m c xs w hin hm _ B N rfl hB hN hN2 g1 h1).mono fun e w' h => .inl ⟨3, Lib.hid hst, h⟩
    · rw [if_neg (by omega), e5 (by omega), if_pos hv] at hst
      by_cases h2 : N < 12
      · rw [if_pos h2] at hst
        exact (first_form_v A m c xs w hin hm _ B N rfl hB hN hN2 g1 (by omega) h2).mono fun e w' h => .inl ⟨2, Lib.hid hst, h⟩
      · rw [if_neg h2] at hst
        by_cases h3 : m < N + padN N
        · rw [if_pos (by omega)] at hst
          exact (first_cut_v A m c xs w hin hm _ B N rfl hB hN hN2 g1 (by omega) (by omega) h3).mono fun e w' h => .inl ⟨3, Lib.hid hst, h⟩
        · rw [if_neg (by omega), if_pos hv] at hst
          have hV : numS xs 8 4 = num 0 ((xs.drop 8).take 4) := numS_ok (by omega)
          by_cases h4 : num 0 ((xs.drop 8).take 4) = 0
          · rw [if_pos h4] at hst
            exact (first_v0 A m c xs w hin hm _ B N rfl hB hN hN2 g1 (by omega) (by omega) (by omega) _ _ rfl rfl ⟨c1, c2⟩ (hV.trans h4)).mono fun e w' h => .inl ⟨2, Lib.hid hst, h⟩
          · rw [if_neg h4] at hst
            refine (first_okv A m c xs w hin hm _ B N rfl hB hN hN2 g1 (by omega) (by omega) (by omega) _ _ rfl rfl ⟨c1, c2⟩ _ hV h4).mono fun e w' h => .inr ⟨_, _, Lib.hid hst, ?_⟩
            show FOk (num 0 (xs.take 4)) _ _ _ _ _ w e w'
            rw [e0 (by omega)]
            have f2' : (bits .and .u32 B 64 != 0) = decide (B / 64 % 2 = 1) := f2
            have f3' : (bits .and .u32 B 32 != 0) = decide (B / 32 % 2 = 1) := f3
            rw [f2', f3'] at h
            exact h
  · have g1 : (bits .and .u32 B 128 != 0) = false := by
      have : (bits .and .u32 B ((128 : Nat) : Int) != 0) = decide (B / ((128 : Nat) : Int) % 2 = 1) := f1
      exact this.trans (by rw [decide_eq_false_iff_not]; omega)
    by_cases h1 : m < 8
    · rw [if_pos (.inl (by omega))] at hst
      exact (first_short_n A m c xs w hin hm _ B N rfl hB hN hN2 g1 h1).mono fun e w' h => .inl ⟨3, Lib.hid hst, h⟩
    · rw [if_neg (by omega), e5 (by omega), if_neg hv] at hst
      by_cases h2 : N < 8
      · rw [if_pos h2] at hst
        exact (first_form_n A m c xs w hin hm _ B N rfl hB hN hN2 g1 (by omega) h2).mono fun e w' h => .inl ⟨2, Lib.hid hst, h⟩
      · rw [if_neg h2] at hst
        by_cases h3 : m < N + padN N
        · rw [if_pos (by omega)] at hst
          exact (first_cut_n A m c xs w hin hm _ B N rfl hB hN hN2 g1 (by omega) (by omega) h3).mono fun e w' h => .inl ⟨3, Lib.hid hst, h⟩
        · rw [if_neg (by omega), if_neg hv] at hst
          refine (first_okn A m c xs w hin hm _ B N rfl hB hN hN2 g1 (by omega) (by omega) (by omega) _ _ rfl rfl ⟨c1, c2⟩).mono fun e w' h => .inr ⟨_, _, Lib.hid hst, ?_⟩
          show FOk (num 0 (xs.take 4)) _ _ _ _ _ w e w'
          rw [e0 (by omega)]
          have f2' : (bits .and .u32 B 64 != 0) = decide (B / 64 % 2 = 1) := f2
          have f3' : (bits .and .u32 B 32 != 0) = decide (B / 32 % 2 = 1) := f3
          rw [f2', f3'] at h
          exact h
end Go.Proofs.Ythncpkjnalmpkaa
