import Derived.Test.YthncpkjnalmpkaaDc2
namespace Go.Proofs.Ythncpkjnalmpkaa
open Go Go.RowKit Dc
set_option linter.unusedVariables false
set_option linter.unusedSimpArgs false
/-! Sound. -/
theorem plc_lt {rs : List Ru} {n : Nm} {k : Nat} (h : has (rs.take k) n = true) : ∃ j, plc rs n = some j ∧ j < k := by
  rw [has_true] at h
  obtain ⟨q, hq, e⟩ := h
  obtain ⟨i, hi, rfl⟩ := List.mem_iff_getElem.1 hq
  have hi2 : i < k ∧ i < rs.length := by simp at hi; omega
  have he : rs[i].nm = n := by rw [← e]; simp
  cases hp : plc rs n with
  | none =>
    unfold plc at hp
    rw [List.findIdx?_eq_none_iff] at hp
    have := hp rs[i] (List.getElem_mem _)
    simp [he] at this
  | some j =>
    refine ⟨j, rfl, ?_⟩
    unfold plc at hp
    rw [List.findIdx?_eq_some_iff_getElem] at hp
    obtain ⟨h1, h2, h3⟩ := hp
    rcases Nat.lt_or_ge i j with hlt | hge
    · have := h3 i hlt
      simp [he] at this
    · omega
theorem ok_step {rs : List Ru} {k : Nat} (h : ∀ i, i < k → okAt rs i = true) (h2 : okAt rs k = true) : ∀ i, i < k + 1 → okAt rs i = true := fun i hi => by
  rcases Nat.lt_or_ge i k with h3 | h3
  · exact h i h3
  · have : i = k := by omega
    subst this; exact h2
theorem sound_yes {rs : List Ru} (hl : rs.length ≤ 64) (h : ∀ i, i < rs.length → okAt rs i = true) : sound rs = true := by
  unfold sound
  rw [decide_eq_true hl, Bool.true_and, List.all_eq_true]
  intro i hi
  exact h i (List.mem_range.1 hi)
set_option maxRecDepth 100000 in
set_option maxHeartbeats 2000000 in
theorem sound_any (A : Option Addr) (m c : Nat) (rs : List Ru) (w : World) (h : InR w A m c rs) (hm : m ≤ 140737488351232) : Calls Try.prog 27 #[.slice A m c] w fun e w' => e = .returned (.bool (sound rs)) ∧ Up w w' := by
  have H := Lib.hid h
  have HL := Lib.hid h.len
  have hcap := h.cap
  clear h
  by_cases h64 : m ≤ 64
  · have d0 : decide (64 < (m : Int)) = false := decide_eq_false (by omega)
    go_enter Try.func27, Try.ntmps27
    go_wp2_with fail
    go_loopw [10] (fun i wr => ∃ k : Nat, k ≤ m ∧ i = .int .i64 (k : Int) ∧ Hid (∀ i, i < k → okAt rs i = true) ∧ Hid (Up w wr)) (fun i _ => m - (intOf i).toNat)
    case atStart => exact ⟨0, Nat.zero_le _, rfl, Lib.hid (fun i hi => absurd hi (by omega)), Lib.hid (Up.refl _)⟩
    case round =>
      obtain ⟨k, hk, rfl, hA, hU⟩ := hrel
      by_cases hlt : k < m
      · have d1 : decide ((k : Int) < (m : Int)) = true := decide_eq_true (by omega)
        obtain ⟨r, g, o, hr, rfl, ⟨k0, k1, k2, k3, k4, k5⟩, hro⟩ := (H.out.up hU.out).at_ hlt
        have HR := Lib.hid hr
        have HK := Lib.hid (okAt_some hr)
        clear hr hro
        have HC := Lib.hid (new_at wr (ruC r))
        have HUa := Lib.hid (up_alloc wr (ruC r))
        go_upto_region 6 with (fail)
        change Code.wp _ _ _ _ (wr.alloc (ruC r))
        generalize wr.alloc (ruC r) = wa at HC HUa ⊢
        generalize wr.heap.size = q at HC ⊢
        clear k0 k1 k2 k3 k4 k5
        have HUb := Lib.hid (hU.out.trans HUa.out)
        have z0 := cell_of HC.out (j := 0) rfl
        have z1 := cell_of HC.out (j := 1) rfl
        have z2 := cell_of HC.out (j := 2) rfl
        have z3 := cell_of HC.out (j := 3) rfl
        have z4 := cell_of HC.out (j := 4) rfl
        have z5 := cell_of HC.out (j := 5) rfl
        go_wp2_with fail
        refine (mayBe_any r wa).mono ?_
        rintro e w1 ⟨rfl, hu⟩
        have HU1 := Lib.hid (HUb.out.trans hu)
        have HC1 := Lib.hid (blk_up HC.out hu)
        clear hu z0 z1 z2 z3 z4 z5
        cases hmay : r.may
        · have HF := Lib.hid (sound_no (rs := rs) (i := k) (by rw [HL.out]; exact hlt) (by rw [HK.out, hmay]; rfl))
          go_wp2_with fail
          go_ret
          exact ⟨by rw [HF.out]; rfl, HU1.out⟩
        · have z0 := cell_of HC1.out (j := 0) rfl
          have z1 := cell_of HC1.out (j := 1) rfl
          have z2 := cell_of HC1.out (j := 2) rfl
          have z3 := cell_of HC1.out (j := 3) rfl
          have z4 := cell_of HC1.out (j := 4) rfl
          have z5 := cell_of HC1.out (j := 5) rfl
          go_wp2_with fail
          refine (ofRule_any r w1).mono ?_
          rintro e w2 ⟨rfl, hu⟩
          have HU2 := Lib.hid (HU1.out.trans hu)
          clear hu z0 z1 z2 z3 z4 z5
          go_wp2_with fail
          refine (place_any _ m c rs r.nm w2 (H.out.up HU2.out) hm).mono ?_
          rintro e w3 ⟨rfl, hu⟩
          have HU3 := Lib.hid (HU2.out.trans hu)
          clear hu
          cases hh : has (rs.take k) r.nm
          · have HP := Lib.hid (plc_hit HR.out hh rfl)
            have HO := Lib.hid (ok_step hA.out (by rw [HK.out, hmay, hh]; rfl))
            rw [HP.out]
            have e1 : (idxI (some k) != (k : Int)) = false := by simp [idxI]
            generalize idxI (some k) = z at e1 ⊢
            go_wp2_with fail
            go_roundw
            case rel => exact ⟨k + 1, by omega, by go_num, HO, HU3⟩
            case measure => simp [intOf]; omega
          · obtain ⟨j, hj, hjk⟩ := plc_lt hh
            have HF := Lib.hid (sound_no (rs := rs) (i := k) (by rw [HL.out]; exact hlt) (by rw [HK.out, hmay, hh]; rfl))
            rw [hj]
            have e1 : (idxI (some j) != (k : Int)) = true := by simp [idxI]; omega
            generalize idxI (some j) = z at e1 ⊢
            clear hj
            go_wp2_with fail
            go_ret
            exact ⟨by rw [HF.out]; rfl, HU3.out⟩
      · have d1 : decide ((k : Int) < (m : Int)) = false := decide_eq_false (by omega)
        have HF := Lib.hid (sound_yes (rs := rs) (by rw [HL.out]; exact h64) (fun i hi => hA.out i (by rw [HL.out] at hi; omega)))
        go_wp2_with fail
        go_ret
        exact ⟨by rw [HF.out]; rfl, hU.out⟩
  · have d0 : decide (64 < (m : Int)) = true := decide_eq_true (by omega)
    have HF := Lib.hid (sound_len (rs := rs) (by rw [HL.out]; exact h64))
    go_enter Try.func27, Try.ntmps27
    go_wp2_with fail
    go_ret
    exact ⟨by rw [HF.out]; rfl, Up.refl _⟩
end Go.Proofs.Ythncpkjnalmpkaa
