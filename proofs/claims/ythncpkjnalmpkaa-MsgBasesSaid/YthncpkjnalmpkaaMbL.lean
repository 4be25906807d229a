import Derived.Test.YthncpkjnalmpkaaMbT
import Derived.Deep.DeepBigQuietO
namespace Go.Proofs.Ythncpkjnalmpkaa
open Go Go.RowKit Mg Dc
set_option linter.unusedVariables false
set_option linter.unusedSimpArgs false
/-! The law MsgBases. -/
set_option maxRecDepth 100000 in
set_option maxHeartbeats 20000000 in
theorem law_bases (c : Int) (w : World) (h : 0 ≤ c ∧ c < 4294967296) : Calls Try.prog 8 #[.int .u32 c] w (RetB true w) := by
  obtain ⟨h0, h1⟩ := h
  obtain ⟨hl7, hend⟩ := base_len c
  have HEND := Lib.hid hend
  have HSD := Lib.hid (base_sound c)
  obtain ⟨rs, HRS⟩ : ∃ rs, Hid (baseR c = rs) := ⟨_, Lib.hid rfl⟩
  rw [HRS.out] at hl7 HEND HSD
  clear hend
  go_enter Try.func8, Try.ntmps8
  go_wp2_with fail
  refine (base_any c w h0 h1).mono ?_
  rw [HRS.out]
  rintro e w1 ⟨A1, n1, c1, rfl, hR1, hu1⟩
  go_wp2_with fail
  refine (rbase_any c w1 h0 h1).mono ?_
  rw [HRS.out]
  rintro e w2 ⟨A2, n2, c2, rfl, hR2, hu2⟩
  have HR1 := Lib.hid (hR1.out.up hu2.out)
  have U2 := Lib.hid (hu1.out.trans hu2.out)
  have HN1 := Lib.hid (show n1 = rs.length from hR1.out.len.symm)
  have HN2 := Lib.hid (show n2 = rs.length from hR2.out.len.symm)
  have hn1 : n1 ≤ 7 := by have := HN1.out; omega
  have dn : ((n1 : Int) != (n2 : Int)) = false := by rw [HN1.out, HN2.out]; simp
  clear hR1 hu1 hu2
  go_wp2_with fail
  refine (answersM_ok w2).mono ?_
  rintro e w3 ⟨rfl, hu3⟩
  have HR13 := Lib.hid (HR1.out.up hu3.out)
  have HR23 := Lib.hid (hR2.out.up hu3.out)
  have U3 := Lib.hid (U2.out.trans hu3.out)
  clear HR1 hR2 hu3 U2
  go_wp2_with fail
  refine (sound_any A1 n1 c1 rs w3 HR13.out (by omega)).mono ?_
  rw [HSD.out]
  rintro e w4 ⟨rfl, hu4⟩
  have HR1 := Lib.hid (HR13.out.up hu4)
  have HR2 := Lib.hid (HR23.out.up hu4)
  have U4 := Lib.hid (U3.out.trans hu4)
  clear HR13 HR23 hu4 U3
  go_wp2_with fail
  go_loopw [5] (fun i wr => ∃ k : Nat, k ≤ n1 ∧ i = .int .i64 (k : Int) ∧ Hid (Up w4 wr)) (fun i _ => n1 - (intOf i).toNat)
  case atStart => exact ⟨0, Nat.zero_le _, rfl, Lib.hid (Up.refl _)⟩
  case round =>
    obtain ⟨k, hk, rfl, hU⟩ := hrel
    by_cases hlt : k < n1
    · have d1 : decide ((k : Int) < (n1 : Int)) = true := decide_eq_true (by omega)
      have hlt2 : k < n2 := by have := HN1.out; have := HN2.out; omega
      obtain ⟨r, g, o, hr, rfl, ⟨k0, k1, k2, k3, k4, k5⟩, _⟩ := (HR1.out.up hU.out).at_ hlt
      obtain ⟨r', g', o', hr', rfl, ⟨m0, m1, m2, m3, m4, m5⟩, _⟩ := (HR2.out.up hU.out).at_ hlt2
      obtain rfl : r' = r := by rw [hr] at hr'; exact (Option.some.inj hr').symm
      clear hr hr'
      have q1 := run_neR r' wr
      unfold ruV at q1
      have qk : decide ((k : Int) < (n2 : Int)) = true := decide_eq_true (by omega)
      go_upto_region 7 with (fail)
      go_quiet (fail)
      go_wp2_with fail
      exact ⟨⟨k + 1, by omega, rfl, Lib.hid (hU.out.trans (up_drewN wr nq))⟩, by simp [intOf]; omega⟩
    · have d1 : decide ((k : Int) < (n1 : Int)) = false := decide_eq_false (by omega)
      have UF := Lib.hid (U4.out.trans hU.out)
      by_cases c1 : c = 257 ∨ c = 280 ∨ c = 282 ∨ c = 9300
      · have hz : ((n1 : Int) == 0) = false := by
          have hh := HEND.out
          have : rs.length ≠ 0 := by
            rcases c1 with rfl | rfl | rfl | rfl <;> (intro e; rw [e] at hh; revert hh; decide)
          have := HN1.out
          simp; omega
        rcases c1 with rfl | rfl | rfl | rfl
        all_goals
          go_wp2_with fail
          go_ret
          exact ⟨rfl, UF⟩
      · have b1 : (c != 257) = true := by simp; omega
        have b2 : (c != 280) = true := by simp; omega
        have b3 : (c != 282) = true := by simp; omega
        have b4 : (c != 9300) = true := by simp; omega
        have hz : ((n1 : Int) == 0) = true := by
          have hh := HEND.out
          rw [b1, b2, b3, b4] at hh
          have : rs.length = 0 := by simpa using hh
          have := HN1.out
          simp; omega
        go_wp2_with fail
        go_ret
        exact ⟨rfl, UF⟩
end Go.Proofs.Ythncpkjnalmpkaa
