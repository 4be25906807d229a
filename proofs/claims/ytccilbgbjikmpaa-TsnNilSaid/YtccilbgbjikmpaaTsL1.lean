import Derived.Test.YtccilbgbjikmpaaTsC
namespace Go.Proofs.Ytccilbgbjikmpaa
open Go Go.RowKit
set_option linter.unusedVariables false
set_option linter.unusedSimpArgs false
/-! What a program that does nothing does not answer. -/
set_option maxRecDepth 100000 in
set_option maxHeartbeats 1000000 in
theorem answers_ok (w : World) : Calls Try.prog 8 #[] w (RetB true w) := by
  go_enter Try.func8, Try.ntmps8
  go_wp2_with fail
  refine (new_t 10 w (by decide) (by decide)).mono ?_
  rintro e w1 ⟨pb, rfl, hT, hu⟩
  have HT := Lib.hid hT
  have HU := Lib.hid hu
  have hz := hu.size
  clear hT hu
  go_wp2_with fail
  refine (got_t w.heap.size pb _ [] [] 10 w1 HT.out (by decide) hz).mono ?_
  rintro e w2 ⟨r, C1, A1, d1, rfl, hg, hT1, hb1⟩
  obtain ⟨rfl, hi1, rfl⟩ := GotR.fresh (F := 4294967306) (R := []) (X := 4294967306) Ts.Inv.start (by simp) (by omega) (by decide) hg
  have HT1 := Lib.hid hT1
  have HU1 := Lib.hid (show Up w w2 from Below.trans HU.out hb1)
  have hc1 := hi1.fix (Y := 4294967307) (by omega) (fun x h1 h2 => by simp; omega) (by simp)
  have HI1 := Lib.hid hi1
  have HC1 := Lib.hid hc1
  clear hg hT1 hb1 hi1 hc1 HT HU
  go_wp2_with fail
  refine (got_t w.heap.size pb _ A1 [] 12 w2 HT1.out (by decide) HU1.out.size).mono ?_
  rintro e w3 ⟨r, C2, A2, d2, rfl, hg, hT2, hb2⟩
  obtain ⟨rfl, hi2, rfl⟩ := GotR.fresh (F := 4294967306) (X := 4294967308) HI1.out (by simp) (by omega) (by have := HC1.out; omega) hg
  have HT2 := Lib.hid hT2
  have HU2 := Lib.hid (show Up w w3 from Below.trans HU1.out hb2)
  have hc2 := hi2.fix (Y := 4294967307) (by omega) (fun x h1 h2 => by simp; omega) (by simp)
  have hkc : key C2 = 10 := by unfold key; omega
  have HI2 := Lib.hid hi2
  have HC2 := Lib.hid hc2
  have HK2 := Lib.hid hkc
  clear hg hT2 hb2 hi2 hc2 hkc HT1 HU1
  go_wp2_with fail
  refine (cum_t w.heap.size pb C2 A2 [] w3 HT2.out).mono ?_
  rintro e w4 ⟨rfl, rfl⟩
  rw [HK2.out]
  go_wp2_with fail
  refine (ahead_t w.heap.size pb C2 A2 [] w3 HT2.out).mono ?_
  rintro e w5 ⟨L, n, B, c, rfl, hn, hL, hrow, hu⟩
  have hA2 : A2 = [4294967308] := by
    have hm : ∀ x, x ∈ A2 ↔ x ∈ [4294967308] := fun x => by
      rw [HI2.out.up]
      have := HC2.out
      simp
      omega
    have hp := (List.perm_ext_iff_of_nodup HT2.out.ok.nd (by simp)).2 hm
    exact List.perm_singleton.1 hp
  have hn1 : n = 1 := by rw [hn, hL.1.length_eq, hA2]; rfl
  clear hn
  subst hn1
  have HU3 := Lib.hid (HU2.out.trans hu)
  clear hL hrow hu hA2
  go_wp2_with fail
  go_ret
  exact ⟨rfl, Lib.hid HU3.out⟩
end Go.Proofs.Ytccilbgbjikmpaa
