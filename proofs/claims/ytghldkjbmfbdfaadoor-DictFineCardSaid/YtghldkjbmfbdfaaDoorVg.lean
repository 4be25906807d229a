import Derived.Test.YtghldkjbmfbdfaaDoorVf
namespace Go.Proofs.YtghldkjbmfbdfaaDoor
open Go Go.RowKit
set_option linter.unusedVariables false
set_option linter.unusedSimpArgs false
/-! The reference's Fits. -/
theorem nsz_no {k : Int} (h : ¬ (2 ≤ k ∧ k ≤ 7)) : nsz k = 0 := by unfold nsz; rw [if_neg (by omega), if_neg (by omega)]
theorem nsz_yes {k : Int} (h : 2 ≤ k ∧ k ≤ 7) : nsz k ≠ 0 ∧ lea k = nsz k := by
  refine ⟨?_, by unfold lea; rw [if_neg (by omega), if_neg (by omega)]⟩
  unfold nsz
  by_cases a : k = 2 ∨ k = 4 ∨ k = 6
  · rw [if_pos a]; decide
  · rw [if_neg a, if_pos (by omega)]; decide
theorem fitsR_oth {k : Int} {xs : List Int} (h1 : ¬ k < 1) (h2 : ¬ 11 < k) (h : ¬ (2 ≤ k ∧ k ≤ 7)) : fitsR k xs = if valOk k xs then 0 else 11 := by
  unfold fitsR; rw [if_neg (by omega), if_neg (by rw [nsz_no h]; simp)]
theorem addr6 {xs : List Int} (h : xs.length = 6) : addrOk xs = ((byt xs 0 == 0) && (byt xs 1 == 1)) := by
  unfold addrOk; rw [h]; by_cases a : byt xs 0 = 0 <;> by_cases b : byt xs 1 = 1 <;> simp [a, b]
theorem addr18 {xs : List Int} (h : xs.length = 18) : addrOk xs = ((byt xs 0 == 0) && (byt xs 1 == 2)) := by
  unfold addrOk; rw [h]; by_cases a : byt xs 0 = 0 <;> by_cases b : byt xs 1 = 2 <;> simp [a, b]
set_option maxRecDepth 100000 in
set_option maxHeartbeats 8000000 in
theorem rfits_any (k : Int) (A : Option Addr) (m c : Nat) (xs : List Int) (w : World) (hin : InB w A m c xs) (hm : m ≤ 140737488355328) : Calls Tryd.prog 11 #[.int .i64 k, .slice A m c] w fun e w' => e = .returned (.int .i64 (fitsR k xs)) ∧ Up w w' := by
  have H := Lib.hid hin
  have HL := Lib.hid hin.len
  clear hin
  by_cases h1 : k < 1
  · have f1 : decide (k < 1) = true := decide_eq_true h1
    have HR := Lib.hid (show fitsR k xs = 1 by unfold fitsR; rw [if_pos (.inl h1)])
    go_enter Tryd.func11, Tryd.ntmps11
    go_wp2_with fail
    go_ret
    exact ⟨by rw [HR.out]; rfl, Up.refl _⟩
  have f1 : decide (k < 1) = false := decide_eq_false h1
  by_cases h2 : 11 < k
  · have f2 : decide (11 < k) = true := decide_eq_true h2
    have HR := Lib.hid (show fitsR k xs = 1 by unfold fitsR; rw [if_pos (.inr h2)])
    go_enter Tryd.func11, Tryd.ntmps11
    go_wp2_with fail
    go_ret
    exact ⟨by rw [HR.out]; rfl, Up.refl _⟩
  have f2 : decide (11 < k) = false := decide_eq_false h2
  by_cases h3 : 2 ≤ k ∧ k ≤ 7
  · have f3 : decide (2 ≤ k) = true := decide_eq_true h3.1
    have f4 : decide (k ≤ 7) = true := decide_eq_true h3.2
    have HN := Lib.hid (nsz_yes h3)
    have HV : Hid (valOk k xs = true) := Lib.hid (by unfold valOk; rw [if_neg (by omega), if_neg (by omega), if_neg (by omega), if_neg (by omega)])
    have HF : Hid (fitsR k xs = if (m : Int) ≠ nsz k then 3 else 0) := Lib.hid (by
      unfold fitsR; rw [if_neg (by omega), HL.out, HV.out]
      by_cases a : (m : Int) = nsz k
      · simp [a]
      · simp [HN.out.1, a])
    clear h3
    go_enter Tryd.func11, Tryd.ntmps11
    go_wp2_with fail
    refine (rleast_any k _).mono ?_
    rintro e w1 ⟨rfl, rfl⟩
    rw [HN.out.2]
    generalize nsz k = N at HF ⊢
    clear HN
    by_cases hs : (m : Int) = N
    · have g2 : ((m : Int) != N) = false := by simp [hs]
      have HR := Lib.hid (show fitsR k xs = 0 by rw [HF.out, if_neg (by simp [hs])])
      clear hs HF
      go_wp2_with fail
      go_ret
      exact ⟨by rw [HR.out]; rfl, Up.refl _⟩
    · have g2 : ((m : Int) != N) = true := by simp [hs]
      have HR := Lib.hid (show fitsR k xs = 3 by rw [HF.out, if_pos hs])
      clear hs HF
      go_wp2_with fail
      go_ret
      exact ⟨by rw [HR.out]; rfl, Up.refl _⟩
  have HR0 := Lib.hid (fitsR_oth (xs := xs) h1 h2 h3)
  by_cases h8 : k = 8
  · subst h8
    clear h1 h2 h3 f1 f2
    go_enter Tryd.func11, Tryd.ntmps11
    go_wp2_with fail
    refine (rget_any' A m c xs _ H.out hm).mono ?_
    rintro e w1 ⟨l, p, k, A1, n1, c1, rfl, hr, -, -, hu⟩
    have HK := Lib.hid (getE_of hr.out)
    clear hr
    cases hb : (k == 0)
    · have HR := Lib.hid (show fitsR 8 xs = 11 by rw [HR0.out, show valOk 8 xs = false from (by show (getE xs == 0) = false; rw [← HK.out]; exact hb)]; rfl)
      go_wp2_with fail
      go_ret
      exact ⟨by rw [HR.out]; rfl, hu.out⟩
    · have HR := Lib.hid (show fitsR 8 xs = 0 by rw [HR0.out, show valOk 8 xs = true from (by show (getE xs == 0) = true; rw [← HK.out]; exact hb)]; rfl)
      go_wp2_with fail
      go_ret
      exact ⟨by rw [HR.out]; rfl, hu.out⟩
  by_cases h9 : k = 9
  · subst h9
    clear h1 h2 h3 f1 f2
    go_enter Tryd.func11, Tryd.ntmps11
    go_wp2_with fail
    refine (rutf8_any A m c xs _ H.out hm).mono ?_
    rintro e w1 ⟨rfl, rfl⟩
    cases hb : Ut.ok xs
    · have HR := Lib.hid (show fitsR 9 xs = 11 by rw [HR0.out, show valOk 9 xs = false from hb]; rfl)
      go_wp2_with fail
      go_ret
      exact ⟨by rw [HR.out]; rfl, Up.refl _⟩
    · have HR := Lib.hid (show fitsR 9 xs = 0 by rw [HR0.out, show valOk 9 xs = true from hb]; rfl)
      go_wp2_with fail
      go_ret
      exact ⟨by rw [HR.out]; rfl, Up.refl _⟩
  by_cases h10 : k = 10
  · subst h10
    clear h1 h2 h3 f1 f2
    go_enter Tryd.func11, Tryd.ntmps11
    go_wp2_with fail
    refine (rname_any A m c xs _ H.out hm).mono ?_
    rintro e w1 ⟨rfl, rfl⟩
    cases hb : nameOk xs
    · have HR := Lib.hid (show fitsR 10 xs = 11 by rw [HR0.out, show valOk 10 xs = false from hb]; rfl)
      go_wp2_with fail
      go_ret
      exact ⟨by rw [HR.out]; rfl, Up.refl _⟩
    · have HR := Lib.hid (show fitsR 10 xs = 0 by rw [HR0.out, show valOk 10 xs = true from hb]; rfl)
      go_wp2_with fail
      go_ret
      exact ⟨by rw [HR.out]; rfl, Up.refl _⟩
  by_cases h11 : k = 11
  · subst h11
    clear h1 h2 h3 f1 f2
    have HR1 := Lib.hid (show fitsR 11 xs = if addrOk xs then 0 else 11 from HR0.out)
    clear HR0
    by_cases h6 : m = 6
    · subst h6
      obtain ⟨g, o, rfl, -, -⟩ := H.out.cells (fun e => by have h1 := congrArg List.length e; rw [ints_length, H.out.len, List.length_nil] at h1; omega)
      have hx := byt_cell H.out (j := 0) (by omega)
      have hy := byt_cell H.out (j := 1) (by omega)
      have HA := Lib.hid (addr6 HL.out)
      obtain ⟨x, ex⟩ : ∃ x, byt xs 0 = x := ⟨_, rfl⟩
      obtain ⟨y, ey⟩ : ∃ y, byt xs 1 = y := ⟨_, rfl⟩
      rw [ex, Nat.add_zero] at hx
      rw [ey] at hy
      rw [ex, ey] at HA
      clear ex ey
      cases hb : (x == 0)
      · rw [hb] at HA
        have HR := Lib.hid (show fitsR 11 xs = 11 by rw [HR1.out, HA.out]; rfl)
        go_enter Tryd.func11, Tryd.ntmps11
        go_wp2_with fail
        go_ret
        exact ⟨by rw [HR.out]; rfl, Up.refl _⟩
      · cases hc : (y == 1)
        · rw [hb, hc] at HA
          have HR := Lib.hid (show fitsR 11 xs = 11 by rw [HR1.out, HA.out]; rfl)
          go_enter Tryd.func11, Tryd.ntmps11
          go_wp2_with fail
          go_ret
          exact ⟨by rw [HR.out]; rfl, Up.refl _⟩
        · rw [hb, hc] at HA
          have HR := Lib.hid (show fitsR 11 xs = 0 by rw [HR1.out, HA.out]; rfl)
          go_enter Tryd.func11, Tryd.ntmps11
          go_wp2_with fail
          go_ret
          exact ⟨by rw [HR.out]; rfl, Up.refl _⟩
    by_cases h18 : m = 18
    · subst h18
      obtain ⟨g, o, rfl, -, -⟩ := H.out.cells (fun e => by have h1 := congrArg List.length e; rw [ints_length, H.out.len, List.length_nil] at h1; omega)
      have hx := byt_cell H.out (j := 0) (by omega)
      have hy := byt_cell H.out (j := 1) (by omega)
      have HA := Lib.hid (addr18 HL.out)
      obtain ⟨x, ex⟩ : ∃ x, byt xs 0 = x := ⟨_, rfl⟩
      obtain ⟨y, ey⟩ : ∃ y, byt xs 1 = y := ⟨_, rfl⟩
      rw [ex, Nat.add_zero] at hx
      rw [ey] at hy
      rw [ex, ey] at HA
      clear ex ey
      cases hb : (x == 0)
      · rw [hb] at HA
        have HR := Lib.hid (show fitsR 11 xs = 11 by rw [HR1.out, HA.out]; rfl)
        go_enter Tryd.func11, Tryd.ntmps11
        go_wp2_with fail
        go_ret
        exact ⟨by rw [HR.out]; rfl, Up.refl _⟩
      · cases hc : (y == 2)
        · rw [hb, hc] at HA
          have HR := Lib.hid (show fitsR 11 xs = 11 by rw [HR1.out, HA.out]; rfl)
          go_enter Tryd.func11, Tryd.ntmps11
          go_wp2_with fail
          go_ret
          exact ⟨by rw [HR.out]; rfl, Up.refl _⟩
        · rw [hb, hc] at HA
          have HR := Lib.hid (show fitsR 11 xs = 0 by rw [HR1.out, HA.out]; rfl)
          go_enter Tryd.func11, Tryd.ntmps11
          go_wp2_with fail
          go_ret
          exact ⟨by rw [HR.out]; rfl, Up.refl _⟩
    have e6 : ((m : Int) == 6) = false := by rw [beq_eq_false_iff_ne]; omega
    have e18 : ((m : Int) == 18) = false := by rw [beq_eq_false_iff_ne]; omega
    have HR := Lib.hid (show fitsR 11 xs = 11 by rw [HR1.out, show addrOk xs = false by unfold addrOk; rw [HL.out]; simp [h6, h18]]; rfl)
    go_enter Tryd.func11, Tryd.ntmps11
    go_wp2_with fail
    go_ret
    exact ⟨by rw [HR.out]; rfl, Up.refl _⟩
  obtain rfl : k = 1 := by omega
  have HR := Lib.hid (show fitsR 1 xs = 0 by rw [HR0.out]; rfl)
  clear h1 h2 h3 f1 f2
  go_enter Tryd.func11, Tryd.ntmps11
  go_wp2_with fail
  go_ret
  exact ⟨by rw [HR.out]; rfl, Up.refl _⟩
end Go.Proofs.YtghldkjbmfbdfaaDoor
