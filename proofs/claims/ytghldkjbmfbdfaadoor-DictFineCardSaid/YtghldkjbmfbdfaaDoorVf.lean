import Derived.Test.YtghldkjbmfbdfaaDoorVx
import Derived.Test.YtghldkjbmfbdfaaDoorVn
import Derived.Test.YtghldkjbmfbdfaaDoorAvL1
namespace Go.Proofs.YtghldkjbmfbdfaaDoor
open Go Go.RowKit
set_option linter.unusedVariables false
set_option linter.unusedSimpArgs false
/-! isValue and Fits, given what Valid does. -/
def ValidOK : Prop := ∀ (A : Option Addr) (m c : Nat) (xs : List Int) (w : World), InB w A m c xs → Tab w → m ≤ 140737488355328 → Calls Tryd.prog 38 #[.slice A m c] w fun e w' => e = .returned (.bool (Ut.ok xs)) ∧ Up w w'
def getE (xs : List Int) : Int := if xs.length ≤ 4096 then (getA 64 0 xs).2.2 else 4
theorem getE_of {xs : List Int} {l : List Av.Avp} {p : Nat} {k : Int} (h : GetRes xs (l, p, k)) : k = getE xs := by
  unfold getE
  rcases h with ⟨h1, h2⟩ | ⟨h1, h2⟩
  · rw [if_pos h1, h2]
  · rw [if_neg (by omega)]; cases h2; rfl
def valOk (k : Int) (xs : List Int) : Bool := if k = 9 then Ut.ok xs else if k = 10 then nameOk xs else if k = 11 then addrOk xs else if k = 8 then getE xs == 0 else true
def fitsR (k : Int) (xs : List Int) : Int := if k < 1 ∨ 11 < k then 1 else if nsz k ≠ 0 ∧ (xs.length : Int) ≠ nsz k then 3 else if valOk k xs then 0 else 11
set_option maxRecDepth 100000 in
set_option maxHeartbeats 4000000 in
theorem isValue_any (HV : ValidOK) (k : Int) (A : Option Addr) (m c : Nat) (xs : List Int) (w : World) (hin : InB w A m c xs) (hT : Tab w) (hm : m ≤ 140737488355328) : Calls Tryd.prog 25 #[.int .i64 k, .slice A m c] w fun e w' => e = .returned (.bool (valOk k xs)) ∧ Up w w' := by
  have H := Lib.hid hin
  have HT := Lib.hid hT
  have HW := Lib.hid HV
  clear hin hT HV
  by_cases h9 : k = 9
  · subst h9
    go_enter Tryd.func25, Tryd.ntmps25
    go_wp2_with fail
    refine (HW.out A m c xs _ H.out HT.out hm).mono ?_
    rintro e w1 ⟨rfl, hu⟩
    have HU := Lib.hid hu
    clear hu
    go_wp2_with fail
    go_ret
    exact ⟨rfl, HU.out⟩
  by_cases h10 : k = 10
  · subst h10
    go_enter Tryd.func25, Tryd.ntmps25
    go_wp2_with fail
    refine (ident_any A m c xs _ H.out hm).mono ?_
    rintro e w1 ⟨rfl, rfl⟩
    go_wp2_with fail
    go_ret
    exact ⟨rfl, Up.refl _⟩
  by_cases h11 : k = 11
  · subst h11
    go_enter Tryd.func25, Tryd.ntmps25
    go_wp2_with fail
    refine (addr_any A m c xs _ H.out hm).mono ?_
    rintro e w1 ⟨rfl, rfl⟩
    go_wp2_with fail
    go_ret
    exact ⟨rfl, Up.refl _⟩
  by_cases h8 : k = 8
  · subst h8
    go_enter Tryd.func25, Tryd.ntmps25
    go_wp2_with fail
    refine (get_any' A m c xs _ H.out hm).mono ?_
    rintro e w1 ⟨l, p, k, A1, n1, c1, rfl, hr, -, -, hu⟩
    have HK := Lib.hid (getE_of hr.out)
    clear hr
    cases hb : (k == 0)
    · have HR := Lib.hid (show valOk 8 xs = false by show (getE xs == 0) = false; rw [← HK.out]; exact hb)
      go_wp2_with fail
      go_ret
      exact ⟨by rw [HR.out]; rfl, hu.out⟩
    · have HR := Lib.hid (show valOk 8 xs = true by show (getE xs == 0) = true; rw [← HK.out]; exact hb)
      go_wp2_with fail
      go_ret
      exact ⟨by rw [HR.out]; rfl, hu.out⟩
  have f8 : (k == 8) = false := by rw [beq_eq_false_iff_ne]; exact h8
  have f9 : (k == 9) = false := by rw [beq_eq_false_iff_ne]; exact h9
  have f10 : (k == 10) = false := by rw [beq_eq_false_iff_ne]; exact h10
  have f11 : (k == 11) = false := by rw [beq_eq_false_iff_ne]; exact h11
  have HR := Lib.hid (show valOk k xs = true by unfold valOk; rw [if_neg h9, if_neg h10, if_neg h11, if_neg h8])
  go_enter Tryd.func25, Tryd.ntmps25
  go_wp2_with fail
  go_ret
  exact ⟨by rw [HR.out]; rfl, Up.refl _⟩
set_option maxRecDepth 100000 in
set_option maxHeartbeats 4000000 in
theorem fits_any (HV : ValidOK) (k : Int) (A : Option Addr) (m c : Nat) (xs : List Int) (w : World) (hin : InB w A m c xs) (hT : Tab w) (hm : m ≤ 140737488355328) : Calls Tryd.prog 10 #[.int .i64 k, .slice A m c] w fun e w' => e = .returned (.int .i64 (fitsR k xs)) ∧ Up w w' := by
  have H := Lib.hid hin
  have HL := Lib.hid hin.len
  have HT := Lib.hid hT
  have HW := Lib.hid HV
  clear hin hT HV
  by_cases h1 : k < 1
  · have f1 : decide (k < 1) = true := decide_eq_true h1
    have HR := Lib.hid (show fitsR k xs = 1 by unfold fitsR; rw [if_pos (.inl h1)])
    go_enter Tryd.func10, Tryd.ntmps10
    go_wp2_with fail
    go_ret
    exact ⟨by rw [HR.out]; rfl, Up.refl _⟩
  have f1 : decide (k < 1) = false := decide_eq_false h1
  by_cases h2 : 11 < k
  · have f2 : decide (11 < k) = true := decide_eq_true h2
    have HR := Lib.hid (show fitsR k xs = 1 by unfold fitsR; rw [if_pos (.inr h2)])
    go_enter Tryd.func10, Tryd.ntmps10
    go_wp2_with fail
    go_ret
    exact ⟨by rw [HR.out]; rfl, Up.refl _⟩
  have f2 : decide (11 < k) = false := decide_eq_false h2
  have HF : Hid (fitsR k xs = if nsz k ≠ 0 ∧ (m : Int) ≠ nsz k then 3 else if valOk k xs then 0 else 11) := Lib.hid (by unfold fitsR; rw [if_neg (by omega), HL.out])
  go_enter Tryd.func10, Tryd.ntmps10
  go_wp2_with fail
  refine (nsize_any k _).mono ?_
  rintro e w1 ⟨rfl, rfl⟩
  generalize nsz k = N at HF ⊢
  by_cases hs : N ≠ 0 ∧ (m : Int) ≠ N
  · have g1 : (N != 0) = true := by simp [hs.1]
    have g2 : ((m : Int) != N) = true := by simp [hs.2]
    have HR := Lib.hid (show fitsR k xs = 3 by rw [HF.out, if_pos hs])
    clear hs
    go_wp2_with fail
    go_ret
    exact ⟨by rw [HR.out]; rfl, Up.refl _⟩
  · have HR := Lib.hid (show fitsR k xs = if valOk k xs then 0 else 11 by rw [HF.out, if_neg hs])
    have hz : N = 0 ∨ (N ≠ 0 ∧ (m : Int) = N) := by omega
    clear hs HF
    rcases hz with rfl | ⟨g0, g2⟩
    · go_wp2_with fail
      refine (isValue_any HW.out k A m c xs _ H.out HT.out hm).mono ?_
      rintro e w2 ⟨rfl, hu⟩
      have HU := Lib.hid hu
      clear hu
      cases hv : valOk k xs
      · rw [hv] at HR
        go_wp2_with fail
        go_ret
        exact ⟨by rw [HR.out]; rfl, HU.out⟩
      · rw [hv] at HR
        go_wp2_with fail
        go_ret
        exact ⟨by rw [HR.out]; rfl, HU.out⟩
    · have g1 : (N != 0) = true := by simp [g0]
      have g3 : ((m : Int) != N) = false := by simp [g2]
      clear g0 g2
      go_wp2_with fail
      refine (isValue_any HW.out k A m c xs _ H.out HT.out hm).mono ?_
      rintro e w2 ⟨rfl, hu⟩
      have HU := Lib.hid hu
      clear hu
      cases hv : valOk k xs
      · rw [hv] at HR
        go_wp2_with fail
        go_ret
        exact ⟨by rw [HR.out]; rfl, HU.out⟩
      · rw [hv] at HR
        go_wp2_with fail
        go_ret
        exact ⟨by rw [HR.out]; rfl, HU.out⟩
end Go.Proofs.YtghldkjbmfbdfaaDoor
