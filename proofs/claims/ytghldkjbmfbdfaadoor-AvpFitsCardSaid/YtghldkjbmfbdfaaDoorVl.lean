import Derived.Test.YtghldkjbmfbdfaaDoorVg
namespace Go.Proofs.YtghldkjbmfbdfaaDoor
open Go Go.RowKit
set_option linter.unusedVariables false
set_option linter.unusedSimpArgs false
/-! The law AvpFits, given what Valid does. -/
set_option maxRecDepth 100000 in
set_option maxHeartbeats 2000000 in
theorem law_fits (HV : ValidOK) (k : Int) (A : Option Addr) (m c : Nat) (xs : List Int) (w : World) (h : InB w A m c xs) (hT : Tab w) (hm : m ≤ 140737488351232) : Calls Tryd.prog 3 #[.int .i64 k, .slice A m c] w (RetB true w) := by
  have H := Lib.hid h
  have HT := Lib.hid hT
  have HW := Lib.hid HV
  clear h hT HV
  by_cases h5 : 5000 < m
  · have f5 : decide (5000 < (m : Int)) = true := decide_eq_true (by omega)
    go_enter Tryd.func3, Tryd.ntmps3
    go_wp2_with fail
    refine (answers_ok w).mono ?_
    rintro e w1 ⟨rfl, hu1⟩
    go_wp2_with fail
    refine (answers_ok w1).mono ?_
    rintro e w2 ⟨rfl, hu2⟩
    have U2 := Lib.hid (hu1.out.trans hu2.out)
    go_wp2_with fail
    go_ret
    exact ⟨rfl, U2⟩
  have f5 : decide (5000 < (m : Int)) = false := decide_eq_false (by omega)
  go_enter Tryd.func3, Tryd.ntmps3
  go_wp2_with fail
  refine (answers_ok w).mono ?_
  rintro e w0 ⟨rfl, hu0⟩
  have HT0 := Lib.hid (HT.out.up hu0.out)
  have H0 := Lib.hid (H.out.up hu0.out)
  clear HT H
  go_wp2_with (at_builtin; refine wpList_appendI rfl (.tmp 14) (.tmp 15) 22 rfl .u8 w0.heap.size 5 1 Tryd.underlying22 info5 (some ⟨w0.heap.size, 0, none⟩) 0 0 [] rfl (ownI_new _ _ _) A m c xs rfl H0.out.len (H0.out.cells.alloc _) (by omega) (by omega) (by simp) ((Below.refl _ _).alloc (Nat.le_refl _) _) ?_; intro A1 N1 c1 w1 HN1 HW1 HB1 hsz1)
  have HO1 : Hid (OwnI .u8 5 w0.heap.size w1 A1 N1 c1 xs) := by have := HW1.out; rw [List.nil_append] at this; exact this
  have HI1 := Lib.hid (own_inB HO1.out H0.out.byt)
  have U1 := Lib.hid (show Up w0 w1 from HB1.out)
  have hN1 : N1 ≤ 140737488355328 := by have := HN1.out; omega
  have HT1 := Lib.hid (HT0.out.up U1.out)
  clear HW1 HB1 hsz1 HO1
  go_wp2_with fail
  refine (fits_any HW.out k A1 N1 c1 xs w1 HI1.out HT1.out hN1).mono ?_
  rintro e w2 ⟨rfl, hu2⟩
  have U2 := Lib.hid (U1.out.trans hu2)
  go_wp2_with fail
  refine (rfits_any k A m c xs w2 (H0.out.up U2.out) (by omega)).mono ?_
  rintro e w3 ⟨rfl, hu3⟩
  have U3 := Lib.hid (hu0.out.trans (U2.out.trans hu3))
  have e1 : (fitsR k xs == fitsR k xs) = true := beq_self_eq_true _
  generalize fitsR k xs = R at e1 ⊢
  clear hu2 hu3 U1 U2 hu0 HI1 H0 HT0 HT1
  go_wp2_with fail
  refine (least_any k _).mono ?_
  rintro e w4 ⟨rfl, rfl⟩
  go_wp2_with fail
  refine (rleast_any k _).mono ?_
  rintro e w5 ⟨rfl, rfl⟩
  go_wp2_with fail
  go_ret
  exact ⟨rfl, U3⟩
end Go.Proofs.YtghldkjbmfbdfaaDoor
