import Derived.Test.YtgikgcepeniekaaCk22
import Derived.Test.YtgikgcepeniekaaCk23
import Derived.Test.YtgikgcepeniekaaCk31
namespace Go.Proofs.Ytgikgcepeniekaa
open Go Go.RowKit
set_option linter.unusedVariables false
set_option linter.unusedSimpArgs false
/-! The laws' own copies, and what a program that does nothing does not answer. -/
def NoX : Nat → Prop := fun _ => False
def OwnPost (l : List Ck.Chk) (w : World) (e : Ending) (w' : World) : Prop := ∃ A n c out, e = .returned (.slice A n c) ∧ Hid (GL w.heap.size NoX w' A n c out) ∧ Hid (out.map ChB.pure = l.take 100) ∧ Hid (n ≤ 100) ∧ Hid (Up w w')
set_option maxRecDepth 100000 in
set_option maxHeartbeats 2000000 in
theorem own_any (A : Option Addr) (n cap : Nat) (l : List ChB) (w : World) (h : InL w A n cap l) (hn : n ≤ 140737488351232) : Calls Try.prog 11 #[.slice A n cap] w (OwnPost (l.map ChB.pure) w) := by
  have H := Lib.hid h
  have HLT := Lib.hid (show (l.map ChB.pure).length = n by simp [h.len])
  have hcap := h.cap
  clear h
  go_enter Try.func11, Try.ntmps11
  go_wp2_with fail
  go_loopw [3, 4] (fun v i wr => ∃ (k : Nat) (A1 : Option Addr) (c1 : Nat) (out : List ChB), k ≤ n ∧ k ≤ 100 ∧ i = .int .i64 (k : Int) ∧ v = .slice A1 k c1 ∧ Hid (GL w.heap.size NoX wr A1 k c1 out) ∧ Hid (out.map ChB.pure = (l.map ChB.pure).take k) ∧ Hid (Up w wr)) (fun _ i _ => 100 - (intOf i).toNat)
  case atStart => exact ⟨0, none, 0, [], Nat.zero_le _, Nat.zero_le _, rfl, rfl, Lib.hid (gl_nil _ _ _), Lib.hid rfl, Lib.hid (Up.refl _)⟩
  case round =>
    obtain ⟨k, A1, c1, out, hk, hk1, rfl, rfl, hL, hE, hu⟩ := hrel
    by_cases hlt : k < n ∧ k < 100
    · obtain ⟨hkn, hk100⟩ := hlt
      have d1 : decide ((k : Int) < (n : Int)) = true := by simp; omega
      have d2 : decide ((k : Int) < 100) = true := by simp; omega
      obtain ⟨x, ga, o, hx, rfl, k0, k1, k2, hci⟩ := (H.out.up hu.out).at_ hkn
      have HXE := Lib.hid (show (l.map ChB.pure).take (k + 1) = (l.map ChB.pure).take k ++ [x.pure] by
        have h2 : (l.map ChB.pure)[k]? = some x.pure := by simp [hx]
        obtain ⟨hl, he⟩ := List.getElem?_eq_some_iff.1 h2
        rw [List.take_succ_eq_append_getElem hl, he])
      have HC := Lib.hid hci
      have hxn := hci.n
      clear hx hci
      have HCB := Lib.hid (new_at wr (.cells #[.int .u8 x.ty, .int .u8 x.fl, .slice x.A x.n x.c] 41))
      have HUa := Lib.hid (up_alloc wr (.cells #[.int .u8 x.ty, .int .u8 x.fl, .slice x.A x.n x.c] 41))
      have HPB := Lib.hid (lt_of_blk HCB.out)
      go_upto_region 6 with (fail)
      generalize wr.alloc (.cells #[.int .u8 x.ty, .int .u8 x.fl, .slice x.A x.n x.c] 41) = wa at HCB HUa HPB ⊢
      have HPW := Lib.hid (show wr.heap.size ≤ wr.heap.size from Nat.le_refl _)
      generalize hpb : wr.heap.size = pb at HCB HPB HPW ⊢
      have HPE := Lib.hid hpb
      clear k0 k1 k2 hpb HPW
      have z2 := cell_of HCB.out (j := 2) rfl
      have HIN := Lib.hid (HC.out.inb.up HUa.out)
      have hpw : pb < wa.heap.size := HPB.out
      go_upto_region 7 with (at_builtin; refine wpList_appendI rfl (.tmp 20) (.tmp 22) 23 rfl .u8 wa.heap.size 5 1 Try.underlying23 info5 (some ⟨wa.heap.size, 0, none⟩) 0 0 [] rfl (ownI_new _ _ _) x.A x.n x.c x.bs rfl HIN.out.len (HIN.out.cells.alloc _) (by omega) (by omega) (by simp) ((Below.refl _ _).alloc (Nat.le_refl _) _) ?_; intro A6 N6 c6 w6 HN6 HW6 HB6 hsz6; have hc6 := (HB6.out.block _ HPB.out).trans HCB.out; have z6 := cell_of hc6 (j := 2) rfl; have y6 := frozen_at (j := 2) hc6)
      have hst := setCell_out w6 pb 2 (.slice A6 N6 c6)
      have HC7 := Lib.hid (show (w6.setCell ⟨pb, 2, none⟩ (.slice A6 N6 c6)).heap[pb]? = some (.cells #[.int .u8 x.ty, .int .u8 x.fl, .slice A6 N6 c6] 41 (0, 0)) from (setCell_at (j := 2) (.slice A6 N6 c6) hc6).trans rfl)
      have HO6 := Lib.hid (show OwnI .u8 5 wa.heap.size w6 A6 N6 c6 x.bs by have := HW6.out; rw [List.nil_append] at this; exact this)
      have HO7 := Lib.hid (show OwnI .u8 5 wa.heap.size (w6.setCell ⟨pb, 2, none⟩ (.slice A6 N6 c6)) A6 N6 c6 x.bs from hst.own HO6.out (fun q hq e => by have h1 := (row_lt HO6.out (by rwa [ownBlock_slice] at hq)).1; have e1 : q = pb := e; omega))
      have HU7 := Lib.hid (show Up wr (w6.setCell ⟨pb, 2, none⟩ (.slice A6 N6 c6)) from Below.out (HUa.out.trans HB6.out) hst (fun q hq => by rw [hq, ← HPE.out]; exact Nat.le_refl _) (HUa.out.trans HB6.out).size)
      have HN7 := Lib.hid (show N6 ≤ 140737488351232 by have := HN6.out; omega)
      have HWA := Lib.hid (show w.heap.size ≤ wa.heap.size by have := hu.out.size; have := HUa.out.size; omega)
      have HRW := Lib.hid (show wr.heap.size ≤ wa.heap.size from HUa.out.size)
      clear z2 z6 y6 hc6 HCB
      generalize w6.setCell ⟨pb, 2, none⟩ (.slice A6 N6 c6) = w7 at hst HC7 HO7 HU7 ⊢
      have HL7 := Lib.hid (hL.out.up HU7.out)
      have HXC := Lib.hid (show OwnC w.heap.size NoX w7 ⟨x.ty, x.fl, A6, N6, c6, x.bs⟩ from ⟨HO7.out.base (Nat.zero_le _), HC.out.inb.byt, HC.out.ty, HC.out.fl, HN7.out, fun q hq => ⟨by have := (row_lt HO7.out hq).1; have := HWA.out; omega, fun h => h.elim⟩⟩)
      have HXA := Lib.hid (show ∀ q, blk? A6 = some q → blk? A1 ≠ some q from fun q hq e => by have h1 := (row_lt HO7.out hq).1; have h2 := hL.out.row.lt e; have := HRW.out; omega)
      have y0 := cell_of HC7.out (j := 0) rfl
      have y1 := cell_of HC7.out (j := 1) rfl
      have y2 := cell_of HC7.out (j := 2) rfl
      have HCL := Lib.hid (show Cells (w7.alloc (.cells #[.int .u8 x.ty, .int .u8 x.fl, .slice A6 N6 c6] 41)) (some ⟨w7.heap.size, 0, none⟩) (rowc [⟨x.ty, x.fl, A6, N6, c6, x.bs⟩]) from fun _ => ⟨w7.heap.size, 0, rfl, lt_of_blk (new_at w7 _), fun j u hu => cell_of (new_at w7 _) (by rw [Nat.zero_add]; simpa [rowc, chc] using hu)⟩)
      have HUA := Lib.hid (up_alloc w7 (.cells #[.int .u8 x.ty, .int .u8 x.fl, .slice A6 N6 c6] 41))
      clear hst HO6 HW6 HB6
      go_wp2_with (at_builtin; refine wpList_appendG rfl (.tmp 25) (.tmp 27) 22 rfl 0 41 (.agg #[.int .u8 0, .int .u8 0, .slice none 0 0]) 3 32 Try.underlying22 info41 rfl (by decide) A1 k c1 (rowc out) rfl (HL7.out.up HUA.out).row.own (some ⟨w7.heap.size, 0, none⟩) 1 1 (rowc [⟨x.ty, x.fl, A6, N6, c6, x.bs⟩]) rfl (by simp [rowc, chc]) HCL.out (rowc_one _) (by omega) (by omega) (Nat.zero_le _) ?_; intro A' N' c' w' HN HW HO HB)
      have HV := Lib.hid (show Up w _ from (hu.out.trans HU7.out).trans HUA.out)
      have HL9 := Lib.hid ((HL7.out.up HUA.out).push (HXC.out.out (HUA.out.out No) (fun _ _ h => h)) HXA.out HN.out HW.out HO.out HB.out (fun q hq => hq.elim) HV.out.size)
      have HV9 := Lib.hid (show Up w w' from Below.out HV.out HO.out (fun q hq => ((HL7.out.up HUA.out).row.blk q hq).1) HV.out.size)
      have hNk : N' = k + 1 := HN.out
      subst hNk
      go_roundw
      case rel => exact ⟨k + 1, A', c', out ++ [⟨x.ty, x.fl, A6, N6, c6, x.bs⟩], by omega, by omega, by go_num, rfl, HL9, Lib.hid (by rw [HXE.out, List.map_append, hE.out]; rfl), HV9⟩
      case measure => simp [intOf]; omega
    · have HTK := Lib.hid (show (l.map ChB.pure).take k = (l.map ChB.pure).take 100 by
        by_cases h : k = 100
        · rw [h]
        · have h2 : k = n := by omega
          rw [List.take_of_length_le (by rw [HLT.out]; omega), List.take_of_length_le (by rw [HLT.out]; omega)])
      by_cases h : k < n
      · have d1 : decide ((k : Int) < (n : Int)) = true := by simp; omega
        have d2 : decide ((k : Int) < 100) = false := by simp; omega
        go_wp2_with fail
        go_ret
        exact ⟨A1, k, c1, out, rfl, hL, Lib.hid (by rw [hE.out, HTK.out]), Lib.hid hk1, hu⟩
      · have d1 : decide ((k : Int) < (n : Int)) = false := by simp; omega
        go_wp2_with fail
        go_ret
        exact ⟨A1, k, c1, out, rfl, hL, Lib.hid (by rw [hE.out, HTK.out]), Lib.hid hk1, hu⟩
end Go.Proofs.Ytgikgcepeniekaa
namespace Go.Proofs.Ytgikgcepeniekaa
open Go Go.RowKit
set_option linter.unusedVariables false
set_option linter.unusedSimpArgs false
theorem bs_ch (w : World) : (Instr.buildSlice 22 1 #[(0, .agg #[.int .u8 11, .int .u8 0, .slice none 0 0])]).run Try.prog w = .ok (.slice (some ⟨w.heap.size, 0, none⟩) 1 1) (w.alloc (.cells #[.int .u8 11, .int .u8 0, .slice none 0 0] 41)) := by kernel_rfl
theorem enc11 : encL [⟨11, 0, []⟩] = [11, 0, 0, 4] := by decide
theorem str11 : strOfNums [11, 0, 0, 4] = ⟨#[11, 0, 0, 4]⟩ := by decide
set_option maxRecDepth 100000 in
theorem answers_ok (w : World) : Calls Try.prog 13 #[] w (RetB true w) := by
  have H := Lib.hid (show InL (w.alloc (.cells #[.int .u8 11, .int .u8 0, .slice none 0 0] 41)) (some ⟨w.heap.size, 0, none⟩) 1 1 [⟨11, 0, none, 0, 0, []⟩] from ⟨fun _ => ⟨w.heap.size, 0, rfl, lt_of_blk (new_at w _), fun j u hu => cell_of (new_at w _) (by rw [Nat.zero_add]; simpa [rowc, chc] using hu)⟩, (fun x hx => by rw [List.mem_singleton] at hx; subst hx; exact ⟨inB_nil _, by decide, by decide, by decide⟩), Nat.le_refl _, rfl⟩)
  have HU := Lib.hid (up_alloc w (.cells #[.int .u8 11, .int .u8 0, .slice none 0 0] 41))
  go_enter Try.func13, Try.ntmps13
  go_wp2_with fail
  refine (put_any' (some ⟨w.heap.size, 0, none⟩) 1 1 [⟨11, 0, none, 0, 0, []⟩] _ H.out (by omega)).mono ?_
  rintro e w1 ⟨ys, k, A, N, c, rfl, hr, hN, hO, hu⟩
  have hk : k = 0 ∧ ys = [11, 0, 0, 4] := by
    have e1 : encL (List.map ChB.pure [⟨11, 0, none, 0, 0, []⟩]) = [11, 0, 0, 4] := enc11
    rcases hr.out with ⟨h1, h2, -⟩ | ⟨-, -, h3⟩
    · exact ⟨h1, by rw [h2, e1]⟩
    · exact absurd ⟨by simp, by rw [e1]; simp⟩ h3
  obtain ⟨rfl, rfl⟩ := hk
  have hcv := conv_up (own_inB hO.out (by intro x hx; simp at hx; omega)) (Up.refl w1)
  rw [str11] at hcv
  clear hr
  go_wp2_with fail
  go_ret
  exact ⟨rfl, Lib.hid (HU.out.trans hu.out)⟩
end Go.Proofs.Ytgikgcepeniekaa
