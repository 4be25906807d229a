import Derived.Test.YtjdcglioppbfhaaCk22
import Derived.Test.YtjdcglioppbfhaaCk17
import Derived.Test.YtjdcglioppbfhaaCk31
import Derived.Test.YtjdcglioppbfhaaCk53
import Derived.Test.YtjdcglioppbfhaaPk9
namespace Go.Proofs.Ytjdcglioppbfhaa
open Go Go.RowKit
set_option linter.unusedVariables false
set_option linter.unusedSimpArgs false
theorem up_of_new {w w6 : World} {o : Obj} (HX : Out (fun k => blk? (some ⟨w.heap.size, 0, none⟩) = some k) (w.alloc o) w6) : Up w w6 := Below.out (up_alloc w o) HX (fun q hq => by
  have e : w.heap.size = q := by simpa [blk?] using hq
  omega) (by simp)
/-- A row without elements. -/
theorem own_new (E : TypeId) (s : Nat) (w : World) (B : Nat) (hB : B ≤ w.heap.size) : (w.alloc (.cells #[] E)).ownsRow B E s (.slice (some ⟨w.heap.size, 0, none⟩) 0 0) 0 [] :=
  ⟨by simp, .inr ⟨w.heap.size, 0, #[], rfl, hB, heap_alloc_new w _, Nat.le_refl _, Nat.zero_le _, by simp, by simp⟩⟩
end Go.Proofs.Ytjdcglioppbfhaa
namespace Go.Proofs.Ytjdcglioppbfhaa
open Go Go.RowKit
set_option linter.unusedVariables false
set_option linter.unusedSimpArgs false
/-! The laws' own copies. -/
def OwnPk (f t g : Int) (l : List Ck.Chk) (w : World) (e : Ending) (w' : World) : Prop := ∃ A n c out, e = .returned (pkV f t g (.slice A n c)) ∧ Hid (GL w.heap.size No w' A n c out) ∧ Hid (out.map ChB.pure = l.take 100) ∧ Hid (n ≤ 100) ∧ Hid (Up w w')
set_option maxRecDepth 100000 in
set_option maxHeartbeats 2000000 in
theorem ownp_any (A : Option Addr) (n cap : Nat) (l : List ChB) (f t g : Int) (w : World) (h : InL w A n cap l) (hn : n ≤ 140737488351232) : Calls Try.prog 12 #[pkV f t g (.slice A n cap)] w (OwnPk f t g (l.map ChB.pure) w) := by
  have H := Lib.hid h
  have HLT := Lib.hid (show (l.map ChB.pure).length = n by simp [h.len])
  have hcap := h.cap
  clear h
  unfold pkV pkC
  obtain ⟨W, hW⟩ : ∃ W, W = (w.alloc (.cells #[.int .u16 f, .int .u16 t, .int .u32 g, .slice A n cap] 27)).alloc (.cells #[.int .u16 0, .int .u16 0, .int .u32 0, .slice none 0 0] 27) := ⟨_, rfl⟩
  have u1 := up_alloc w (.cells #[.int .u16 f, .int .u16 t, .int .u32 g, .slice A n cap] 27)
  have a1 := new_at w (.cells #[.int .u16 f, .int .u16 t, .int .u32 g, .slice A n cap] 27)
  have u2 := up_alloc (w.alloc (.cells #[.int .u16 f, .int .u16 t, .int .u32 g, .slice A n cap] 27)) (.cells #[.int .u16 0, .int .u16 0, .int .u32 0, .slice none 0 0] 27)
  have a2 := new_at (w.alloc (.cells #[.int .u16 f, .int .u16 t, .int .u32 g, .slice A n cap] 27)) (.cells #[.int .u16 0, .int .u16 0, .int .u32 0, .slice none 0 0] 27)
  have b1 := (u2.block _ (lt_of_blk a1)).trans a1
  have s1 : (w.alloc (.cells #[.int .u16 f, .int .u16 t, .int .u32 g, .slice A n cap] 27)).heap.size = w.heap.size + 1 := by simp
  rw [s1] at a2
  have HU := Lib.hid (u1.trans u2)
  rw [← hW] at a2 b1 HU
  have HW := Lib.hid hW
  have HQ := Lib.hid a2
  have HB := Lib.hid b1
  clear u1 a1 u2 a2 b1 s1 hW
  go_enter Try.func12, Try.ntmps12
  go_upto_region 1 with (fail)
  rw [← HW.out]
  obtain ⟨q0, hq0⟩ : ∃ q0, q0 = w.heap.size := ⟨_, rfl⟩
  rw [← hq0] at HQ HB ⊢
  have HQ0 := Lib.hid hq0
  clear HW hq0
  go_wp2_with fail
  go_loopw [3, 4] (fun v i wr => ∃ (k : Nat) (A1 : Option Addr) (c1 : Nat) (out : List ChB), k ≤ n ∧ k ≤ 100 ∧ i = .int .i64 (k : Int) ∧ v = .slice A1 k c1 ∧ Hid (GL W.heap.size No wr A1 k c1 out) ∧ Hid (out.map ChB.pure = (l.map ChB.pure).take k) ∧ Hid (Up W wr)) (fun _ i _ => 100 - (intOf i).toNat)
  case atStart => exact ⟨0, none, 0, [], Nat.zero_le _, Nat.zero_le _, rfl, rfl, Lib.hid (gl_nil _ _ _), Lib.hid rfl, Lib.hid (Up.refl _)⟩
  case round =>
    obtain ⟨k, A1, c1, out, hk, hk1, rfl, rfl, hL, hE, hu⟩ := hrel
    have HBr := Lib.hid ((hu.out.block _ (lt_of_blk HB.out)).trans HB.out)
    have HQr := Lib.hid ((hu.out.block _ (lt_of_blk HQ.out)).trans HQ.out)
    have p3 : wr.cell? ⟨q0, 3, none⟩ = some (.slice A n cap) := cell_of HBr.out rfl
    by_cases hlt : k < n ∧ k < 100
    · obtain ⟨hkn, hk100⟩ := hlt
      have d1 : decide ((k : Int) < (n : Int)) = true := by simp; omega
      have d2 : decide ((k : Int) < 100) = true := by simp; omega
      obtain ⟨x, ga, o, hx, rfl, k0, k1, k2, hci⟩ := ((H.out.up HU.out).up hu.out).at_ hkn
      have HXE := Lib.hid (show (l.map ChB.pure).take (k + 1) = (l.map ChB.pure).take k ++ [x.pure] by
        have h2 : (l.map ChB.pure)[k]? = some x.pure := by simp [hx]
        obtain ⟨hl, he⟩ := List.getElem?_eq_some_iff.1 h2
        rw [List.take_succ_eq_append_getElem hl, he])
      have HC := Lib.hid hci
      have hxn := hci.n
      clear hx hci
      have HCB := Lib.hid (new_at wr (.cells #[.int .u8 x.ty, .int .u8 x.fl, .slice x.A x.n x.c] 43))
      have HUa := Lib.hid (up_alloc wr (.cells #[.int .u8 x.ty, .int .u8 x.fl, .slice x.A x.n x.c] 43))
      have HPB := Lib.hid (lt_of_blk HCB.out)
      go_upto_region 6 with (fail)
      generalize wr.alloc (.cells #[.int .u8 x.ty, .int .u8 x.fl, .slice x.A x.n x.c] 43) = wa at HCB HUa HPB ⊢
      have HPW := Lib.hid (show wr.heap.size ≤ wr.heap.size from Nat.le_refl _)
      generalize hpb : wr.heap.size = pb at HCB HPB HPW ⊢
      have HPE := Lib.hid hpb
      clear k0 k1 k2 hpb HPW p3
      have z2 : wa.cell? ⟨pb, 2, none⟩ = some (.slice x.A x.n x.c) := cell_of HCB.out (j := 2) rfl
      have HIN := Lib.hid (HC.out.inb.up HUa.out)
      have hpw : pb < wa.heap.size := HPB.out
      go_upto_region 7 with (at_builtin; refine wpList_appendI rfl (.tmp 22) (.tmp 24) 22 rfl .u8 wa.heap.size 5 1 Try.underlying22 info5 (some ⟨wa.heap.size, 0, none⟩) 0 0 [] rfl (ownI_new _ _ _) x.A x.n x.c x.bs rfl HIN.out.len (HIN.out.cells.alloc _) (by omega) (by omega) (by simp) ((Below.refl _ _).alloc (Nat.le_refl _) _) ?_; intro A6 N6 c6 w6 HN6 HW6 HB6 hsz6; have hc6 := (HB6.out.block _ HPB.out).trans HCB.out; have z6 := cell_of hc6 (j := 2) rfl; have y6 := frozen_at (j := 2) hc6)
      have hst := setCell_out w6 pb 2 (.slice A6 N6 c6)
      have HC7 := Lib.hid (show (w6.setCell ⟨pb, 2, none⟩ (.slice A6 N6 c6)).heap[pb]? = some (.cells #[.int .u8 x.ty, .int .u8 x.fl, .slice A6 N6 c6] 43 (0, 0)) from (setCell_at (j := 2) (.slice A6 N6 c6) hc6).trans rfl)
      have HO6 := Lib.hid (show OwnI .u8 5 wa.heap.size w6 A6 N6 c6 x.bs by have := HW6.out; rw [List.nil_append] at this; exact this)
      have HO7 := Lib.hid (show OwnI .u8 5 wa.heap.size (w6.setCell ⟨pb, 2, none⟩ (.slice A6 N6 c6)) A6 N6 c6 x.bs from hst.own HO6.out (fun q hq e => by have h1 := (row_lt HO6.out (by rwa [ownBlock_slice] at hq)).1; have e1 : q = pb := e; omega))
      have HU7 := Lib.hid (show Up wr (w6.setCell ⟨pb, 2, none⟩ (.slice A6 N6 c6)) from Below.out (HUa.out.trans HB6.out) hst (fun q hq => by rw [hq, ← HPE.out]; exact Nat.le_refl _) (HUa.out.trans HB6.out).size)
      have HN7 := Lib.hid (show N6 ≤ 140737488351232 by have := HN6.out; omega)
      have HWA := Lib.hid (show W.heap.size ≤ wa.heap.size by have := hu.out.size; have := HUa.out.size; omega)
      have HRW := Lib.hid (show wr.heap.size ≤ wa.heap.size from HUa.out.size)
      clear z2 z6 y6 hc6 HCB
      generalize w6.setCell ⟨pb, 2, none⟩ (.slice A6 N6 c6) = w7 at hst HC7 HO7 HU7 ⊢
      have HL7 := Lib.hid (hL.out.up HU7.out)
      have HXC := Lib.hid (show OwnC W.heap.size No w7 ⟨x.ty, x.fl, A6, N6, c6, x.bs⟩ from ⟨HO7.out.base (Nat.zero_le _), HC.out.inb.byt, HC.out.ty, HC.out.fl, HN7.out, fun q hq => ⟨by have := (row_lt HO7.out hq).1; have := HWA.out; omega, fun h => h.elim⟩⟩)
      have HXA := Lib.hid (show ∀ q, blk? A6 = some q → blk? A1 ≠ some q from fun q hq e => by have h1 := (row_lt HO7.out hq).1; have h2 := hL.out.row.lt e; have := HRW.out; omega)
      have y0 : w7.cell? ⟨pb, 0, none⟩ = some (.int .u8 x.ty) := cell_of HC7.out (j := 0) rfl
      have y1 : w7.cell? ⟨pb, 1, none⟩ = some (.int .u8 x.fl) := cell_of HC7.out (j := 1) rfl
      have y2 : w7.cell? ⟨pb, 2, none⟩ = some (.slice A6 N6 c6) := cell_of HC7.out (j := 2) rfl
      have HCL := Lib.hid (show Cells (w7.alloc (.cells #[.int .u8 x.ty, .int .u8 x.fl, .slice A6 N6 c6] 43)) (some ⟨w7.heap.size, 0, none⟩) (rowc [⟨x.ty, x.fl, A6, N6, c6, x.bs⟩]) from fun _ => ⟨w7.heap.size, 0, rfl, lt_of_blk (new_at w7 _), fun j u hu => cell_of (new_at w7 _) (by rw [Nat.zero_add]; simpa [rowc, chc] using hu)⟩)
      have HUA := Lib.hid (up_alloc w7 (.cells #[.int .u8 x.ty, .int .u8 x.fl, .slice A6 N6 c6] 43))
      clear hst HO6 HW6 HB6
      go_wp2_with (at_builtin; refine wpList_appendG rfl (.tmp 27) (.tmp 29) 25 rfl 0 43 (.agg #[.int .u8 0, .int .u8 0, .slice none 0 0]) 3 32 Try.underlying25 info41 rfl (by decide) A1 k c1 (rowc out) rfl (HL7.out.up HUA.out).row.own (some ⟨w7.heap.size, 0, none⟩) 1 1 (rowc [⟨x.ty, x.fl, A6, N6, c6, x.bs⟩]) rfl (by simp [rowc, chc]) HCL.out (rowc_one _) (by omega) (by omega) (Nat.zero_le _) ?_; intro A' N' c' w' HN HW HO HB)
      have HV := Lib.hid (show Up W _ from (hu.out.trans HU7.out).trans HUA.out)
      have HL9 := Lib.hid ((HL7.out.up HUA.out).push (HXC.out.out (HUA.out.out No) (fun _ _ h => h)) HXA.out HN.out HW.out HO.out HB.out (fun q hq => hq.elim) HV.out.size)
      have HV9 := Lib.hid (show Up W w' from Below.out HV.out HO.out (fun q hq => ((HL7.out.up HUA.out).row.blk q hq).1) HV.out.size)
      have hNk : N' = k + 1 := HN.out
      subst hNk
      go_roundw
      case rel => exact ⟨k + 1, A', c', out ++ [⟨x.ty, x.fl, A6, N6, c6, x.bs⟩], by omega, by omega, by go_num, rfl, HL9, Lib.hid (by rw [HXE.out, List.map_append, hE.out]; rfl), HV9⟩
      case measure => simp [intOf]; omega
    · have HTK := Lib.hid (show (l.map ChB.pure).take k = (l.map ChB.pure).take 100 by
        by_cases h : k = 100
        · rw [h]
        · have h2 : k = n := by omega
          rw [List.take_of_length_le (by rw [HLT.out]; omega), List.take_of_length_le (by rw [HLT.out]; omega)])
      have HUr := Lib.hid (HU.out.trans hu.out)
      have HSZ := Lib.hid (show q0 + 1 < W.heap.size from lt_of_blk HQ.out)
      have g3 := frozen_at (j := 3) HBr.out
      by_cases h : k < n
      · have d1 : decide ((k : Int) < (n : Int)) = true := by simp; omega
        have d2 : decide ((k : Int) < 100) = false := by simp; omega
        go_upto_region 9 with (fail)
        have HB8 := Lib.hid (show (wr.setCell ⟨q0, 3, none⟩ (.slice A1 k c1)).heap[q0]? = some (.cells #[.int .u16 f, .int .u16 t, .int .u32 g, .slice A1 k c1] 27 (0, 0)) from (setCell_at (j := 3) (.slice A1 k c1) HBr.out).trans rfl)
        have ho8 := setCell_out wr q0 3 (.slice A1 k c1)
        have HQ8 := Lib.hid (ho8.blk HQr.out (by omega))
        have HL8 := Lib.hid (hL.out.outS ho8 (fun q hq => by have := HSZ.out; rw [hq]; omega))
        have HU8 := Lib.hid (show Up w _ from Below.out HUr.out ho8 (fun q hq => by rw [hq, HQ0.out]; exact Nat.le_refl _) HUr.out.size)
        clear ho8 p3 g3
        generalize wr.setCell ⟨q0, 3, none⟩ (.slice A1 k c1) = w8 at HB8 HQ8 HL8 HU8 ⊢
        have z0 : w8.cell? ⟨q0, 0, none⟩ = some (.int .u16 f) := cell_of HB8.out rfl
        have z1 : w8.cell? ⟨q0, 1, none⟩ = some (.int .u16 t) := cell_of HB8.out rfl
        have z2 : w8.cell? ⟨q0, 2, none⟩ = some (.int .u32 g) := cell_of HB8.out rfl
        have z3 : w8.cell? ⟨q0, 3, none⟩ = some (.slice A1 k c1) := cell_of HB8.out rfl
        have e0 : w8.cell? ⟨q0 + 1, 0, none⟩ = some (.int .u16 0) := cell_of HQ8.out rfl
        have e1 : w8.cell? ⟨q0 + 1, 1, none⟩ = some (.int .u16 0) := cell_of HQ8.out rfl
        have e2 : w8.cell? ⟨q0 + 1, 2, none⟩ = some (.int .u32 0) := cell_of HQ8.out rfl
        have e3 : w8.cell? ⟨q0 + 1, 3, none⟩ = some (.slice none 0 0) := cell_of HQ8.out rfl
        have f0 := frozen_at (j := 0) HQ8.out
        have f1 := frozen_at (j := 1) HQ8.out
        have f2 := frozen_at (j := 2) HQ8.out
        have f3 := frozen_at (j := 3) HQ8.out
        go_wp2_with fail
        have hs := set4 (a := .int .u16 f) (b := .int .u16 t) (c := .int .u32 g) (d := .slice A1 k c1) HQ8.out rfl
        refine bodyPost_ret (v := pkV f t g (.slice A1 k c1)) (results_cell_row rfl _ _ (q0 + 1) 27 _ (0, 0) _ rfl hs.1 Try.underlying27 rfl rfl) rfl ?_
        exact ⟨A1, k, c1, out, rfl, Lib.hid ((HL8.out.outS hs.2 (fun q hq => by have := HSZ.out; rw [hq]; omega)).weak HU.out.size), Lib.hid (by rw [hE.out, HTK.out]), Lib.hid hk1, Lib.hid (Below.out HU8.out hs.2 (fun q hq => by rw [hq, ← HQ0.out]; omega) HU8.out.size)⟩
      · have d1 : decide ((k : Int) < (n : Int)) = false := by simp; omega
        go_upto_region 9 with (fail)
        have HB8 := Lib.hid (show (wr.setCell ⟨q0, 3, none⟩ (.slice A1 k c1)).heap[q0]? = some (.cells #[.int .u16 f, .int .u16 t, .int .u32 g, .slice A1 k c1] 27 (0, 0)) from (setCell_at (j := 3) (.slice A1 k c1) HBr.out).trans rfl)
        have ho8 := setCell_out wr q0 3 (.slice A1 k c1)
        have HQ8 := Lib.hid (ho8.blk HQr.out (by omega))
        have HL8 := Lib.hid (hL.out.outS ho8 (fun q hq => by have := HSZ.out; rw [hq]; omega))
        have HU8 := Lib.hid (show Up w _ from Below.out HUr.out ho8 (fun q hq => by rw [hq, HQ0.out]; exact Nat.le_refl _) HUr.out.size)
        clear ho8 p3 g3
        generalize wr.setCell ⟨q0, 3, none⟩ (.slice A1 k c1) = w8 at HB8 HQ8 HL8 HU8 ⊢
        have z0 : w8.cell? ⟨q0, 0, none⟩ = some (.int .u16 f) := cell_of HB8.out rfl
        have z1 : w8.cell? ⟨q0, 1, none⟩ = some (.int .u16 t) := cell_of HB8.out rfl
        have z2 : w8.cell? ⟨q0, 2, none⟩ = some (.int .u32 g) := cell_of HB8.out rfl
        have z3 : w8.cell? ⟨q0, 3, none⟩ = some (.slice A1 k c1) := cell_of HB8.out rfl
        have e0 : w8.cell? ⟨q0 + 1, 0, none⟩ = some (.int .u16 0) := cell_of HQ8.out rfl
        have e1 : w8.cell? ⟨q0 + 1, 1, none⟩ = some (.int .u16 0) := cell_of HQ8.out rfl
        have e2 : w8.cell? ⟨q0 + 1, 2, none⟩ = some (.int .u32 0) := cell_of HQ8.out rfl
        have e3 : w8.cell? ⟨q0 + 1, 3, none⟩ = some (.slice none 0 0) := cell_of HQ8.out rfl
        have f0 := frozen_at (j := 0) HQ8.out
        have f1 := frozen_at (j := 1) HQ8.out
        have f2 := frozen_at (j := 2) HQ8.out
        have f3 := frozen_at (j := 3) HQ8.out
        go_wp2_with fail
        have hs := set4 (a := .int .u16 f) (b := .int .u16 t) (c := .int .u32 g) (d := .slice A1 k c1) HQ8.out rfl
        refine bodyPost_ret (v := pkV f t g (.slice A1 k c1)) (results_cell_row rfl _ _ (q0 + 1) 27 _ (0, 0) _ rfl hs.1 Try.underlying27 rfl rfl) rfl ?_
        exact ⟨A1, k, c1, out, rfl, Lib.hid ((HL8.out.outS hs.2 (fun q hq => by have := HSZ.out; rw [hq]; omega)).weak HU.out.size), Lib.hid (by rw [hE.out, HTK.out]), Lib.hid hk1, Lib.hid (Below.out HU8.out hs.2 (fun q hq => by rw [hq, ← HQ0.out]; omega) HU8.out.size)⟩
end Go.Proofs.Ytjdcglioppbfhaa
namespace Go.Proofs.Ytjdcglioppbfhaa
open Go Go.RowKit
set_option linter.unusedVariables false
set_option linter.unusedSimpArgs false
/-! What a program that does nothing does not answer; the law PacketGets. -/
theorem bs_ch (w : World) : (Instr.buildSlice 25 1 #[(0, .agg #[.int .u8 11, .int .u8 0, .slice none 0 0])]).run Try.prog w = .ok (.slice (some ⟨w.heap.size, 0, none⟩) 1 1) (w.alloc (.cells #[.int .u8 11, .int .u8 0, .slice none 0 0] 43)) := by kernel_rfl
theorem enc11 : encL [⟨11, 0, []⟩] = [11, 0, 0, 4] := by decide
theorem in_one (w : World) (k : Int) (hk : 0 ≤ k ∧ k < 256) : InL (w.alloc (.cells #[.int .u8 k, .int .u8 0, .slice none 0 0] 43)) (some ⟨w.heap.size, 0, none⟩) 1 1 [⟨k, 0, none, 0, 0, []⟩] :=
  ⟨fun _ => ⟨w.heap.size, 0, rfl, lt_of_blk (new_at w _), fun j u hu => cell_of (new_at w _) (by rw [Nat.zero_add]; simpa [rowc, chc] using hu)⟩, (fun x hx => by rw [List.mem_singleton] at hx; subst hx; exact ⟨inB_nil _, hk, ⟨Int.le_refl _, show (0 : Int) < 256 by decide⟩, Nat.zero_le _⟩), Nat.le_refl _, rfl⟩
set_option maxRecDepth 100000 in
theorem answers_ok (w : World) : Calls Try.prog 9 #[] w (RetB true w) := by
  have H := Lib.hid (in_one w 11 (by decide))
  have HU := Lib.hid (up_alloc w (.cells #[.int .u8 11, .int .u8 0, .slice none 0 0] 43))
  go_enter Try.func9, Try.ntmps9
  go_wp2_with fail
  refine (pput_any (some ⟨w.heap.size, 0, none⟩) 1 1 [⟨11, 0, none, 0, 0, []⟩] 1 2 3 _ H.out (by omega) ⟨by decide, by decide, by decide⟩).mono ?_
  rintro e w1 ⟨ys, k, A, N, c, rfl, hr, hN, hO, hu⟩
  have hk : k = 0 ∧ ys.length = 16 := by
    rcases hr.out with ⟨h1, h2, -⟩ | ⟨-, -, h3, -⟩
    · refine ⟨h1, ?_⟩
      rw [h2, enc_length]
      show 12 + (encL [⟨11, 0, []⟩]).length = 16
      rw [enc11]; rfl
    · refine absurd ⟨by decide, by decide, ?_⟩ h3
      show (encL [⟨11, 0, []⟩]).length + 12 ≤ 4096
      rw [enc11]; decide
  obtain ⟨rfl, hl⟩ := hk
  have hN16 : N = 16 := by rw [hN.out]; exact hl
  subst hN16
  clear hr hN hO hl
  go_wp2_with fail
  go_ret
  exact ⟨rfl, Lib.hid (HU.out.trans hu.out)⟩
set_option maxRecDepth 1000000 in
set_option maxHeartbeats 4000000 in
theorem law_gets (A : Option Addr) (m c : Nat) (xs : List Int) (w : World) (hin : InB w A m c xs) (hm : m ≤ 140737488351232) : Calls Try.prog 3 #[.slice A m c] w (RetB true w) := by
  have HI := Lib.hid hin
  clear hin
  go_enter Try.func3, Try.ntmps3
  go_wp2_with (at_builtin; refine wpList_appendI rfl (.tmp 8) (.tmp 9) 22 rfl .u8 w.heap.size 5 1 Try.underlying22 info5 (some ⟨w.heap.size, 0, none⟩) 0 0 [] rfl (ownI_new _ _ _) A m c xs rfl HI.out.len (HI.out.cells.alloc _) (by omega) (by omega) (by simp) ((Below.refl _ _).alloc (Nat.le_refl _) _) ?_; intro A6 N6 c6 w6 HN6 HW6 HB6 hsz6)
  have HO6 := Lib.hid (show OwnI .u8 5 w.heap.size w6 A6 N6 c6 xs by have := HW6.out; rw [List.nil_append] at this; exact this)
  have U6 := Lib.hid (show Up w w6 from HB6.out)
  have HI6 := Lib.hid (own_inB HO6.out HI.out.byt)
  have hN6 : N6 ≤ 140737488351232 := by have := HN6.out; omega
  clear HW6 HB6 hsz6 HN6 HO6
  refine (pget_any A6 N6 c6 w6 HI6.out hN6).mono ?_
  rintro e w7 ⟨p, k, A1, n1, c1, l, rfl, hr, hL, hE, hn1, hok, hu⟩
  have HU7 := Lib.hid (U6.out.trans hu.out)
  have HR := Lib.hid hr.out
  clear hu hr HI6 U6
  unfold pkV pkC
  go_upto_region 2 with (fail)
  have HB8 := Lib.hid (new_at w7 (.cells #[.int .u16 p.src, .int .u16 p.dst, .int .u32 p.tag, .slice A1 n1 c1] 27))
  have HUa := Lib.hid (up_alloc w7 (.cells #[.int .u16 p.src, .int .u16 p.dst, .int .u32 p.tag, .slice A1 n1 c1] 27))
  generalize w7.alloc (.cells #[.int .u16 p.src, .int .u16 p.dst, .int .u32 p.tag, .slice A1 n1 c1] 27) = w8 at HB8 HUa ⊢
  generalize w7.heap.size = z1 at HB8 ⊢
  have HL8 := Lib.hid (hL.out.up HUa.out)
  have HU8 := Lib.hid (HU7.out.trans HUa.out)
  clear hL HUa HU7
  go_wp2_with fail
  refine (rgetp_any A m c w8 (HI.out.up HU8.out) hm).mono ?_
  rintro e w9 ⟨p', k', A2, n2, c2, l', rfl, hr', hL', hE', hn2, hok', hu'⟩
  obtain ⟨rfl, rfl⟩ := pgRes_inj HR.out hr'.out
  have HU9 := Lib.hid (HU8.out.trans hu'.out)
  have HB9 := Lib.hid ((hu'.out.block _ (lt_of_blk HB8.out)).trans HB8.out)
  have HL9 := Lib.hid (HL8.out.up hu'.out)
  clear hu' hr' HR HB8 HL8 HU8
  unfold pkV pkC
  go_upto_region 3 with (fail)
  have HBx := Lib.hid (new_at w9 (.cells #[.int .u16 p.src, .int .u16 p.dst, .int .u32 p.tag, .slice A2 n2 c2] 27))
  have HUa := Lib.hid (up_alloc w9 (.cells #[.int .u16 p.src, .int .u16 p.dst, .int .u32 p.tag, .slice A2 n2 c2] 27))
  generalize w9.alloc (.cells #[.int .u16 p.src, .int .u16 p.dst, .int .u32 p.tag, .slice A2 n2 c2] 27) = wx at HBx HUa ⊢
  generalize w9.heap.size = z2 at HBx ⊢
  have HUx := Lib.hid (HU9.out.trans HUa.out)
  have HBy := Lib.hid ((HUa.out.block _ (lt_of_blk HB9.out)).trans HB9.out)
  have HLx := Lib.hid (HL9.out.up HUa.out)
  have HLy := Lib.hid (hL'.out.up HUa.out)
  clear HUa HB9 HL9 hL' HU9
  go_wp2_with fail
  refine (answers_ok wx).mono ?_
  rintro e wz ⟨rfl, huz⟩
  have HUz := Lib.hid (HUx.out.trans huz.out)
  have HB1 := Lib.hid ((huz.out.block _ (lt_of_blk HBy.out)).trans HBy.out)
  have HB2 := Lib.hid ((huz.out.block _ (lt_of_blk HBx.out)).trans HBx.out)
  have HLz := Lib.hid (HLx.out.up huz.out)
  have HLw := Lib.hid (HLy.out.up huz.out)
  clear huz HUx HBx HBy HLx HLy
  have a0 : wz.cell? ⟨z1, 0, none⟩ = some (.int .u16 p.src) := cell_of HB1.out rfl
  have a1 : wz.cell? ⟨z1, 1, none⟩ = some (.int .u16 p.dst) := cell_of HB1.out rfl
  have a2 : wz.cell? ⟨z1, 2, none⟩ = some (.int .u32 p.tag) := cell_of HB1.out rfl
  have a3 : wz.cell? ⟨z1, 3, none⟩ = some (.slice A1 n1 c1) := cell_of HB1.out rfl
  have b0 : wz.cell? ⟨z2, 0, none⟩ = some (.int .u16 p.src) := cell_of HB2.out rfl
  have b1 : wz.cell? ⟨z2, 1, none⟩ = some (.int .u16 p.dst) := cell_of HB2.out rfl
  have b2 : wz.cell? ⟨z2, 2, none⟩ = some (.int .u32 p.tag) := cell_of HB2.out rfl
  have b3 : wz.cell? ⟨z2, 3, none⟩ = some (.slice A2 n2 c2) := cell_of HB2.out rfl
  have HEQ := Lib.hid (samePB_eq (show ChB.pkt l p.src p.dst p.tag = ChB.pkt l' p.src p.dst p.tag by unfold ChB.pkt; rw [hE.out, hE'.out]))
  have hn1' : n1 ≤ 140737488351232 := by have := hn1.out; omega
  have hn2' : n2 ≤ 140737488351232 := by have := hn2.out; omega
  go_wp2_with fail
  refine (samePk l l' A1 A2 n1 c1 n2 c2 p.src p.dst p.tag p.src p.dst p.tag wz HLz.out.inL HLw.out.inL hn1' hn2').mono ?_
  rintro e wv ⟨rfl, huv⟩
  rw [HEQ.out]
  have HUv := Lib.hid (HUz.out.trans huv.out)
  go_wp2_with fail
  go_ret
  exact ⟨by simp, HUv⟩
end Go.Proofs.Ytjdcglioppbfhaa
