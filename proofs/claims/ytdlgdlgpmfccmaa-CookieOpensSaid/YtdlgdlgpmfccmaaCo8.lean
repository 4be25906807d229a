import Derived.Test.YtdlgdlgpmfccmaaCo6
import Derived.Test.YtdlgdlgpmfccmaaCo7
namespace Go.Proofs.Ytdlgdlgpmfccmaa
open Go Go.RowKit
set_option linter.unusedVariables false
set_option linter.unusedSimpArgs false
/-! The law CookieOpens. -/
set_option maxRecDepth 100000 in
set_option maxHeartbeats 4000000 in
theorem law_opens (key : Int) (A : Option Addr) (m c : Nat) (xs : List Int) (w : World) (h : InB w A m c xs) (hm : m ≤ 140737488351232) : Calls Try.prog 4 #[.int .u64 key, .slice A m c] w (RetB true w) := by
  have H := Lib.hid h
  clear h
  go_enter Try.func4, Try.ntmps4
  go_wp2_with (at_builtin; refine wpList_appendI rfl (.tmp 11) (.tmp 12) 26 rfl .u8 w.heap.size 5 1 Try.underlying26 info5 (some ⟨w.heap.size, 0, none⟩) 0 0 [] rfl (ownI_new _ _ _) A m c xs rfl H.out.len (H.out.cells.alloc _) (by omega) (by omega) (by simp) ((Below.refl _ _).alloc (Nat.le_refl _) _) ?_; intro A1 N1 c1 w1 HN1 HW1 HB1 hsz1)
  have hN : N1 = m := by have := HN1.out; omega
  subst hN
  have HI1 := Lib.hid (show InB w1 A1 N1 c1 xs from own_inB (by have := HW1.out; rw [List.nil_append] at this; exact this) H.out.byt)
  have HU1 := Lib.hid (show Up w w1 from HB1.out)
  clear HN1 HW1 HB1 hsz1
  refine (open_any key A1 N1 c1 xs w1 HI1.out hm).mono ?_
  rintro e w2 ⟨he, hu⟩
  have HR := Lib.hid (ropen_any key A N1 c xs)
  unfold OpPost at HR
  generalize Cr.opn key xs = p at he HR
  obtain ⟨⟨t, a, b, c', d, e', f, g⟩, k⟩ := p
  subst he
  have HU2 := Lib.hid (HU1.out.trans hu.out)
  clear hu
  simp only [Cr.val, Cr.cells] at HR ⊢
  go_upto_region 2 with (fail)
  have HQ := Lib.hid (new_at w2 (.cells #[.int .i64 t, .int .u32 a, .int .u32 b, .int .u32 c', .int .u32 d, .int .u32 e', .int .u32 f, .int .u32 g] 25))
  have HU3 := Lib.hid (HU2.out.trans (up_alloc w2 (.cells #[.int .i64 t, .int .u32 a, .int .u32 b, .int .u32 c', .int .u32 d, .int .u32 e', .int .u32 f, .int .u32 g] 25)))
  generalize w2.alloc (.cells #[.int .i64 t, .int .u32 a, .int .u32 b, .int .u32 c', .int .u32 d, .int .u32 e', .int .u32 f, .int .u32 g] 25) = w3 at HQ HU3 ⊢
  generalize w2.heap.size = q at HQ ⊢
  go_wp2_with fail
  refine (HR.out w3 (H.out.up HU3.out) hm).mono ?_
  rintro e w4 ⟨rfl, hu⟩
  have HU4 := Lib.hid (HU3.out.trans hu.out)
  have HQ4 := Lib.hid ((hu.out.block _ (lt_of_blk HQ.out)).trans HQ.out)
  clear hu HR
  go_upto_region 3 with (fail)
  have HP5 := Lib.hid (new_at w4 (.cells #[.int .i64 t, .int .u32 a, .int .u32 b, .int .u32 c', .int .u32 d, .int .u32 e', .int .u32 f, .int .u32 g] 25))
  have HX5 := up_alloc w4 (.cells #[.int .i64 t, .int .u32 a, .int .u32 b, .int .u32 c', .int .u32 d, .int .u32 e', .int .u32 f, .int .u32 g] 25)
  have HU5 := Lib.hid (HU4.out.trans HX5)
  have HQ5 := Lib.hid ((HX5.block _ (lt_of_blk HQ4.out)).trans HQ4.out)
  clear HX5
  generalize w4.alloc (.cells #[.int .i64 t, .int .u32 a, .int .u32 b, .int .u32 c', .int .u32 d, .int .u32 e', .int .u32 f, .int .u32 g] 25) = w5 at HP5 HU5 HQ5 ⊢
  generalize w4.heap.size = p at HP5 ⊢
  go_wp2_with fail
  refine (answers_ok w5).mono ?_
  rintro e w6 ⟨rfl, hu⟩
  have HU6 := Lib.hid (HU5.out.trans hu.out)
  have HQ6 := Lib.hid ((hu.out.block _ (lt_of_blk HQ5.out)).trans HQ5.out)
  have HP6 := Lib.hid ((hu.out.block _ (lt_of_blk HP5.out)).trans HP5.out)
  clear hu
  have x0 : w6.cell? ⟨q, 0, none⟩ = some (.int .i64 t) := cell_of HQ6.out rfl
  have x1 : w6.cell? ⟨q, 1, none⟩ = some (.int .u32 a) := cell_of HQ6.out rfl
  have x2 : w6.cell? ⟨q, 2, none⟩ = some (.int .u32 b) := cell_of HQ6.out rfl
  have x3 : w6.cell? ⟨q, 3, none⟩ = some (.int .u32 c') := cell_of HQ6.out rfl
  have x4 : w6.cell? ⟨q, 4, none⟩ = some (.int .u32 d) := cell_of HQ6.out rfl
  have x5 : w6.cell? ⟨q, 5, none⟩ = some (.int .u32 e') := cell_of HQ6.out rfl
  have x6 : w6.cell? ⟨q, 6, none⟩ = some (.int .u32 f) := cell_of HQ6.out rfl
  have x7 : w6.cell? ⟨q, 7, none⟩ = some (.int .u32 g) := cell_of HQ6.out rfl
  have y0 : w6.cell? ⟨p, 0, none⟩ = some (.int .i64 t) := cell_of HP6.out rfl
  have y1 : w6.cell? ⟨p, 1, none⟩ = some (.int .u32 a) := cell_of HP6.out rfl
  have y2 : w6.cell? ⟨p, 2, none⟩ = some (.int .u32 b) := cell_of HP6.out rfl
  have y3 : w6.cell? ⟨p, 3, none⟩ = some (.int .u32 c') := cell_of HP6.out rfl
  have y4 : w6.cell? ⟨p, 4, none⟩ = some (.int .u32 d) := cell_of HP6.out rfl
  have y5 : w6.cell? ⟨p, 5, none⟩ = some (.int .u32 e') := cell_of HP6.out rfl
  have y6 : w6.cell? ⟨p, 6, none⟩ = some (.int .u32 f) := cell_of HP6.out rfl
  have y7 : w6.cell? ⟨p, 7, none⟩ = some (.int .u32 g) := cell_of HP6.out rfl
  go_wp2_with fail
  go_ret
  exact ⟨by simp, HU6⟩
end Go.Proofs.Ytdlgdlgpmfccmaa
