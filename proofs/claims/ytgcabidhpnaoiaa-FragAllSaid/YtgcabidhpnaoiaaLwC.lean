import Derived.Test.YtgcabidhpnaoiaaSmP
import Derived.Test.YtgcabidhpnaoiaaLwN
namespace Go.Proofs.Ytgcabidhpnaoiaa
open Go Go.RowKit Go.Shelf Fg
set_option linter.unusedVariables false
set_option linter.unusedSimpArgs false
/-! FragCuts. -/
namespace Fg
/-- What is to be cut, and where its bytes lie. -/
structure CtB where
  st : Nat
  bs : List Int
  un : Bool
  sz : Int
  A : Option Addr
  c : Nat
def ctc (x : CtB) : List Value := [.int .u16 x.st, .slice x.A x.bs.length x.c, .bool x.un, .int .i64 x.sz]
theorem ctc_len (x : CtB) : (ctc x).length = 4 := rfl
structure InC (w : World) (A : Option Addr) (n c : Nat) (l : List CtB) : Prop where
  cells : Cells w A (l.flatMap ctc)
  by_ : ∀ x ∈ l, InB w x.A x.bs.length x.c x.bs ∧ x.bs.length ≤ 140737488351232
  len : l.length = n
theorem InC.up {w w' : World} {A : Option Addr} {n c : Nat} {l : List CtB} (h : InC w A n c l) (hu : Up w w') : InC w' A n c l := ⟨h.cells.up hu, fun x hx => ⟨(h.by_ x hx).1.up hu, (h.by_ x hx).2⟩, h.len⟩
theorem InC.at_ {w : World} {A : Option Addr} {n c : Nat} {l : List CtB} (h : InC w A n c l) {k : Nat} (hk : k < n) : ∃ x g o, l[k]? = some x ∧ A = some ⟨g, o, none⟩ ∧ (∀ j v, (ctc x)[j]? = some v → w.cell? ⟨g, o + k * 4 + j, none⟩ = some v) ∧ InB w x.A x.bs.length x.c x.bs ∧ x.bs.length ≤ 140737488351232 := by
  have hkl : k < l.length := by rw [h.len]; exact hk
  obtain ⟨x, hx⟩ : ∃ x, l[k]? = some x := ⟨_, List.getElem?_eq_getElem hkl⟩
  obtain ⟨g, o, rfl, _, hc⟩ := h.cells (by intro e; have := congrArg List.length e; rw [rowG_length ctc 4 ctc_len] at this; simp at this; omega)
  refine ⟨x, g, o, hx, rfl, fun j v hv => ?_, h.by_ x (List.mem_of_getElem? hx)⟩
  have := hc (k * 4 + j) _ (rowG_at ctc 4 ctc_len hx hv)
  rwa [← Nat.add_assoc] at this
theorem own_inP {w : World} {B n c : Nat} {A : Option Addr} {l : List PcB} (hr : w.ownsRow B 51 7 (.slice A n c) n (l.flatMap pcc)) (hb : ∀ x ∈ l, OwnI .u8 5 B w x.A x.p.bs.length x.c x.p.bs) (hy : ∀ x ∈ l, Byt x.p.bs) (hn : l.length = n) : InP w A n c l :=
  ⟨row_cells hr, fun x hx => own_inB (hb x hx) (hy x hx), hn⟩
theorem cut_byt {nx : Nat → Nat} {st : Nat} {un : Bool} {sz : Int} {bs : List Int} {r : Int} {l : List Pc} {nx' : Nat → Nat} (h : CutR nx st un sz bs r l nx') (hb : Byt bs) : ∀ p ∈ l, Byt p.bs := by
  intro p hp
  rcases h with ⟨_, _, rfl, _⟩ | ⟨_, _, _, rfl, _⟩ | ⟨_, _, _, rfl, _⟩
  · cases hp
  · cases hp
  · obtain ⟨i, _, rfl⟩ := List.mem_map.1 hp
    exact (hb.drop _).take _
theorem cut_len {nx : Nat → Nat} {st : Nat} {un : Bool} {sz : Int} {bs : List Int} {r : Int} {l : List Pc} {nx' : Nat → Nat} (h : CutR nx st un sz bs r l nx') : l.length ≤ 4096 := by
  rcases h with ⟨_, _, rfl, _⟩ | ⟨_, _, _, rfl, _⟩ | ⟨hb, h1, _, rfl, _⟩
  · simp
  · simp
  · rw [cutL_len]
    unfold CutBad at hb
    have := npt_le (sz := sz.toNat) (N := bs.length) (by omega)
    omega
end Fg
set_option maxRecDepth 100000 in
set_option maxHeartbeats 4000000 in
theorem law_cuts (A : Option Addr) (n c : Nat) (l : List CtB) (w : World) (hA : InC w A n c l) :
    Calls Try.prog 3 #[.slice A n c] w (RetB true w) := by
  have HA := Lib.hid hA
  clear hA
  go_enter Try.func3, Try.ntmps3
  go_wp2_with fail
  refine (newc_any w).mono ?_
  rintro e w1 ⟨rfl, HC1, HU1⟩
  have hb1 := lt_of_blk HC1.out
  obtain ⟨b, hb⟩ : ∃ b, b = w.heap.size := ⟨_, rfl⟩
  rw [← hb] at HC1 hb1 ⊢
  have HBW := Lib.hid hb
  clear hb
  go_upto_region 2 with (fail)
  have HD2 : Hid (CutB 29 (w1.alloc (.cells #[.int .u16 0, .int .u16 0, .int .u16 0, .int .u16 0, .int .u16 0, .int .u16 0, .int .u16 0, .int .u16 0] 29)) w1.heap.size (fun _ => 0)) := Lib.hid (new_at w1 (.cells #[.int .u16 0, .int .u16 0, .int .u16 0, .int .u16 0, .int .u16 0, .int .u16 0, .int .u16 0, .int .u16 0] 29))
  have HU2 := Lib.hid (up_alloc w1 (.cells #[.int .u16 0, .int .u16 0, .int .u16 0, .int .u16 0, .int .u16 0, .int .u16 0, .int .u16 0, .int .u16 0] 29))
  generalize w1.alloc (.cells #[.int .u16 0, .int .u16 0, .int .u16 0, .int .u16 0, .int .u16 0, .int .u16 0, .int .u16 0, .int .u16 0] 29) = w2 at HD2 HU2 ⊢
  have hd1 : w.heap.size ≤ w1.heap.size := HU1.out.size
  have hbd : b < w1.heap.size := hb1
  generalize w1.heap.size = d at HD2 hd1 hbd ⊢
  have HC2 := Lib.hid ((HU2.out.block _ (lt_of_blk HC1.out)).trans HC1.out)
  have HUU := Lib.hid (HU1.out.trans HU2.out)
  clear HC1 HU1 HU2 hb1
  go_wp2_with fail
  go_loopw [5] (fun iv wr => ∃ (i : Nat) (nx : Nat → Nat), iv = .int .i64 (i : Int) ∧ i ≤ n ∧ i ≤ 30 ∧ Hid (CutB 66 wr b nx) ∧ Hid (CutB 29 wr d nx) ∧ Hid (Up w wr)) (fun iv _ => 30 - (intOf iv).toNat)
  case atStart => exact ⟨0, fun _ => 0, rfl, by omega, by omega, HC2, HD2, HUU⟩
  case round =>
    obtain ⟨i, nx, rfl, hin, hi30, hC, hD, hU⟩ := hrel
    by_cases hlt : i < n ∧ i < 30
    · obtain ⟨hl1, hl2⟩ := hlt
      have d1 : decide ((i : Int) < (n : Int)) = true := by simp; omega
      have d2 : decide ((i : Int) < 30) = true := by simp; omega
      have hiI : (i : Int) < (n : Int) := by omega
      obtain ⟨x, g, o, hx, rfl, hc, hxb, hxl⟩ := (HA.out.up hU.out).at_ hl1
      have HX0 := Lib.hid (HA.out.by_ x (List.mem_of_getElem? hx)).1
      have k0 : wr.cell? ⟨g, o + i * 4, none⟩ = some (.int .u16 x.st) := hc 0 _ rfl
      have k1 : wr.cell? ⟨g, o + i * 4 + 1, none⟩ = some (.slice x.A x.bs.length x.c) := hc 1 _ rfl
      have k2 : wr.cell? ⟨g, o + i * 4 + 2, none⟩ = some (.bool x.un) := hc 2 _ rfl
      have k3 : wr.cell? ⟨g, o + i * 4 + 3, none⟩ = some (.int .i64 x.sz) := hc 3 _ rfl
      have HXB := Lib.hid hxb
      clear hx hc hxb
      go_upto_region 8 with (fail)
      have M5 := Lib.hid (new_at wr (.cells #[.int .u16 x.st, .slice x.A x.bs.length x.c, .bool x.un, .int .i64 x.sz] 34))
      have U5 := Lib.hid (up_alloc wr (.cells #[.int .u16 x.st, .slice x.A x.bs.length x.c, .bool x.un, .int .i64 x.sz] 34))
      clear k0 k1 k2 k3
      generalize wr.alloc (.cells #[.int .u16 x.st, .slice x.A x.bs.length x.c, .bool x.un, .int .i64 x.sz] 34) = w5 at M5 U5 ⊢
      have hs5 : w.heap.size ≤ wr.heap.size := hU.out.size
      have hds : d < wr.heap.size := lt_of_blk hD.out
      generalize wr.heap.size = s5 at M5 hs5 hds ⊢
      have X5 := Lib.hid (HXB.out.up U5.out)
      have C5 := Lib.hid ((U5.out.block _ (lt_of_blk hC.out)).trans hC.out)
      have D5 := Lib.hid ((U5.out.block _ (lt_of_blk hD.out)).trans hD.out)
      have HU5 := Lib.hid (hU.out.trans U5.out)
      have k0 : w5.cell? ⟨s5, 0, none⟩ = some (.int .u16 x.st) := cell_of M5.out rfl
      have k1 : w5.cell? ⟨s5, 1, none⟩ = some (.slice x.A x.bs.length x.c) := cell_of M5.out rfl
      have k2 : w5.cell? ⟨s5, 2, none⟩ = some (.bool x.un) := cell_of M5.out rfl
      have k3 : w5.cell? ⟨s5, 3, none⟩ = some (.int .i64 x.sz) := cell_of M5.out rfl
      have hsz5 : w.heap.size ≤ w5.heap.size := HU5.out.size
      go_cut [7, 8] (fun v7 v8 wx => ∃ (r : Int) (l1 : List PcB) (A1 : Option Addr) (c1 : Nat) (nx1 : Nat → Nat), v7 = .slice A1 l1.length c1 ∧ v8 = .int .i64 r ∧ Hid (CutR nx x.st x.un x.sz x.bs r (ps l1) nx1) ∧ Hid (CutB 66 wx b nx1) ∧ Hid (wx.ownsRow w.heap.size 51 7 (.slice A1 l1.length c1) l1.length (l1.flatMap pcc)) ∧ Hid (∀ y ∈ l1, OwnI .u8 5 w.heap.size wx y.A y.p.bs.length y.c y.p.bs) ∧ Hid (Out (fun k => k = b) w5 wx))
      case first =>
        go_region_with (first
          | (go_at_call 11; refine (own_any x.st x.bs.length x.c x.A x.bs _ (X5.out.up (Up.drew w5)) hxl).mono ?_; rintro e w6 ⟨A6, c6, rfl, HO6, HU6⟩; have k2' : w6.cell? ⟨s5, 2, none⟩ = some (.bool x.un) := cell_up k2 ((Up.drew w5).trans HU6.out); have k3' : w6.cell? ⟨s5, 3, none⟩ = some (.int .i64 x.sz) := cell_up k3 ((Up.drew w5).trans HU6.out); have C6 := Lib.hid ((((Up.drew w5).trans HU6.out).block _ (lt_of_blk C5.out)).trans C5.out); have I6 := Lib.hid (own_inB HO6.out X5.out.byt))
          | (go_at_call 10; refine (cut_any b x.st x.bs.length c6 A6 x.un x.sz x.bs nx w6 I6.out C6.out).mono ?_; rintro e w7 ⟨r7, l7, A7, c7, nx7, rfl, HR7, HC7, HROW7, HBY7, HO7⟩))
        all_goals
          have hz6 : w.heap.size ≤ w6.heap.size := Nat.le_trans hsz5 ((Up.drew w5).trans HU6.out).size
          have Z1 := Lib.hid (row_mono HROW7.out hz6)
          have Z2 : Hid (∀ y ∈ l7, OwnI .u8 5 w.heap.size w7 y.A y.p.bs.length y.c y.p.bs) := Lib.hid (fun y hy => row_mono (HBY7.out y hy) hz6)
          have Z3 := Lib.hid ((((Up.drew w5).trans HU6.out).out (fun k => k = b)).trans HO7.out (Sub.refl _ _))
          go_wp2_with fail
          go_meet
          exact ⟨r7, l7, A7, c7, nx7, rfl, rfl, HR7, HC7, Z1, Z2, Z3⟩
      case rest =>
        obtain ⟨r1, l1, A1, c1, nx1, rfl, rfl, HR1, HC1, HROW1, HBY1, HO1⟩ := hcut
        have hbs5 : b ≠ s5 := by omega
        have hbd2 : b ≠ d := by omega
        have M6 := Lib.hid (HO1.out.blk M5.out (fun e => hbs5 e.symm))
        have D6 := Lib.hid (HO1.out.blk D5.out (fun e => hbd2 e.symm))
        have HU6 : Hid (Up w wc) := Lib.hid (Below.out HU5.out HO1.out (fun k hk => by rw [hk, HBW.out]; exact Nat.le_refl _) hsz5)
        have X6 := Lib.hid (X5.out.outS' HO1.out (fun h k hk e => by
          have h2 := HX0.out.lt h hk
          have h3 := HBW.out
          omega))
        clear k0 k1 k2 k3 M5 C5 D5 X5 HO1 HU5
        have k0 : wc.cell? ⟨s5, 0, none⟩ = some (.int .u16 x.st) := cell_of M6.out rfl
        have k1 : wc.cell? ⟨s5, 1, none⟩ = some (.slice x.A x.bs.length x.c) := cell_of M6.out rfl
        have k2 : wc.cell? ⟨s5, 2, none⟩ = some (.bool x.un) := cell_of M6.out rfl
        have k3 : wc.cell? ⟨s5, 3, none⟩ = some (.int .i64 x.sz) := cell_of M6.out rfl
        go_wp2_with fail
        refine (rcut_any d x.st x.bs.length x.c x.A x.un x.sz x.bs nx wc X6.out D6.out).mono ?_
        rintro e w8 ⟨r2, l2, A2, c2, nx2, rfl, HR2, HD2', HROW2, HBY2, HO2⟩
        obtain ⟨hr, hl, hnx⟩ := HR1.out.det HR2.out
        subst hr
        subst hnx
        have hlen : l2.length = l1.length := by have := congrArg List.length hl; simpa [ps] using this.symm
        have hl4 : l1.length ≤ 4096 := by have := cut_len HR1.out; simpa [ps] using this
        have hb1 := cut_byt HR1.out HX0.out.byt
        have hb2 := cut_byt HR2.out HX0.out.byt
        have hzc : w.heap.size ≤ wc.heap.size := HU6.out.size
        have HR2' := row_mono HROW2.out hzc
        rw [hlen] at HR2' ⊢
        have HI2 : Hid (InP w8 A2 l1.length c2 l2) := Lib.hid (own_inP HR2' (fun y hy => row_mono (HBY2.out y hy) hzc) (fun y hy => hb2 y.p (List.mem_map.2 ⟨y, hy, rfl⟩)) hlen)
        have HROW1' := Out.own HO2.out HROW1.out (own_ne HROW1.out D6.out (by decide))
        have HI1 : Hid (InP w8 A1 l1.length c1 l1) := Lib.hid (own_inP HROW1' (fun y hy => Out.own HO2.out (HBY1.out y hy) (own_ne (HBY1.out y hy) D6.out (by decide))) (fun y hy => hb1 y.p (List.mem_map.2 ⟨y, hy, rfl⟩)) rfl)
        have C8 := Lib.hid (HO2.out.blk HC1.out (by omega))
        have HU8 : Hid (Up w w8) := Lib.hid (Below.out HU6.out HO2.out (fun k hk => by rw [hk]; exact hd1) hzc)
        have HPS := Lib.hid hl
        clear hl hb1 hb2 HR2' HROW1' HROW1 HROW2 HBY1 HBY2 HO2 HC1 D6 M6 X6 HU6 k0 k1 k2 k3 hlen
        generalize l1.length = N at hl4 HI1 HI2 ⊢
        go_wp2_with fail
        refine (sameL A1 A2 N c1 c2 l1 l2 w8 HI1.out HI2.out HPS.out (by omega)).mono ?_
        rintro e w9 ⟨rfl, HU9⟩
        have C9 := Lib.hid ((HU9.out.block _ (lt_of_blk C8.out)).trans C8.out)
        have D9 := Lib.hid ((HU9.out.block _ (lt_of_blk HD2'.out)).trans HD2'.out)
        have HU10 := Lib.hid (HU8.out.trans HU9.out)
        go_wp2_with fail
        go_roundw
        case rel => exact ⟨i + 1, nx1, by go_num, by omega, by omega, C9, D9, HU10⟩
        case measure => simp [intOf]; omega
    · by_cases hl1 : i < n
      · obtain rfl : i = 30 := by omega
        have d1 : decide ((30 : Int) < (n : Int)) = true := by simp; omega
        clear hlt
        go_wp2_with fail
        refine (answers_ok wr).mono ?_
        rintro e w5 ⟨rfl, HU5⟩
        go_wp2_with fail
        go_ret
        exact ⟨rfl, Lib.hid (hU.out.trans HU5.out)⟩
      · obtain rfl : i = n := by omega
        have d1 : decide ((i : Int) < (i : Int)) = false := by simp
        clear hlt
        go_wp2_with fail
        refine (answers_ok wr).mono ?_
        rintro e w5 ⟨rfl, HU5⟩
        go_wp2_with fail
        go_ret
        exact ⟨rfl, Lib.hid (hU.out.trans HU5.out)⟩
end Go.Proofs.Ytgcabidhpnaoiaa
