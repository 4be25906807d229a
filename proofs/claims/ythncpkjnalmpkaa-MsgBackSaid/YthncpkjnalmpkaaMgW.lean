import Derived.Test.YthncpkjnalmpkaaMgV
namespace Go.Proofs.Ythncpkjnalmpkaa
open Go Go.RowKit Mg
set_option linter.unusedVariables false
set_option linter.unusedSimpArgs false
/-! The law MsgGets. -/
theorem msO_alloc (w : World) (x : MsB) : (w.alloc (msO x)).heap[w.heap.size]? = some (msO x) := new_at w (msO x)
set_option maxRecDepth 100000 in
set_option maxHeartbeats 20000000 in
theorem law_gets (A : Option Addr) (m c : Nat) (xs : List Int) (w : World) (h : InB w A m c xs) (hm : m ≤ 140737488351232) : Calls Try.prog 4 #[.slice A m c] w (RetB true w) := by
  have Hw := Lib.hid h
  clear h
  go_enter Try.func4, Try.ntmps4
  go_wp2_with (at_builtin; refine wpList_appendI rfl (.tmp 12) (.tmp 13) 26 rfl .u8 w.heap.size 5 1 Try.underlying26 info5 (some ⟨w.heap.size, 0, none⟩) 0 0 [] rfl (ownI_new _ _ _) A m c xs rfl Hw.out.len (Hw.out.cells.alloc _) (by omega) (by omega) (by simp) ((Below.refl _ _).alloc (Nat.le_refl _) _) ?_; intro A1 N1 c1 w1 HN1 HW1 HB1 hsz1)
  have HO1 : Hid (OwnI .u8 5 w.heap.size w1 A1 N1 c1 xs) := by have := HW1.out; rw [List.nil_append] at this; exact this
  have U1 := Lib.hid (show Up w w1 from HB1.out)
  have hN1 : N1 ≤ 140737488355328 := by have := HN1.out; omega
  clear HW1 HB1 hsz1
  refine (mget_any A1 N1 c1 xs w1 (own_inB HO1.out Hw.out.byt) hN1).mono ?_
  rintro e w2 ⟨x1, k1, rfl, hg1, hL1, hn1, hu2⟩
  have U2 := Lib.hid (U1.out.trans hu2.out)
  clear HO1 hN1 HN1
  unfold msV
  go_upto_region 2 with (fail)
  change Code.wp _ _ _ _ (w2.alloc (msO x1))
  obtain ⟨p1, HP1⟩ : ∃ p, Hid (w2.heap.size = p) := ⟨_, Lib.hid rfl⟩
  have HC1 := Lib.hid (new_at w2 (msO x1))
  have HV1 := Lib.hid (up_alloc w2 (msO x1))
  rw [HP1.out] at HC1 ⊢
  generalize w2.alloc (msO x1) = w3 at HC1 HV1 ⊢
  have U3 := Lib.hid (U2.out.trans HV1.out)
  have HL1 := Lib.hid (hL1.out.inL.up HV1.out)
  clear hu2 hL1 HV1 HP1 U1 U2
  go_wp2_with fail
  refine (rgetmsg_any A m c xs w3 (Hw.out.up U3.out) (by omega)).mono ?_
  rintro e w4 ⟨x2, k2, rfl, hg2, hL2, hn2, hu4⟩
  have he := hg1.out.symm.trans hg2.out
  injection he with he1 he2
  subst he2
  have HE1 := Lib.hid he1
  have U4 := Lib.hid (U3.out.trans hu4.out)
  have HC1b := Lib.hid (blk_up HC1.out hu4.out)
  have HL1b := Lib.hid (HL1.out.up hu4.out)
  clear he1 hg1 hg2 hu4 HC1 HL1 U3
  unfold msV
  go_upto_region 3 with (fail)
  change Code.wp _ _ _ _ (w4.alloc (msO x2))
  obtain ⟨p2, HP2⟩ : ∃ p, Hid (w4.heap.size = p) := ⟨_, Lib.hid rfl⟩
  have HC2 := Lib.hid (new_at w4 (msO x2))
  have HV2 := Lib.hid (up_alloc w4 (msO x2))
  rw [HP2.out] at HC2 ⊢
  generalize w4.alloc (msO x2) = w5 at HC2 HV2 ⊢
  have U5 := Lib.hid (U4.out.trans HV2.out)
  have HC15 := Lib.hid (blk_up HC1b.out HV2.out)
  have HL15 := Lib.hid (HL1b.out.up HV2.out)
  have HL25 := Lib.hid (hL2.out.inL.up HV2.out)
  have Hw5 := Lib.hid (Hw.out.up U5.out)
  clear HC1b HL1b hL2 HV2 HP2 U4
  go_wp2_with (at_builtin; refine wpList_appendI rfl (.tmp 24) (.tmp 25) 26 rfl .u8 w5.heap.size 5 1 Try.underlying26 info5 (some ⟨w5.heap.size, 0, none⟩) 0 0 [] rfl (ownI_new _ _ _) A m c xs rfl Hw5.out.len (Hw5.out.cells.alloc _) (by omega) (by omega) (by simp) ((Below.refl _ _).alloc (Nat.le_refl _) _) ?_; intro A6 N6 c6 w6 HN6 HW6 HB6 hsz6)
  have HO6 : Hid (OwnI .u8 5 w5.heap.size w6 A6 N6 c6 xs) := by have := HW6.out; rw [List.nil_append] at this; exact this
  have U6 := Lib.hid (show Up w5 w6 from HB6.out)
  have hN6 : N6 ≤ 140737488355328 := by have := HN6.out; omega
  clear HW6 HB6 hsz6
  refine (mhead_any A6 N6 c6 xs w6 (own_inB HO6.out Hw.out.byt) hN6).mono ?_
  rintro e w7 ⟨m3, k3, rfl, hg3, hu7⟩
  have U7 := Lib.hid (U6.out.trans hu7.out)
  clear HO6 hN6 HN6 U6 hu7
  unfold noA msV
  go_upto_region 4 with (fail)
  change Code.wp _ _ _ _ (w7.alloc (msO (noA m3)))
  obtain ⟨p3, HP3⟩ : ∃ p, Hid (w7.heap.size = p) := ⟨_, Lib.hid rfl⟩
  have HC3 := Lib.hid (new_at w7 (msO (noA m3)))
  have HV3 := Lib.hid (up_alloc w7 (msO (noA m3)))
  rw [HP3.out] at HC3 ⊢
  generalize w7.alloc (msO (noA m3)) = w8 at HC3 HV3 ⊢
  have U8 := Lib.hid (U7.out.trans HV3.out)
  clear HV3 HP3 U7
  go_wp2_with fail
  refine (rhead_any A m c xs w8 (Hw5.out.up U8.out) (by omega)).mono ?_
  rintro e w9 ⟨m4, k4, rfl, hg4, hu9⟩
  have he := hg3.out.symm.trans hg4.out
  injection he with he1 he2
  subst he1 he2
  have U9 := Lib.hid (U8.out.trans hu9.out)
  have HC39 := Lib.hid (blk_up HC3.out hu9.out)
  clear hg3 hg4 hu9 HC3 U8
  unfold noA msV
  go_upto_region 5 with (fail)
  change Code.wp _ _ _ _ (w9.alloc (msO (noA m3)))
  obtain ⟨p4, HP4⟩ : ∃ p, Hid (w9.heap.size = p) := ⟨_, Lib.hid rfl⟩
  have HC4 := Lib.hid (new_at w9 (msO (noA m3)))
  have HV4 := Lib.hid (up_alloc w9 (msO (noA m3)))
  rw [HP4.out] at HC4 ⊢
  generalize w9.alloc (msO (noA m3)) = w10 at HC4 HV4 ⊢
  have U10 := Lib.hid (U9.out.trans HV4.out)
  have HC310 := Lib.hid (blk_up HC39.out HV4.out)
  clear HV4 HP4 U9 HC39
  go_wp2_with fail
  refine (answersM_ok w10).mono ?_
  rintro e w11 ⟨rfl, hu11⟩
  have U11 := Lib.hid (U10.out.trans hu11.out)
  have D1 := Lib.hid (blk_up HC15.out U11.out)
  have D2 := Lib.hid (blk_up HC2.out U11.out)
  have D3 := Lib.hid (blk_up HC310.out hu11.out)
  have D4 := Lib.hid (blk_up HC4.out hu11.out)
  have hb1 : x1.n ≤ 140737488351232 := by have := hn1.out; omega
  have hb2 : x2.n ≤ 140737488351232 := by have := hn2.out; omega
  have a0 : w11.cell? ⟨p1, 0, none⟩ = some (.bool x1.req) := cell_of D1.out (j := 0) rfl
  have a1 : w11.cell? ⟨p1, 1, none⟩ = some (.bool x1.prox) := cell_of D1.out (j := 1) rfl
  have a2 : w11.cell? ⟨p1, 2, none⟩ = some (.bool x1.fail) := cell_of D1.out (j := 2) rfl
  have a3 : w11.cell? ⟨p1, 3, none⟩ = some (.bool x1.again) := cell_of D1.out (j := 3) rfl
  have a4 : w11.cell? ⟨p1, 4, none⟩ = some (.int .u32 x1.code) := cell_of D1.out (j := 4) rfl
  have a5 : w11.cell? ⟨p1, 5, none⟩ = some (.int .u32 x1.app) := cell_of D1.out (j := 5) rfl
  have a6 : w11.cell? ⟨p1, 6, none⟩ = some (.int .u32 x1.hop) := cell_of D1.out (j := 6) rfl
  have a7 : w11.cell? ⟨p1, 7, none⟩ = some (.int .u32 x1.end_) := cell_of D1.out (j := 7) rfl
  have a8 : w11.cell? ⟨p1, 8, none⟩ = some (.slice x1.A x1.n x1.c) := cell_of D1.out (j := 8) rfl
  have b0 : w11.cell? ⟨p2, 0, none⟩ = some (.bool x2.req) := cell_of D2.out (j := 0) rfl
  have b1 : w11.cell? ⟨p2, 1, none⟩ = some (.bool x2.prox) := cell_of D2.out (j := 1) rfl
  have b2 : w11.cell? ⟨p2, 2, none⟩ = some (.bool x2.fail) := cell_of D2.out (j := 2) rfl
  have b3 : w11.cell? ⟨p2, 3, none⟩ = some (.bool x2.again) := cell_of D2.out (j := 3) rfl
  have b4 : w11.cell? ⟨p2, 4, none⟩ = some (.int .u32 x2.code) := cell_of D2.out (j := 4) rfl
  have b5 : w11.cell? ⟨p2, 5, none⟩ = some (.int .u32 x2.app) := cell_of D2.out (j := 5) rfl
  have b6 : w11.cell? ⟨p2, 6, none⟩ = some (.int .u32 x2.hop) := cell_of D2.out (j := 6) rfl
  have b7 : w11.cell? ⟨p2, 7, none⟩ = some (.int .u32 x2.end_) := cell_of D2.out (j := 7) rfl
  have b8 : w11.cell? ⟨p2, 8, none⟩ = some (.slice x2.A x2.n x2.c) := cell_of D2.out (j := 8) rfl
  go_wp2_with fail
  refine (sameM_any x1 x2 w11 (HL15.out.up U11.out) (HL25.out.up U11.out) hb1 hb2).mono ?_
  rw [decide_eq_true HE1.out]
  rintro e w12 ⟨rfl, hu12⟩
  have E3 := Lib.hid (blk_up D3.out hu12.out)
  have E4 := Lib.hid (blk_up D4.out hu12.out)
  clear D1 D2 D3 D4 a0 b0 a1 b1 a2 b2 a3 b3 a4 b4 a5 b5 a6 b6 a7 b7 a8 b8
  have a0 : w12.cell? ⟨p3, 0, none⟩ = some (.bool (noA m3).req) := cell_of E3.out (j := 0) rfl
  have a1 : w12.cell? ⟨p3, 1, none⟩ = some (.bool (noA m3).prox) := cell_of E3.out (j := 1) rfl
  have a2 : w12.cell? ⟨p3, 2, none⟩ = some (.bool (noA m3).fail) := cell_of E3.out (j := 2) rfl
  have a3 : w12.cell? ⟨p3, 3, none⟩ = some (.bool (noA m3).again) := cell_of E3.out (j := 3) rfl
  have a4 : w12.cell? ⟨p3, 4, none⟩ = some (.int .u32 (noA m3).code) := cell_of E3.out (j := 4) rfl
  have a5 : w12.cell? ⟨p3, 5, none⟩ = some (.int .u32 (noA m3).app) := cell_of E3.out (j := 5) rfl
  have a6 : w12.cell? ⟨p3, 6, none⟩ = some (.int .u32 (noA m3).hop) := cell_of E3.out (j := 6) rfl
  have a7 : w12.cell? ⟨p3, 7, none⟩ = some (.int .u32 (noA m3).end_) := cell_of E3.out (j := 7) rfl
  have a8 : w12.cell? ⟨p3, 8, none⟩ = some (.slice (noA m3).A (noA m3).n (noA m3).c) := cell_of E3.out (j := 8) rfl
  have b0 : w12.cell? ⟨p4, 0, none⟩ = some (.bool (noA m3).req) := cell_of E4.out (j := 0) rfl
  have b1 : w12.cell? ⟨p4, 1, none⟩ = some (.bool (noA m3).prox) := cell_of E4.out (j := 1) rfl
  have b2 : w12.cell? ⟨p4, 2, none⟩ = some (.bool (noA m3).fail) := cell_of E4.out (j := 2) rfl
  have b3 : w12.cell? ⟨p4, 3, none⟩ = some (.bool (noA m3).again) := cell_of E4.out (j := 3) rfl
  have b4 : w12.cell? ⟨p4, 4, none⟩ = some (.int .u32 (noA m3).code) := cell_of E4.out (j := 4) rfl
  have b5 : w12.cell? ⟨p4, 5, none⟩ = some (.int .u32 (noA m3).app) := cell_of E4.out (j := 5) rfl
  have b6 : w12.cell? ⟨p4, 6, none⟩ = some (.int .u32 (noA m3).hop) := cell_of E4.out (j := 6) rfl
  have b7 : w12.cell? ⟨p4, 7, none⟩ = some (.int .u32 (noA m3).end_) := cell_of E4.out (j := 7) rfl
  have b8 : w12.cell? ⟨p4, 8, none⟩ = some (.slice (noA m3).A (noA m3).n (noA m3).c) := cell_of E4.out (j := 8) rfl
  go_wp2_with fail
  refine (sameM_any (noA m3) (noA m3) w12 (inL_nil _) (inL_nil _) (by show 0 ≤ _; omega) (by show 0 ≤ _; omega)).mono ?_
  rw [decide_eq_true rfl]
  rintro e w13 ⟨rfl, hu13⟩
  go_wp2_with fail
  go_ret
  exact ⟨rfl, Lib.hid ((Hw5.out |> fun _ => U5.out).trans (U11.out.trans (hu12.out.trans hu13.out)))⟩
end Go.Proofs.Ythncpkjnalmpkaa
