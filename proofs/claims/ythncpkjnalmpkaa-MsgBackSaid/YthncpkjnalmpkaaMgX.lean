import Derived.Test.YthncpkjnalmpkaaMgW
namespace Go.Proofs.Ythncpkjnalmpkaa
open Go Go.RowKit Mg
set_option linter.unusedVariables false
set_option linter.unusedSimpArgs false
/-! The law MsgBack. -/
theorem getM_no {b : List Int} {m : Msg} {k : Int} (h : getM b = (m, k)) (hk : k ≠ 0) : m = noM := by
  unfold getM at h
  split at h
  · injection h with h1 h2; exact h1.symm
  · split at h
    · injection h with h1 h2; exact h1.symm
    · injection h with h1 h2; exact absurd h2.symm hk
set_option maxRecDepth 100000 in
set_option maxHeartbeats 20000000 in
theorem law_back (x : MsB) (A : Option Addr) (m c : Nat) (xs : List Int) (w : World) (h : MsIn w x) (hb : InB w A m c xs) (hm : m ≤ 140737488351232) : Calls Try.prog 5 #[msV x, .slice A m c] w (RetB true w) := by
  have Hb := Lib.hid hb
  clear hb
  have H := Lib.hid h
  have HU := Lib.hid (up_alloc w (msO x))
  have HC := Lib.hid (new_at w (msO x))
  clear h
  unfold msV
  go_enter Try.func5, Try.ntmps5
  go_upto_region 1 with (fail)
  change Code.wp _ _ _ _ (w.alloc (msO x))
  generalize w.alloc (msO x) = wa at HC HU ⊢
  generalize w.heap.size = pb at HC ⊢
  have HI := Lib.hid (H.out.up HU.out)
  have z0 : wa.cell? ⟨pb, 0, none⟩ = some (.bool x.req) := cell_of HC.out (j := 0) rfl
  have z1 : wa.cell? ⟨pb, 1, none⟩ = some (.bool x.prox) := cell_of HC.out (j := 1) rfl
  have z2 : wa.cell? ⟨pb, 2, none⟩ = some (.bool x.fail) := cell_of HC.out (j := 2) rfl
  have z3 : wa.cell? ⟨pb, 3, none⟩ = some (.bool x.again) := cell_of HC.out (j := 3) rfl
  have z4 : wa.cell? ⟨pb, 4, none⟩ = some (.int .u32 x.code) := cell_of HC.out (j := 4) rfl
  have z5 : wa.cell? ⟨pb, 5, none⟩ = some (.int .u32 x.app) := cell_of HC.out (j := 5) rfl
  have z6 : wa.cell? ⟨pb, 6, none⟩ = some (.int .u32 x.hop) := cell_of HC.out (j := 6) rfl
  have z7 : wa.cell? ⟨pb, 7, none⟩ = some (.int .u32 x.end_) := cell_of HC.out (j := 7) rfl
  have z8 : wa.cell? ⟨pb, 8, none⟩ = some (.slice x.A x.n x.c) := cell_of HC.out (j := 8) rfl
  have hxn := HI.out.n
  go_wp2_with fail
  refine (mown_any x wa HI.out.avs hxn).mono ?_
  rintro e w1 ⟨y, rfl, hy, hg, hy2, hu1⟩
  have HY := Lib.hid (takeM_in HI.out hy.out hg.out hy2.out)
  go_wp2_with fail
  refine (mput_any y w1 HY.out).mono ?_
  rintro e w2 ⟨ys, k, A2, n2, c2, rfl, hr, hN2, hO2, hu2⟩
  have HR := Lib.hid (show putM x.pure = (ys, k) by have := hr.out; rwa [hy.out, putM_take] at this)
  have U2 := Lib.hid (hu1.out.trans hu2.out)
  have HI2 := Lib.hid (own_inB hO2.out (putM_byt HI.out.ok HR.out))
  have hn2 : n2 ≤ 4096 := by rw [hN2.out]; exact putM_len HR.out
  clear hr hy hg hy2 HY hO2 hu1 hu2
  clear z0 z1 z2 z3 z4 z5 z6 z7 z8
  go_wp2_with fail
  refine (answersM_ok w2).mono ?_
  rintro e w3 ⟨rfl, hu3⟩
  have U3 := Lib.hid (U2.out.trans hu3.out)
  have HI3 := Lib.hid (HI2.out.up hu3.out)
  have HC3 := Lib.hid (blk_up HC.out U3.out)
  have UW3 := Lib.hid (HU.out.trans U3.out)
  have HIx := Lib.hid (HI.out.up U3.out)
  clear HI2 U2 hu3 HC HI U3 HU
  go_upto_if 24 with (fail)
  go_cut [] (fun wx => Hid (Up w3 wx))
  case first =>
    by_cases hk : k = 0
    case neg =>
      have d1 : (k == 0) = false := by simpa using hk
      go_wp2_with fail
      go_meet
      exact Lib.hid (Up.refl _)
    case pos =>
      subst hk
      go_wp2_with fail
      refine (mget_any A2 n2 c2 ys w3 HI3.out (by omega)).mono ?_
      rintro e w4 ⟨x1, k1, rfl, hg1, hL1, hn1, hu4⟩
      have hgp := get_put HIx.out.ok HR.out
      have he := hgp.symm.trans hg1.out
      injection he with he1 he2
      subst he2
      have HE1 := Lib.hid he1
      clear he1 hgp hg1
      unfold msV
      go_upto_region 6 with (fail)
      change Code.wp _ _ _ _ (w4.alloc (msO x1))
      obtain ⟨p1, HP1⟩ : ∃ p, Hid (w4.heap.size = p) := ⟨_, Lib.hid rfl⟩
      have HC1 := Lib.hid (new_at w4 (msO x1))
      have HV1 := Lib.hid (up_alloc w4 (msO x1))
      rw [HP1.out] at HC1 ⊢
      generalize w4.alloc (msO x1) = w5 at HC1 HV1 ⊢
      have HC5 := Lib.hid (blk_up (blk_up HC3.out hu4.out) HV1.out)
      have U5 := Lib.hid (hu4.out.trans HV1.out)
      have hb1 : x1.n ≤ 140737488351232 := by have := hn1.out; omega
      have a0 : w5.cell? ⟨pb, 0, none⟩ = some (.bool x.req) := cell_of HC5.out (j := 0) rfl
      have a1 : w5.cell? ⟨pb, 1, none⟩ = some (.bool x.prox) := cell_of HC5.out (j := 1) rfl
      have a2 : w5.cell? ⟨pb, 2, none⟩ = some (.bool x.fail) := cell_of HC5.out (j := 2) rfl
      have a3 : w5.cell? ⟨pb, 3, none⟩ = some (.bool x.again) := cell_of HC5.out (j := 3) rfl
      have a4 : w5.cell? ⟨pb, 4, none⟩ = some (.int .u32 x.code) := cell_of HC5.out (j := 4) rfl
      have a5 : w5.cell? ⟨pb, 5, none⟩ = some (.int .u32 x.app) := cell_of HC5.out (j := 5) rfl
      have a6 : w5.cell? ⟨pb, 6, none⟩ = some (.int .u32 x.hop) := cell_of HC5.out (j := 6) rfl
      have a7 : w5.cell? ⟨pb, 7, none⟩ = some (.int .u32 x.end_) := cell_of HC5.out (j := 7) rfl
      have a8 : w5.cell? ⟨pb, 8, none⟩ = some (.slice x.A x.n x.c) := cell_of HC5.out (j := 8) rfl
      have b0 : w5.cell? ⟨p1, 0, none⟩ = some (.bool x1.req) := cell_of HC1.out (j := 0) rfl
      have b1 : w5.cell? ⟨p1, 1, none⟩ = some (.bool x1.prox) := cell_of HC1.out (j := 1) rfl
      have b2 : w5.cell? ⟨p1, 2, none⟩ = some (.bool x1.fail) := cell_of HC1.out (j := 2) rfl
      have b3 : w5.cell? ⟨p1, 3, none⟩ = some (.bool x1.again) := cell_of HC1.out (j := 3) rfl
      have b4 : w5.cell? ⟨p1, 4, none⟩ = some (.int .u32 x1.code) := cell_of HC1.out (j := 4) rfl
      have b5 : w5.cell? ⟨p1, 5, none⟩ = some (.int .u32 x1.app) := cell_of HC1.out (j := 5) rfl
      have b6 : w5.cell? ⟨p1, 6, none⟩ = some (.int .u32 x1.hop) := cell_of HC1.out (j := 6) rfl
      have b7 : w5.cell? ⟨p1, 7, none⟩ = some (.int .u32 x1.end_) := cell_of HC1.out (j := 7) rfl
      have b8 : w5.cell? ⟨p1, 8, none⟩ = some (.slice x1.A x1.n x1.c) := cell_of HC1.out (j := 8) rfl
      go_wp2_with fail
      refine (sameM_any x x1 w5 (HIx.out.avs.up U5.out) (hL1.out.inL.up HV1.out) hxn hb1).mono ?_
      rw [decide_eq_true HE1.out]
      rintro e w6 ⟨rfl, hu6⟩
      go_wp2_with fail
      go_meet
      exact Lib.hid (U5.out.trans hu6.out)
  case rest =>
  have HUc := Lib.hid (UW3.out.trans hcut.out)
  clear hcut HI3 HC3 UW3 HIx HR
  have Hwc := Lib.hid (Hb.out.up HUc.out)
  go_wp2_with (at_builtin; refine wpList_appendI rfl (.tmp 39) (.tmp 40) 26 rfl .u8 wc.heap.size 5 1 Try.underlying26 info5 (some ⟨wc.heap.size, 0, none⟩) 0 0 [] rfl (ownI_new _ _ _) A m c xs rfl Hwc.out.len (Hwc.out.cells.alloc _) (by omega) (by omega) (by simp) ((Below.refl _ _).alloc (Nat.le_refl _) _) ?_; intro A6 N6 c6 w6 HN6 HW6 HB6 hsz6)
  have HO6 : Hid (OwnI .u8 5 wc.heap.size w6 A6 N6 c6 xs) := by have := HW6.out; rw [List.nil_append] at this; exact this
  have U6 := Lib.hid (show Up wc w6 from HB6.out)
  have hN6 : N6 ≤ 140737488355328 := by have := HN6.out; omega
  clear HW6 HB6 hsz6
  refine (mget_any A6 N6 c6 xs w6 (own_inB HO6.out Hwc.out.byt) hN6).mono ?_
  rintro e w7 ⟨x2, k2, rfl, hg2, hL2, hn2', hu7⟩
  have U7 := Lib.hid (U6.out.trans hu7.out)
  have HLw := Lib.hid (show GL w6.heap.size w7 x2.A x2.n x2.c x2.avps from hL2.out)
  clear HO6 hN6 HN6 hu7 hL2 U6
  unfold msV
  go_upto_region 9 with (fail)
  change Code.wp _ _ _ _ (w7.alloc (msO x2))
  obtain ⟨p2, HP2⟩ : ∃ p, Hid (w7.heap.size = p) := ⟨_, Lib.hid rfl⟩
  have HC2 := Lib.hid (new_at w7 (msO x2))
  have HV2 := Lib.hid (up_alloc w7 (msO x2))
  rw [HP2.out] at HC2 ⊢
  generalize w7.alloc (msO x2) = w8 at HC2 HV2 ⊢
  have U8 := Lib.hid (HUc.out.trans (U7.out.trans HV2.out))
  have HL2 := Lib.hid (HLw.out.inL.up HV2.out)
  have hb2 : x2.n ≤ 140737488351232 := by have := hn2'.out; omega
  clear HV2 HP2 U7 HLw hn2'
  have b0 : w8.cell? ⟨p2, 0, none⟩ = some (.bool x2.req) := cell_of HC2.out (j := 0) rfl
  have b1 : w8.cell? ⟨p2, 1, none⟩ = some (.bool x2.prox) := cell_of HC2.out (j := 1) rfl
  have b2 : w8.cell? ⟨p2, 2, none⟩ = some (.bool x2.fail) := cell_of HC2.out (j := 2) rfl
  have b3 : w8.cell? ⟨p2, 3, none⟩ = some (.bool x2.again) := cell_of HC2.out (j := 3) rfl
  have b4 : w8.cell? ⟨p2, 4, none⟩ = some (.int .u32 x2.code) := cell_of HC2.out (j := 4) rfl
  have b5 : w8.cell? ⟨p2, 5, none⟩ = some (.int .u32 x2.app) := cell_of HC2.out (j := 5) rfl
  have b6 : w8.cell? ⟨p2, 6, none⟩ = some (.int .u32 x2.hop) := cell_of HC2.out (j := 6) rfl
  have b7 : w8.cell? ⟨p2, 7, none⟩ = some (.int .u32 x2.end_) := cell_of HC2.out (j := 7) rfl
  have b8 : w8.cell? ⟨p2, 8, none⟩ = some (.slice x2.A x2.n x2.c) := cell_of HC2.out (j := 8) rfl
  by_cases hk2 : k2 = 0
  case neg =>
    have d2 : (k2 != 0) = true := by simpa using hk2
    have HNO := Lib.hid (getM_no hg2.out hk2)
    have hno : msV (noA noM) = .agg #[.bool false, .bool false, .bool false, .bool false, .int .u32 0, .int .u32 0, .int .u32 0, .int .u32 0, .slice none 0 0] := rfl
    go_wp2_with fail
    rw [← hno]
    refine (sameM_any x2 (noA noM) w8 HL2.out (inL_nil _) hb2 (by show 0 ≤ _; omega)).mono ?_
    rw [HNO.out, show (noA noM).pure = noM from rfl, decide_eq_true rfl]
    rintro e w9 ⟨rfl, hu9⟩
    clear hno
    go_wp2_with fail
    go_ret
    exact ⟨rfl, Lib.hid (U8.out.trans hu9.out)⟩
  subst hk2
  obtain ⟨q1, q2, q3⟩ := put_get Hb.out.byt hg2.out
  have HQ1 := Lib.hid q1
  have HQ2 := Lib.hid q2
  have HQ3 := Lib.hid q3
  have HX2 := Lib.hid (show MsIn w8 x2 from ⟨HL2.out, q1, hb2⟩)
  clear q1 q2 q3 hg2
  go_wp2_with fail
  refine (mput_any x2 w8 HX2.out).mono ?_
  rintro e w9 ⟨zs, k3, A3, n3, c3, rfl, hr, hN3, hO3, hu9⟩
  have he := HQ2.out.symm.trans hr.out
  injection he with he1 he2
  subst he2
  have HI9 := Lib.hid (own_inB hO3.out (by rw [← he1]; exact byt_encM HQ1.out.avps))
  have HN9 := Lib.hid (show n3 = m by rw [hN3.out, ← he1, HQ3.out, Hb.out.len])
  have HPE := Lib.hid (show putM x2.pure = (zs, 0) from hr.out)
  have U9 := Lib.hid (U8.out.trans hu9.out)
  have HC9 := Lib.hid (blk_up HC2.out hu9.out)
  have HL9 := Lib.hid (HL2.out.up hu9.out)
  have hm3 : n3 ≤ 140737488355328 := by have := HN9.out; omega
  clear hr he1 hN3 hO3 hu9 HC2 HL2 U8 HX2 b0 b1 b2 b3 b4 b5 b6 b7 b8
  go_wp2_with fail
  refine (mget_any A3 n3 c3 zs w9 HI9.out hm3).mono ?_
  rintro e w10 ⟨x3, k4, rfl, hg3, hL3, hn3, hu10⟩
  have hgp := get_put HQ1.out HPE.out
  have he := hgp.symm.trans hg3.out
  injection he with he1 he2
  subst he2
  have HE3 := Lib.hid he1
  clear he1 hgp hg3
  unfold msV
  go_upto_region 13 with (fail)
  change Code.wp _ _ _ _ (w10.alloc (msO x3))
  obtain ⟨p3, HP3⟩ : ∃ p, Hid (w10.heap.size = p) := ⟨_, Lib.hid rfl⟩
  have HC3 := Lib.hid (new_at w10 (msO x3))
  have HV3 := Lib.hid (up_alloc w10 (msO x3))
  rw [HP3.out] at HC3 ⊢
  generalize w10.alloc (msO x3) = w11 at HC3 HV3 ⊢
  have HC11 := Lib.hid (blk_up (blk_up HC9.out hu10.out) HV3.out)
  have hb3 : x3.n ≤ 140737488351232 := by have := hn3.out; omega
  have d3 : ((n3 : Int) == (m : Int)) = true := by rw [HN9.out]; simp
  have a0 : w11.cell? ⟨p2, 0, none⟩ = some (.bool x2.req) := cell_of HC11.out (j := 0) rfl
  have a1 : w11.cell? ⟨p2, 1, none⟩ = some (.bool x2.prox) := cell_of HC11.out (j := 1) rfl
  have a2 : w11.cell? ⟨p2, 2, none⟩ = some (.bool x2.fail) := cell_of HC11.out (j := 2) rfl
  have a3 : w11.cell? ⟨p2, 3, none⟩ = some (.bool x2.again) := cell_of HC11.out (j := 3) rfl
  have a4 : w11.cell? ⟨p2, 4, none⟩ = some (.int .u32 x2.code) := cell_of HC11.out (j := 4) rfl
  have a5 : w11.cell? ⟨p2, 5, none⟩ = some (.int .u32 x2.app) := cell_of HC11.out (j := 5) rfl
  have a6 : w11.cell? ⟨p2, 6, none⟩ = some (.int .u32 x2.hop) := cell_of HC11.out (j := 6) rfl
  have a7 : w11.cell? ⟨p2, 7, none⟩ = some (.int .u32 x2.end_) := cell_of HC11.out (j := 7) rfl
  have a8 : w11.cell? ⟨p2, 8, none⟩ = some (.slice x2.A x2.n x2.c) := cell_of HC11.out (j := 8) rfl
  have b0 : w11.cell? ⟨p3, 0, none⟩ = some (.bool x3.req) := cell_of HC3.out (j := 0) rfl
  have b1 : w11.cell? ⟨p3, 1, none⟩ = some (.bool x3.prox) := cell_of HC3.out (j := 1) rfl
  have b2 : w11.cell? ⟨p3, 2, none⟩ = some (.bool x3.fail) := cell_of HC3.out (j := 2) rfl
  have b3 : w11.cell? ⟨p3, 3, none⟩ = some (.bool x3.again) := cell_of HC3.out (j := 3) rfl
  have b4 : w11.cell? ⟨p3, 4, none⟩ = some (.int .u32 x3.code) := cell_of HC3.out (j := 4) rfl
  have b5 : w11.cell? ⟨p3, 5, none⟩ = some (.int .u32 x3.app) := cell_of HC3.out (j := 5) rfl
  have b6 : w11.cell? ⟨p3, 6, none⟩ = some (.int .u32 x3.hop) := cell_of HC3.out (j := 6) rfl
  have b7 : w11.cell? ⟨p3, 7, none⟩ = some (.int .u32 x3.end_) := cell_of HC3.out (j := 7) rfl
  have b8 : w11.cell? ⟨p3, 8, none⟩ = some (.slice x3.A x3.n x3.c) := cell_of HC3.out (j := 8) rfl
  go_wp2_with fail
  refine (sameM_any x2 x3 w11 ((HL9.out.up hu10.out).up HV3.out) (hL3.out.inL.up HV3.out) hb2 hb3).mono ?_
  rw [decide_eq_true HE3.out]
  rintro e w12 ⟨rfl, hu12⟩
  go_wp2_with fail
  go_ret
  exact ⟨rfl, Lib.hid (U9.out.trans (hu10.out.trans (HV3.out.trans hu12.out)))⟩
end Go.Proofs.Ythncpkjnalmpkaa
