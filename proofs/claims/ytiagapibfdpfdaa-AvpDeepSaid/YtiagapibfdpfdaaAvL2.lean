import Derived.Test.YtiagapibfdpfdaaAvL1
namespace Go.Proofs.Ytiagapibfdpfdaa
open Go Go.RowKit
set_option linter.unusedVariables false
set_option linter.unusedSimpArgs false
/-! The law AvpBack. -/
theorem getRes_err {xs : List Int} {l : List Av.Avp} {p : Nat} {k : Int} (h : GetRes xs (l, p, k)) (hk : k ≠ 0) : l = [] := by
  rcases h with ⟨h1, h2⟩ | ⟨h1, h2⟩
  · have := getA_err 64 0 xs (by rw [h2]; exact hk)
    rw [h2] at this; exact this
  · injection h2
theorem getRes_back {xs : List Int} {l : List Av.Avp} {p : Nat} (hb : Byt xs) (h : GetRes xs (l, p, 0)) : AvsOK l ∧ l.length ≤ 64 ∧ (encAs l).length = xs.length ∧ xs.length ≤ 4096 := by
  rcases h with ⟨h1, h2⟩ | ⟨h1, h2⟩
  · obtain ⟨k1, k2, k3⟩ := getA_back 64 0 xs l p hb h2
    exact ⟨k1, k2, k3, h1⟩
  · injection h2 with h3 h4; injection h4 with h5 h6; cases h6
theorem getRes_enc {l l' : List Av.Avp} {p : Nat} {k : Int} (h : GetRes (encAs l) (l', p, k)) (hok : AvsOK l) (hl : l.length ≤ 64) (hb : (encAs l).length ≤ 4096) : l' = l ∧ k = 0 := by
  have h2 := getRes_encAs hok hb hl
  have h3 := getRes_inj h h2
  injection h3 with h4 h5
  injection h5 with h6 h7
  exact ⟨h4, h7⟩
theorem putRes_ok {l : List Av.Avp} {ys : List Int} {k : Int} (h : PutRes l ys k) (hk : k = 0) : ys = encAs l ∧ l.length ≤ 64 ∧ (encAs l).length ≤ 4096 := by
  rcases h with ⟨h1, h2, h3, h4⟩ | ⟨h1, h2, h3⟩
  · exact ⟨h2, h3, h4⟩
  · omega
theorem putRes_fit {l : List Av.Avp} {ys : List Int} {k : Int} (h : PutRes l ys k) (hl : l.length ≤ 64) (hb : (encAs l).length ≤ 4096) : k = 0 ∧ ys = encAs l := by
  rcases h with ⟨h1, h2, h3, h4⟩ | ⟨h1, h2, h3⟩
  · exact ⟨h1, h2⟩
  · exact absurd ⟨hl, hb⟩ h3
theorem avsOK_append {l m : List Av.Avp} (a : AvsOK l) (b : AvsOK m) : AvsOK (l ++ m) := fun x hx => by
  rcases List.mem_append.1 hx with h | h
  · exact a x h
  · exact b x h
theorem lt_of_putRes {l : List Av.Avp} {ys : List Int} {k : Int} (h : PutRes l ys k) : ys.length ≤ 4096 := by
  rcases h with ⟨h1, h2, h3, h4⟩ | ⟨h1, h2, h3⟩
  · rw [h2]; exact h4
  · rw [h2]; simp
set_option maxRecDepth 100000 in
set_option maxHeartbeats 20000000 in
theorem law_back (a0 a1 a2 : Option Addr) (m0 c0 m1 c1 m2 c2 : Nat) (z0 z1 : List AvB) (z2 : List Int) (w : World) (h0 : InL w a0 m0 c0 z0) (h1 : InL w a1 m1 c1 z1) (h2 : InB w a2 m2 c2 z2) (u0 : m0 ≤ 140737488351232) (u1 : m1 ≤ 140737488351232) (u2 : m2 ≤ 140737488351232) :
    Calls Try.prog 5 #[.slice a0 m0 c0, .slice a1 m1 c1, .slice a2 m2 c2] w (RetB true w) := by
  have HI0 := Lib.hid h0
  have HI1 := Lib.hid h1
  have HI2 := Lib.hid h2
  have HL0 := Lib.hid (show (z0.map AvB.pure).length = m0 by simp [h0.len])
  have HL1 := Lib.hid (show (z1.map AvB.pure).length = m1 by simp [h1.len])
  clear h0 h1 h2
  go_enter Try.func5, Try.ntmps5
  go_wp2_with fail
  refine (own_any a0 m0 c0 z0 w HI0.out u0).mono ?_
  rintro e w1 ⟨A1, n1, k1, out1, rfl, hL, hE, hn1, hu1⟩
  have hn2 : n1 ≤ 140737488351232 := by have := hn1.out; omega
  go_wp2_with fail
  refine (put_any' A1 n1 k1 out1 w1 hL.out.inL hn2).mono ?_
  rintro e w2 ⟨xs, kx, AX, nx, cx, rfl, hr, hNx, hOx, hu2⟩
  have HRX := Lib.hid (show PutRes (z0.map AvB.pure) xs kx from putRes_take (by have := hr.out; rwa [hE.out] at this))
  have U2 := Lib.hid (Up.trans hu1.out hu2.out)
  have HIX2 := Lib.hid (own_inB hOx.out (HRX.out.byt HI0.out.ok))
  have hxl : nx ≤ 4096 := by rw [hNx.out]; exact lt_of_putRes HRX.out
  clear hr hL hE hn1 hOx hu1 hu2 hn2 hNx
  go_wp2_with fail
  refine (own_any a1 m1 c1 z1 w2 (HI1.out.up U2.out) u1).mono ?_
  rintro e w3 ⟨A1, n1, k1, out1, rfl, hL, hE, hn1, hu1⟩
  have hn2 : n1 ≤ 140737488351232 := by have := hn1.out; omega
  go_wp2_with fail
  refine (put_any' A1 n1 k1 out1 w3 hL.out.inL hn2).mono ?_
  rintro e w4 ⟨ys, ky, AY, ny, cy, rfl, hr, hNy, hOy, hu2⟩
  have HRY := Lib.hid (show PutRes (z1.map AvB.pure) ys ky from putRes_take (by have := hr.out; rwa [hE.out] at this))
  have U4 := Lib.hid (Up.trans U2.out (Up.trans hu1.out hu2.out))
  have HIX4 := Lib.hid (HIX2.out.up (Up.trans hu1.out hu2.out))
  have HIY4 := Lib.hid (own_inB hOy.out (HRY.out.byt HI1.out.ok))
  have hyl : ny ≤ 4096 := by rw [hNy.out]; exact lt_of_putRes HRY.out
  clear hr hL hE hn1 hOy hu1 hu2 hn2 hNy HIX2
  go_wp2_with fail
  refine (answers_ok w4).mono ?_
  rintro e w5 ⟨rfl, hu5⟩
  have Uw5 := Lib.hid (Up.trans U4.out hu5.out)
  have HIX5 := Lib.hid (HIX4.out.up hu5.out)
  have HIY5 := Lib.hid (HIY4.out.up hu5.out)
  clear hu5 HIX4 HIY4
  by_cases hkx : kx = 0
  · subst hkx
    obtain ⟨hxe, hxn, hxb⟩ := putRes_ok HRX.out rfl
    have HXE := Lib.hid hxe
    have HXN := Lib.hid (show m0 ≤ 64 by have := HL0.out; omega)
    clear hxe
    go_wp2_with fail
    refine (get_any' AX nx cx xs w5 HIX5.out (by omega)).mono ?_
    rintro e w6 ⟨l6, p6, k6, A6, n6, c6, rfl, hr6, hL6, hn6, hu6⟩
    obtain ⟨he6, rfl⟩ := getRes_enc (by have := hr6.out; rwa [HXE.out] at this) HI0.out.ok hxn hxb
    have Uw6 := Lib.hid (Up.trans Uw5.out hu6.out)
    have hb6 : n6 ≤ 140737488351232 := by have := hn6.out; omega
    have hsv := sameAll_any A6 a0 n6 c6 m0 c0 l6 z0 w6 hL6.out.inL (HI0.out.up Uw6.out) hb6 u0
    rw [decide_eq_true he6] at hsv
    have HSV := Lib.hid hsv
    have HIX6 := Lib.hid (HIX5.out.up hu6.out)
    have HIY6 := Lib.hid (HIY5.out.up hu6.out)
    clear hsv he6 hr6 hu6 hxn hxb
    go_wp2_with fail
    refine HSV.out.mono ?_
    rintro e w7 ⟨rfl, hu7⟩
    have Uw7 := Lib.hid (Up.trans Uw6.out hu7.out)
    have HIX7 := Lib.hid (HIX6.out.up hu7.out)
    have HIY7 := Lib.hid (HIY6.out.up hu7.out)
    have HXN' := HXN.out
    clear hu7 HIX6 HIY6 HSV hL6
    by_cases hky : ky = 0
    · subst hky
      obtain ⟨hye, hyn, hyb⟩ := putRes_ok HRY.out rfl
      have HYE := Lib.hid hye
      have HYN := Lib.hid (show m1 ≤ 64 by have := HL1.out; omega)
      have HYN' := HYN.out
      clear hye hyn hyb
      by_cases hs : m0 + m1 ≤ 64
      · have ds : decide ((m0 : Int) + (m1 : Int) ≤ 64) = true := by simp; omega
        by_cases hb : nx + ny ≤ 4096
        · have db : decide ((nx : Int) + (ny : Int) ≤ 4096) = true := by simp; omega
          have HLX := Lib.hid HIX7.out.len
          have HLY := Lib.hid HIY7.out.len
          have HCX := Lib.hid (HIX7.out.cells.alloc (.cells #[] 5))
          go_upto_region 11 with (first
            | (at_builtin; refine wpList_appendI rfl (.tmp 78) (.tmp 79) 23 rfl .u8 w7.heap.size 5 1 Try.underlying23 info5 (some ⟨w7.heap.size, 0, none⟩) 0 0 [] rfl (ownI_new _ _ _) AX nx cx xs rfl HLX.out HCX.out (by omega) (by omega) (by simp) ((Below.refl _ _).alloc (Nat.le_refl _) _) ?_; intro A8 N8 c8 w8 HN8 HW8 HB8 hsz8; have HO8 : Hid (OwnI .u8 5 w7.heap.size w8 A8 N8 c8 xs) := (by have := HW8.out; rw [List.nil_append] at this; exact this); have hN8 : N8 ≤ 4096 := (by have := HN8.out; omega))
            | (at_builtin; refine wpList_appendI rfl (.tmp 80) (.tmp 81) 23 rfl .u8 w7.heap.size 5 1 Try.underlying23 info5 A8 N8 c8 xs rfl HO8.out AY ny cy ys rfl HLY.out (HIY7.out.up HB8.out).cells (by omega) (by omega) hsz8 HB8.out ?_; intro A9 N9 c9 w9 HN9 HW9 HB9 hsz9; have hN9 : N9 ≤ 140737488355328 := (by have := HN9.out; omega))
            | (go_at_call 12; refine (get_any' A9 N9 c9 (xs ++ ys) w9 (own_inB HW9.out (HIX7.out.byt.append HIY7.out.byt)) hN9).mono ?_; rintro e w10 ⟨l10, p10, k10, A10, n10, c10, rfl, hr10, hL10, hn10, hu10⟩))
          have HG := Lib.hid (getRes_enc (l := z0.map AvB.pure ++ z1.map AvB.pure) (l' := l10.map AvB.pure) (p := p10) (k := k10) (by rw [encAs_append, ← HXE.out, ← HYE.out]; exact hr10.out) (avsOK_append HI0.out.ok HI1.out.ok) (by rw [List.length_append, HL0.out, HL1.out]; exact hs) (by rw [encAs_append, ← HXE.out, ← HYE.out, List.length_append, HLX.out, HLY.out]; exact hb))
          obtain rfl := HG.out.2
          have Uw10 := Lib.hid (Up.trans Uw7.out (Up.trans (show Up w7 w9 from HB9.out) hu10.out))
          have hb10 : n10 ≤ 140737488351232 := by have := hn10.out; omega
          clear hr10 hu10 HO8 HW8 HB8 hsz8 hN8 HN8 HW9 HB9 hsz9 hN9 HN9
          go_wp2_with fail
          refine (own_any a0 m0 c0 z0 w10 (HI0.out.up Uw10.out) u0).mono ?_
          rintro e w11 ⟨A11, n11, c11, out11, rfl, hL11, hE11, hn11, hu11⟩
          have HE11 := Lib.hid (show out11.map AvB.pure = z0.map AvB.pure by rw [hE11.out, List.take_of_length_le (by rw [HL0.out]; omega)])
          have HN11 := Lib.hid (show n11 = m0 by have h := congrArg List.length HE11.out; rw [List.length_map, HL0.out, hL11.out.len] at h; exact h)
          have Uw11 := Lib.hid (Up.trans Uw10.out hu11.out)
          have HL10 := Lib.hid (hL10.out.up hu11.out)
          have HM11 := Lib.hid (HI1.out.up Uw11.out)
          have HSB := Lib.hid (show w10.heap.size ≤ w11.heap.size from hu11.out.size)
          have hn11' : n11 ≤ 64 := by have := HN11.out; omega
          have HLB := Lib.hid (show ∀ k, (blk? A10 = some k ∨ ∃ x ∈ l10, blk? x.A = some k) → k < w10.heap.size from fun k hk => by
            rcases hk with h | ⟨x, hx, h⟩
            · exact (hL10.out.lt h).2
            · exact (hL10.out.av x hx).1.lt h)
          clear hE11 hn11 hu11 hL10
          go_wp2_with (at_builtin; refine wpList_appendG rfl (.tmp 92) (.tmp 93) 22 rfl w10.heap.size 38 (.agg #[.int .u32 0, .int .u32 0, .bool false, .bool false, .slice none 0 0]) 5 40 Try.underlying22 info38 rfl (by decide) A11 n11 c11 (rowa out11) rfl hL11.out.row a1 m1 c1 (rowa z1) rfl (by rw [rowa_length, HM11.out.len]) HM11.out.cells (rowa_one _) (by omega) (by omega) HSB.out ?_; intro A12 N12 c12 w12 HN12 HW12 HO12 HB12)
          have HA11 := Lib.hid (show ∀ k, blk? A11 = some k → w10.heap.size ≤ k from fun k hk => (hL11.out.lt hk).1)
          have HIL := Lib.hid (show InL w12 A12 N12 c12 (out11 ++ z1) from ⟨by rw [rowa_append]; exact row_cells HW12.out, fun x hx => by
            rcases List.mem_append.1 hx with h | h
            · exact ((hL11.out.av x h).1.out HO12.out (fun k hk e => (hL11.out.av x h).2 k hk e)).avIn
            · have h3 := HI1.out.av x h
              have h4 := HM11.out.av x h
              exact ⟨h4.inb.outS' HO12.out (fun hne k hk e => by have h5 := HA11.out k e; have h6 := h3.inb.lt hne hk; have h7 := Uw10.out.size; omega), h4.ok, h4.n⟩, row_cap HW12.out, by rw [List.length_append, hL11.out.len, HI1.out.len]; exact HN12.out.symm⟩)
          have Uw12 := Lib.hid (show Up w w12 from Below.out Uw11.out HO12.out (fun k hk => by have h5 := HA11.out k hk; have h7 := Uw10.out.size; omega) Uw11.out.size)
          have HL12 := Lib.hid (show InL w12 A10 n10 c10 l10 from (show GL w9.heap.size w12 A10 n10 c10 l10 from gl_out HL10.out HO12.out (fun k hk e => by
            have h5 := HA11.out k e
            have h6 : k < w10.heap.size := HLB.out k hk
            omega)).inL)
          have hb12 : N12 ≤ 140737488351232 := by have := HN12.out; omega
          have hsv := sameAll_any A10 A12 n10 c10 N12 c12 l10 (out11 ++ z1) w12 HL12.out HIL.out hb10 hb12
          rw [decide_eq_true (by rw [List.map_append, HE11.out]; exact HG.out.1)] at hsv
          have HSV := Lib.hid hsv
          clear hsv
          refine HSV.out.mono ?_
          rintro e w13 ⟨rfl, hu13⟩
          have Uw13 := Lib.hid (Up.trans Uw12.out hu13.out)
          go_upto_region 13 with (fail)
          have hl2 := HI2.out.len
          go_wp2_with (at_builtin; refine wpList_appendI rfl (.tmp 99) (.tmp 100) 23 rfl .u8 w13.heap.size 5 1 Try.underlying23 info5 (some ⟨w13.heap.size, 0, none⟩) 0 0 [] rfl (ownI_new _ _ _) a2 m2 c2 z2 rfl hl2 ((HI2.out.up Uw13.out).cells.alloc _) (by omega) (by omega) (by simp) ((Below.refl _ _).alloc (Nat.le_refl _) _) ?_; intro A20 N20 c20 w20 HN20 HW20 HB20 hsz20)
          have HO20 : Hid (OwnI .u8 5 w13.heap.size w20 A20 N20 c20 z2) := by have := HW20.out; rw [List.nil_append] at this; exact this
          have U20 := Lib.hid (Up.trans Uw13.out (show Up w13 w20 from HB20.out))
          have hN20 : N20 ≤ 140737488355328 := by have := HN20.out; omega
          clear HW20 HB20 hsz20
          refine (get_any' A20 N20 c20 z2 w20 (own_inB HO20.out HI2.out.byt) hN20).mono ?_
          rintro e w21 ⟨l21, p21, k21, A21, n21, c21, rfl, hr21, hL21, hn21, hu21⟩
          have U21 := Lib.hid (Up.trans U20.out hu21.out)
          clear HO20 hN20 hu21
          by_cases hk21 : k21 = 0
          · subst hk21
            have HBK := Lib.hid (getRes_back HI2.out.byt hr21.out)
            have hb21 : n21 ≤ 140737488351232 := by have := hn21.out; omega
            go_wp2_with fail
            refine (put_any' A21 n21 c21 l21 w21 hL21.out.inL hb21).mono ?_
            rintro e w22 ⟨ys22, k22, A22, n22, c22, rfl, hr22, hN22, hO22, hu22⟩
            obtain ⟨rfl, rfl⟩ := putRes_fit hr22.out HBK.out.2.1 (by have := HBK.out.2.2; omega)
            have U22 := Lib.hid (Up.trans U21.out hu22.out)
            have HI22 := Lib.hid (own_inB hO22.out (byt_encAs HBK.out.1))
            have HN22 := Lib.hid (show n22 = m2 by rw [hN22.out, HBK.out.2.2.1]; exact hl2)
            have HL22 := Lib.hid (hL21.out.up hu22.out)
            clear hr22 hN22 hO22 hu22 hL21 hr21
            go_wp2_with fail
            refine (get_any' A22 n22 c22 _ w22 HI22.out (by have := HN22.out; omega)).mono ?_
            rintro e w23 ⟨l23, p23, k23, A23, n23, c23, rfl, hr23, hL23, hn23, hu23⟩
            obtain ⟨he23, rfl⟩ := getRes_enc hr23.out HBK.out.1 HBK.out.2.1 (by have := HBK.out.2.2; omega)
            have HE23 := Lib.hid he23.symm
            have U23 := Lib.hid (Up.trans U22.out hu23.out)
            have HL23 := Lib.hid (HL22.out.up hu23.out)
            have hb23 : n23 ≤ 140737488351232 := by have := hn23.out; omega
            obtain rfl := HN22.out
            have hsv := sameAll_any A21 A23 n21 c21 n23 c23 l21 l23 w23 HL23.out.inL hL23.out.inL hb21 hb23
            rw [decide_eq_true HE23.out] at hsv
            have HSV := Lib.hid hsv
            clear hsv he23 hr23 hu23
            go_wp2_with fail
            refine HSV.out.mono ?_
            rintro e w24 ⟨rfl, hu24⟩
            have U24 := Lib.hid (Up.trans U23.out hu24.out)
            go_wp2_with fail
            go_ret
            exact ⟨rfl, U24⟩
          · have HL0 := Lib.hid (show n21 = 0 by
              have h1 := getRes_err hr21.out hk21
              have h2 := hL21.out.len
              have h3 : l21 = [] := by simpa using h1
              rw [h3] at h2; exact h2.symm)
            have dk : (k21 != 0) = true := by simp [hk21]
            obtain rfl := HL0.out
            go_wp2_with fail
            go_ret
            exact ⟨rfl, U21⟩
        · have db : decide ((nx : Int) + (ny : Int) ≤ 4096) = false := by simp; omega
          go_upto_region 13 with (fail)
          have hl2 := HI2.out.len
          go_wp2_with (at_builtin; refine wpList_appendI rfl (.tmp 99) (.tmp 100) 23 rfl .u8 w7.heap.size 5 1 Try.underlying23 info5 (some ⟨w7.heap.size, 0, none⟩) 0 0 [] rfl (ownI_new _ _ _) a2 m2 c2 z2 rfl hl2 ((HI2.out.up Uw7.out).cells.alloc _) (by omega) (by omega) (by simp) ((Below.refl _ _).alloc (Nat.le_refl _) _) ?_; intro A20 N20 c20 w20 HN20 HW20 HB20 hsz20)
          have HO20 : Hid (OwnI .u8 5 w7.heap.size w20 A20 N20 c20 z2) := by have := HW20.out; rw [List.nil_append] at this; exact this
          have U20 := Lib.hid (Up.trans Uw7.out (show Up w7 w20 from HB20.out))
          have hN20 : N20 ≤ 140737488355328 := by have := HN20.out; omega
          clear HW20 HB20 hsz20
          refine (get_any' A20 N20 c20 z2 w20 (own_inB HO20.out HI2.out.byt) hN20).mono ?_
          rintro e w21 ⟨l21, p21, k21, A21, n21, c21, rfl, hr21, hL21, hn21, hu21⟩
          have U21 := Lib.hid (Up.trans U20.out hu21.out)
          clear HO20 hN20 hu21
          by_cases hk21 : k21 = 0
          · subst hk21
            have HBK := Lib.hid (getRes_back HI2.out.byt hr21.out)
            have hb21 : n21 ≤ 140737488351232 := by have := hn21.out; omega
            go_wp2_with fail
            refine (put_any' A21 n21 c21 l21 w21 hL21.out.inL hb21).mono ?_
            rintro e w22 ⟨ys22, k22, A22, n22, c22, rfl, hr22, hN22, hO22, hu22⟩
            obtain ⟨rfl, rfl⟩ := putRes_fit hr22.out HBK.out.2.1 (by have := HBK.out.2.2; omega)
            have U22 := Lib.hid (Up.trans U21.out hu22.out)
            have HI22 := Lib.hid (own_inB hO22.out (byt_encAs HBK.out.1))
            have HN22 := Lib.hid (show n22 = m2 by rw [hN22.out, HBK.out.2.2.1]; exact hl2)
            have HL22 := Lib.hid (hL21.out.up hu22.out)
            clear hr22 hN22 hO22 hu22 hL21 hr21
            go_wp2_with fail
            refine (get_any' A22 n22 c22 _ w22 HI22.out (by have := HN22.out; omega)).mono ?_
            rintro e w23 ⟨l23, p23, k23, A23, n23, c23, rfl, hr23, hL23, hn23, hu23⟩
            obtain ⟨he23, rfl⟩ := getRes_enc hr23.out HBK.out.1 HBK.out.2.1 (by have := HBK.out.2.2; omega)
            have HE23 := Lib.hid he23.symm
            have U23 := Lib.hid (Up.trans U22.out hu23.out)
            have HL23 := Lib.hid (HL22.out.up hu23.out)
            have hb23 : n23 ≤ 140737488351232 := by have := hn23.out; omega
            obtain rfl := HN22.out
            have hsv := sameAll_any A21 A23 n21 c21 n23 c23 l21 l23 w23 HL23.out.inL hL23.out.inL hb21 hb23
            rw [decide_eq_true HE23.out] at hsv
            have HSV := Lib.hid hsv
            clear hsv he23 hr23 hu23
            go_wp2_with fail
            refine HSV.out.mono ?_
            rintro e w24 ⟨rfl, hu24⟩
            have U24 := Lib.hid (Up.trans U23.out hu24.out)
            go_wp2_with fail
            go_ret
            exact ⟨rfl, U24⟩
          · have HL0 := Lib.hid (show n21 = 0 by
              have h1 := getRes_err hr21.out hk21
              have h2 := hL21.out.len
              have h3 : l21 = [] := by simpa using h1
              rw [h3] at h2; exact h2.symm)
            have dk : (k21 != 0) = true := by simp [hk21]
            obtain rfl := HL0.out
            go_wp2_with fail
            go_ret
            exact ⟨rfl, U21⟩
      · have ds : decide ((m0 : Int) + (m1 : Int) ≤ 64) = false := by simp; omega
        go_upto_region 13 with (fail)
        have hl2 := HI2.out.len
        go_wp2_with (at_builtin; refine wpList_appendI rfl (.tmp 99) (.tmp 100) 23 rfl .u8 w7.heap.size 5 1 Try.underlying23 info5 (some ⟨w7.heap.size, 0, none⟩) 0 0 [] rfl (ownI_new _ _ _) a2 m2 c2 z2 rfl hl2 ((HI2.out.up Uw7.out).cells.alloc _) (by omega) (by omega) (by simp) ((Below.refl _ _).alloc (Nat.le_refl _) _) ?_; intro A20 N20 c20 w20 HN20 HW20 HB20 hsz20)
        have HO20 : Hid (OwnI .u8 5 w7.heap.size w20 A20 N20 c20 z2) := by have := HW20.out; rw [List.nil_append] at this; exact this
        have U20 := Lib.hid (Up.trans Uw7.out (show Up w7 w20 from HB20.out))
        have hN20 : N20 ≤ 140737488355328 := by have := HN20.out; omega
        clear HW20 HB20 hsz20
        refine (get_any' A20 N20 c20 z2 w20 (own_inB HO20.out HI2.out.byt) hN20).mono ?_
        rintro e w21 ⟨l21, p21, k21, A21, n21, c21, rfl, hr21, hL21, hn21, hu21⟩
        have U21 := Lib.hid (Up.trans U20.out hu21.out)
        clear HO20 hN20 hu21
        by_cases hk21 : k21 = 0
        · subst hk21
          have HBK := Lib.hid (getRes_back HI2.out.byt hr21.out)
          have hb21 : n21 ≤ 140737488351232 := by have := hn21.out; omega
          go_wp2_with fail
          refine (put_any' A21 n21 c21 l21 w21 hL21.out.inL hb21).mono ?_
          rintro e w22 ⟨ys22, k22, A22, n22, c22, rfl, hr22, hN22, hO22, hu22⟩
          obtain ⟨rfl, rfl⟩ := putRes_fit hr22.out HBK.out.2.1 (by have := HBK.out.2.2; omega)
          have U22 := Lib.hid (Up.trans U21.out hu22.out)
          have HI22 := Lib.hid (own_inB hO22.out (byt_encAs HBK.out.1))
          have HN22 := Lib.hid (show n22 = m2 by rw [hN22.out, HBK.out.2.2.1]; exact hl2)
          have HL22 := Lib.hid (hL21.out.up hu22.out)
          clear hr22 hN22 hO22 hu22 hL21 hr21
          go_wp2_with fail
          refine (get_any' A22 n22 c22 _ w22 HI22.out (by have := HN22.out; omega)).mono ?_
          rintro e w23 ⟨l23, p23, k23, A23, n23, c23, rfl, hr23, hL23, hn23, hu23⟩
          obtain ⟨he23, rfl⟩ := getRes_enc hr23.out HBK.out.1 HBK.out.2.1 (by have := HBK.out.2.2; omega)
          have HE23 := Lib.hid he23.symm
          have U23 := Lib.hid (Up.trans U22.out hu23.out)
          have HL23 := Lib.hid (HL22.out.up hu23.out)
          have hb23 : n23 ≤ 140737488351232 := by have := hn23.out; omega
          obtain rfl := HN22.out
          have hsv := sameAll_any A21 A23 n21 c21 n23 c23 l21 l23 w23 HL23.out.inL hL23.out.inL hb21 hb23
          rw [decide_eq_true HE23.out] at hsv
          have HSV := Lib.hid hsv
          clear hsv he23 hr23 hu23
          go_wp2_with fail
          refine HSV.out.mono ?_
          rintro e w24 ⟨rfl, hu24⟩
          have U24 := Lib.hid (Up.trans U23.out hu24.out)
          go_wp2_with fail
          go_ret
          exact ⟨rfl, U24⟩
        · have HL0 := Lib.hid (show n21 = 0 by
            have h1 := getRes_err hr21.out hk21
            have h2 := hL21.out.len
            have h3 : l21 = [] := by simpa using h1
            rw [h3] at h2; exact h2.symm)
          have dk : (k21 != 0) = true := by simp [hk21]
          obtain rfl := HL0.out
          go_wp2_with fail
          go_ret
          exact ⟨rfl, U21⟩
    · have dy : (ky == 0) = false := by rw [beq_eq_false_iff_ne]; exact hky
      go_upto_region 13 with (fail)
      have hl2 := HI2.out.len
      go_wp2_with (at_builtin; refine wpList_appendI rfl (.tmp 99) (.tmp 100) 23 rfl .u8 w7.heap.size 5 1 Try.underlying23 info5 (some ⟨w7.heap.size, 0, none⟩) 0 0 [] rfl (ownI_new _ _ _) a2 m2 c2 z2 rfl hl2 ((HI2.out.up Uw7.out).cells.alloc _) (by omega) (by omega) (by simp) ((Below.refl _ _).alloc (Nat.le_refl _) _) ?_; intro A20 N20 c20 w20 HN20 HW20 HB20 hsz20)
      have HO20 : Hid (OwnI .u8 5 w7.heap.size w20 A20 N20 c20 z2) := by have := HW20.out; rw [List.nil_append] at this; exact this
      have U20 := Lib.hid (Up.trans Uw7.out (show Up w7 w20 from HB20.out))
      have hN20 : N20 ≤ 140737488355328 := by have := HN20.out; omega
      clear HW20 HB20 hsz20
      refine (get_any' A20 N20 c20 z2 w20 (own_inB HO20.out HI2.out.byt) hN20).mono ?_
      rintro e w21 ⟨l21, p21, k21, A21, n21, c21, rfl, hr21, hL21, hn21, hu21⟩
      have U21 := Lib.hid (Up.trans U20.out hu21.out)
      clear HO20 hN20 hu21
      by_cases hk21 : k21 = 0
      · subst hk21
        have HBK := Lib.hid (getRes_back HI2.out.byt hr21.out)
        have hb21 : n21 ≤ 140737488351232 := by have := hn21.out; omega
        go_wp2_with fail
        refine (put_any' A21 n21 c21 l21 w21 hL21.out.inL hb21).mono ?_
        rintro e w22 ⟨ys22, k22, A22, n22, c22, rfl, hr22, hN22, hO22, hu22⟩
        obtain ⟨rfl, rfl⟩ := putRes_fit hr22.out HBK.out.2.1 (by have := HBK.out.2.2; omega)
        have U22 := Lib.hid (Up.trans U21.out hu22.out)
        have HI22 := Lib.hid (own_inB hO22.out (byt_encAs HBK.out.1))
        have HN22 := Lib.hid (show n22 = m2 by rw [hN22.out, HBK.out.2.2.1]; exact hl2)
        have HL22 := Lib.hid (hL21.out.up hu22.out)
        clear hr22 hN22 hO22 hu22 hL21 hr21
        go_wp2_with fail
        refine (get_any' A22 n22 c22 _ w22 HI22.out (by have := HN22.out; omega)).mono ?_
        rintro e w23 ⟨l23, p23, k23, A23, n23, c23, rfl, hr23, hL23, hn23, hu23⟩
        obtain ⟨he23, rfl⟩ := getRes_enc hr23.out HBK.out.1 HBK.out.2.1 (by have := HBK.out.2.2; omega)
        have HE23 := Lib.hid he23.symm
        have U23 := Lib.hid (Up.trans U22.out hu23.out)
        have HL23 := Lib.hid (HL22.out.up hu23.out)
        have hb23 : n23 ≤ 140737488351232 := by have := hn23.out; omega
        obtain rfl := HN22.out
        have hsv := sameAll_any A21 A23 n21 c21 n23 c23 l21 l23 w23 HL23.out.inL hL23.out.inL hb21 hb23
        rw [decide_eq_true HE23.out] at hsv
        have HSV := Lib.hid hsv
        clear hsv he23 hr23 hu23
        go_wp2_with fail
        refine HSV.out.mono ?_
        rintro e w24 ⟨rfl, hu24⟩
        have U24 := Lib.hid (Up.trans U23.out hu24.out)
        go_wp2_with fail
        go_ret
        exact ⟨rfl, U24⟩
      · have HL0 := Lib.hid (show n21 = 0 by
          have h1 := getRes_err hr21.out hk21
          have h2 := hL21.out.len
          have h3 : l21 = [] := by simpa using h1
          rw [h3] at h2; exact h2.symm)
        have dk : (k21 != 0) = true := by simp [hk21]
        obtain rfl := HL0.out
        go_wp2_with fail
        go_ret
        exact ⟨rfl, U21⟩
  · have dx : (kx == 0) = false := by rw [beq_eq_false_iff_ne]; exact hkx
    go_upto_region 13 with (fail)
    have hl2 := HI2.out.len
    go_wp2_with (at_builtin; refine wpList_appendI rfl (.tmp 99) (.tmp 100) 23 rfl .u8 w5.heap.size 5 1 Try.underlying23 info5 (some ⟨w5.heap.size, 0, none⟩) 0 0 [] rfl (ownI_new _ _ _) a2 m2 c2 z2 rfl hl2 ((HI2.out.up Uw5.out).cells.alloc _) (by omega) (by omega) (by simp) ((Below.refl _ _).alloc (Nat.le_refl _) _) ?_; intro A20 N20 c20 w20 HN20 HW20 HB20 hsz20)
    have HO20 : Hid (OwnI .u8 5 w5.heap.size w20 A20 N20 c20 z2) := by have := HW20.out; rw [List.nil_append] at this; exact this
    have U20 := Lib.hid (Up.trans Uw5.out (show Up w5 w20 from HB20.out))
    have hN20 : N20 ≤ 140737488355328 := by have := HN20.out; omega
    clear HW20 HB20 hsz20
    refine (get_any' A20 N20 c20 z2 w20 (own_inB HO20.out HI2.out.byt) hN20).mono ?_
    rintro e w21 ⟨l21, p21, k21, A21, n21, c21, rfl, hr21, hL21, hn21, hu21⟩
    have U21 := Lib.hid (Up.trans U20.out hu21.out)
    clear HO20 hN20 hu21
    by_cases hk21 : k21 = 0
    · subst hk21
      have HBK := Lib.hid (getRes_back HI2.out.byt hr21.out)
      have hb21 : n21 ≤ 140737488351232 := by have := hn21.out; omega
      go_wp2_with fail
      refine (put_any' A21 n21 c21 l21 w21 hL21.out.inL hb21).mono ?_
      rintro e w22 ⟨ys22, k22, A22, n22, c22, rfl, hr22, hN22, hO22, hu22⟩
      obtain ⟨rfl, rfl⟩ := putRes_fit hr22.out HBK.out.2.1 (by have := HBK.out.2.2; omega)
      have U22 := Lib.hid (Up.trans U21.out hu22.out)
      have HI22 := Lib.hid (own_inB hO22.out (byt_encAs HBK.out.1))
      have HN22 := Lib.hid (show n22 = m2 by rw [hN22.out, HBK.out.2.2.1]; exact hl2)
      have HL22 := Lib.hid (hL21.out.up hu22.out)
      clear hr22 hN22 hO22 hu22 hL21 hr21
      go_wp2_with fail
      refine (get_any' A22 n22 c22 _ w22 HI22.out (by have := HN22.out; omega)).mono ?_
      rintro e w23 ⟨l23, p23, k23, A23, n23, c23, rfl, hr23, hL23, hn23, hu23⟩
      obtain ⟨he23, rfl⟩ := getRes_enc hr23.out HBK.out.1 HBK.out.2.1 (by have := HBK.out.2.2; omega)
      have HE23 := Lib.hid he23.symm
      have U23 := Lib.hid (Up.trans U22.out hu23.out)
      have HL23 := Lib.hid (HL22.out.up hu23.out)
      have hb23 : n23 ≤ 140737488351232 := by have := hn23.out; omega
      obtain rfl := HN22.out
      have hsv := sameAll_any A21 A23 n21 c21 n23 c23 l21 l23 w23 HL23.out.inL hL23.out.inL hb21 hb23
      rw [decide_eq_true HE23.out] at hsv
      have HSV := Lib.hid hsv
      clear hsv he23 hr23 hu23
      go_wp2_with fail
      refine HSV.out.mono ?_
      rintro e w24 ⟨rfl, hu24⟩
      have U24 := Lib.hid (Up.trans U23.out hu24.out)
      go_wp2_with fail
      go_ret
      exact ⟨rfl, U24⟩
    · have HL0 := Lib.hid (show n21 = 0 by
        have h1 := getRes_err hr21.out hk21
        have h2 := hL21.out.len
        have h3 : l21 = [] := by simpa using h1
        rw [h3] at h2; exact h2.symm)
      have dk : (k21 != 0) = true := by simp [hk21]
      obtain rfl := HL0.out
      go_wp2_with fail
      go_ret
      exact ⟨rfl, U21⟩
end Go.Proofs.Ytiagapibfdpfdaa
