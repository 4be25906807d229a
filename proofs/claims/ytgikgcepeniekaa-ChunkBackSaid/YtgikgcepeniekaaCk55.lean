import Derived.Test.YtgikgcepeniekaaCk54
import Derived.Test.YtgikgcepeniekaaCk45
namespace Go.Proofs.Ytgikgcepeniekaa
open Go Go.RowKit
set_option linter.unusedVariables false
set_option linter.unusedSimpArgs false
/-! The law ChunkBack. -/
theorem getRes_enc {l : List Ck.Chk} {xs : List Int} {cs : List Ck.Chk} {k : Int} (hx : xs = encL l) (h32 : l.length ≤ 32) (h4 : (encL l).length ≤ 4096) (h : GetRes xs cs k) : cs = l ∧ k = 0 := by
  subst hx
  rcases h with ⟨h1, h2⟩ | ⟨h1, -, -⟩
  · rw [getS_enc l 32 (okL_of h4) h32] at h2
    injection h2 with e1 e2
    exact ⟨e1.symm, e2.symm⟩
  · omega
theorem getRes_err {xs : List Int} {cs : List Ck.Chk} {k : Int} (h : GetRes xs cs k) (hk : k ≠ 0) : cs = [] := by
  rcases h with ⟨h1, h2⟩ | ⟨h1, h2, -⟩
  · have h3 := getS_err 32 xs (by rw [h2]; exact hk)
    rw [h2] at h3; exact h3
  · exact h2
theorem getRes_back {xs : List Int} {cs : List Ck.Chk} (hb : Byt xs) (h : GetRes xs cs 0) : encL cs = xs ∧ cs.length ≤ 32 ∧ xs.length ≤ 4096 := by
  rcases h with ⟨h1, h2⟩ | ⟨-, -, h3⟩
  · obtain ⟨i1, i2⟩ := getS_back 32 xs cs hb h2
    exact ⟨i1, i2, h1⟩
  · exact absurd h3 (by decide)
/-- Two lists, the second behind the first. -/
theorem inL_app {w : World} {A : Option Addr} {c base N : Nat} {l m : List ChB} (hr : w.ownsRow base 41 3 (.slice A N c) N (rowc l ++ rowc m)) (hl : ∀ x ∈ l, ChIn w x) (hm : ∀ x ∈ m, ChIn w x) (hn : (l ++ m).length = N) : InL w A N c (l ++ m) :=
  ⟨by rw [rowc_append]; exact row_cells hr, fun x hx => (List.mem_append.1 hx).elim (hl x) (hm x), row_cap hr, hn⟩
theorem InL.out {T : Nat → Prop} {w w' : World} {A : Option Addr} {n cap : Nat} {l : List ChB} (h : InL w A n cap l) (ho : Out T w w') (hc : ∀ k, k < w.heap.size → ¬ T k) : InL w' A n cap l := h.up (Below.out (Up.refl w) ho (fun k hk => Nat.le_of_not_lt fun hl => hc k hl hk) (Nat.le_refl _))
set_option maxRecDepth 1000000 in
set_option maxHeartbeats 8000000 in
theorem law_back (A1 A2 A3 : Option Addr) (n1 c1 n2 c2 m3 c3 : Nat) (l1 l2 : List ChB) (xs : List Int) (w : World) (h1 : InL w A1 n1 c1 l1) (h2 : InL w A2 n2 c2 l2) (h3 : InB w A3 m3 c3 xs) (hn1 : n1 ≤ 140737488351232) (hn2 : n2 ≤ 140737488351232) (hm3 : m3 ≤ 140737488351232) : Calls Try.prog 5 #[.slice A1 n1 c1, .slice A2 n2 c2, .slice A3 m3 c3] w (RetB true w) := by
  have H1 := Lib.hid h1
  have H2 := Lib.hid h2
  have HI3 := Lib.hid h3
  have hin3 := HI3
  have HB1 := Lib.hid (inL_bytL h1)
  have HB2 := Lib.hid (inL_bytL h2)
  have HL1 := Lib.hid (show (l1.map ChB.pure).length = n1 by simp [h1.len])
  have HL2 := Lib.hid (show (l2.map ChB.pure).length = n2 by simp [h2.len])
  clear h1 h2 h3
  go_enter Try.func5, Try.ntmps5
  go_wp2_with fail
  refine (own_any A1 n1 c1 l1 w H1.out hn1).mono ?_
  rintro e w1 ⟨B1, b1, d1, o1, rfl, hL, hE, hb1, hu1⟩
  have hn3 : b1 ≤ 140737488351232 := by have := hb1.out; omega
  go_wp2_with fail
  refine (put_any' B1 b1 d1 o1 w1 hL.out.inL hn3).mono ?_
  rintro e w2 ⟨y1, k1, P1, p1, q1, rfl, hr, hN1, hO1, hu2⟩
  have HR1 := Lib.hid (show PutRes (l1.map ChB.pure) y1 k1 from putRes_take (by have := hr.out; rwa [hE.out] at this))
  have U2 := Lib.hid (hu1.out.trans hu2.out)
  have HY1 := Lib.hid (own_inB hO1.out (HR1.out.byt HB1.out))
  clear hr hL hE hb1 hO1 hu1 hu2 hn3
  go_wp2_with fail
  refine (own_any A2 n2 c2 l2 w2 (H2.out.up U2.out) hn2).mono ?_
  rintro e w3 ⟨B2, b2, d2, o2, rfl, hL, hE, hb2, hu1⟩
  have hn3 : b2 ≤ 140737488351232 := by have := hb2.out; omega
  go_wp2_with fail
  refine (put_any' B2 b2 d2 o2 w3 hL.out.inL hn3).mono ?_
  rintro e w4 ⟨y2, k2, P2, p2, q2, rfl, hr, hN2, hO2, hu2⟩
  have HR2 := Lib.hid (show PutRes (l2.map ChB.pure) y2 k2 from putRes_take (by have := hr.out; rwa [hE.out] at this))
  have U4 := Lib.hid (U2.out.trans (hu1.out.trans hu2.out))
  have HY2 := Lib.hid (own_inB hO2.out (HR2.out.byt HB2.out))
  have HY1' := Lib.hid (HY1.out.up (hu1.out.trans hu2.out))
  clear hr hL hE hb2 hO2 hu1 hu2 hn3 HY1 U2
  go_wp2_with fail
  refine (answers_ok w4).mono ?_
  rintro e w5 ⟨rfl, hu5⟩
  have U5 := Lib.hid (U4.out.trans hu5.out)
  have Z1 := Lib.hid (HY1'.out.up hu5.out)
  have Z2 := Lib.hid (HY2.out.up hu5.out)
  clear hu5 U4 HY1' HY2
  have HKV1 := Lib.hid (show (k1 = 0 ∧ y1 = encL (l1.map ChB.pure) ∧ n1 ≤ 32 ∧ p1 ≤ 4096) ∨ k1 = 4 from by
    rcases HR1.out with ⟨a1, a2, a3⟩ | ⟨a1, -, -⟩
    · exact .inl ⟨a1, a2, by rw [← HL1.out]; exact a3.1, by rw [hN1.out, a2]; exact a3.2⟩
    · exact .inr a1)
  have HKV2 := Lib.hid (show (k2 = 0 ∧ y2 = encL (l2.map ChB.pure) ∧ n2 ≤ 32 ∧ p2 ≤ 4096) ∨ k2 = 4 from by
    rcases HR2.out with ⟨a1, a2, a3⟩ | ⟨a1, -, -⟩
    · exact .inl ⟨a1, a2, by rw [← HL2.out]; exact a3.1, by rw [hN2.out, a2]; exact a3.2⟩
    · exact .inr a1)
  rcases HKV1.out with ⟨rfl, hy1, hn32, hp1⟩ | rfl
  · have HE1 := Lib.hid hy1
    clear hy1 HKV1
    have hp1' : p1 ≤ 140737488351232 := by omega
    have HEL1 := Lib.hid (show (encL (l1.map ChB.pure)).length ≤ 4096 from by rw [← HE1.out, ← hN1.out]; exact hp1)
    go_wp2_with fail
    refine (get_any' P1 p1 q1 y1 w5 Z1.out hp1').mono ?_
    rintro e w6 ⟨lg, kg, G1, g1, f1, rfl, hrg, hLg, hbg, hng, hug⟩
    have HEQ := Lib.hid (getRes_enc HE1.out (by rw [HL1.out]; exact hn32) HEL1.out hrg.out)
    obtain rfl := HEQ.out.2
    have U6 := Lib.hid (U5.out.trans hug.out)
    have Y1 := Lib.hid (Z1.out.up hug.out)
    have Y2 := Lib.hid (Z2.out.up hug.out)
    have hg32 : g1 ≤ 140737488351232 := by have := hng.out; omega
    clear hrg hbg hug U5 Z1 Z2
    go_wp2_with fail
    refine (sameL lg l1 G1 A1 g1 f1 n1 c1 w6 hLg.out (H1.out.up U6.out) hg32 hn1).mono ?_
    rintro e w7 ⟨rfl, huh⟩
    rw [decide_eq_true HEQ.out.1]
    have U7 := Lib.hid (U6.out.trans huh.out)
    have X1 := Lib.hid (Y1.out.up huh.out)
    have X2 := Lib.hid (Y2.out.up huh.out)
    clear huh U6 Y1 Y2 hLg HEQ
    rcases HKV2.out with ⟨rfl, hy2, hm32, hp2⟩ | rfl
    · have HE2 := Lib.hid hy2
      clear hy2 HKV2
      have HEL2 := Lib.hid (show (encL (l2.map ChB.pure)).length = p2 from by rw [← HE2.out, ← hN2.out])
      have HEL1' := Lib.hid (show (encL (l1.map ChB.pure)).length = p1 from by rw [← HE1.out, ← hN1.out])
      by_cases hs32 : n1 + n2 ≤ 32
      · have e1 : decide ((n1 : Int) + (n2 : Int) ≤ 32) = true := by simp; omega
        by_cases hs40 : p1 + p2 ≤ 4096
        · have e2 : decide ((p1 : Int) + (p2 : Int) ≤ 4096) = true := by simp; omega
          have HN1' := Lib.hid hN1.out
          go_wp2_with (first
            | (at_builtin; refine wpList_appendI rfl (.tmp 71) (.tmp 72) 23 rfl .u8 w7.heap.size 5 1 Try.underlying23 info5 (some ⟨w7.heap.size, 0, none⟩) 0 0 [] rfl (ownI_new _ _ _) P1 p1 q1 y1 rfl X1.out.len (X1.out.cells.alloc _) (by omega) (by omega) (by simp) ((Below.refl _ _).alloc (Nat.le_refl _) _) ?_; intro A6 N6 c6 w6 HN6 HW6 HB6 hsz6)
            | (at_builtin; refine wpList_appendG rfl (.tmp 73) (.tmp 74) 23 rfl w7.heap.size 5 (.int .u8 0) 1 1 Try.underlying23 info5 rfl (by decide) A6 N6 c6 (ints .u8 y1) rfl (show OwnI .u8 5 w7.heap.size w6 A6 N6 c6 y1 by have := HW6.out; rw [List.nil_append] at this; exact this) P2 p2 q2 (ints .u8 y2) rfl (by rw [ints_length, X2.out.len, Nat.mul_one]) (X2.out.up HB6.out).cells (ints_one .u8 _) (by have := HN6.out; omega) (by have := HN6.out; omega) HB6.out.size ?_; intro A8 N8 c8 w8 HN8 HR8 HX8 HK8))
          have HO6 := Lib.hid (show OwnI .u8 5 w7.heap.size w6 A6 N6 c6 y1 by have := HW6.out; rw [List.nil_append] at this; exact this)
          have U8 := Lib.hid (show Up w7 w8 from Below.out HB6.out HX8.out (fun q hq => (row_lt HO6.out hq).1) HB6.out.size)
          have HO8 := Lib.hid (show OwnI .u8 5 w7.heap.size w8 A8 N8 c8 (y1 ++ y2) by unfold OwnI; rw [ints_append]; exact HR8.out)
          have HI8 := Lib.hid (own_inB HO8.out (X1.out.byt.append X2.out.byt))
          have hN8 : N8 ≤ 140737488351232 := by have := HN8.out; have := HN6.out; omega
          have V8 := Lib.hid (U7.out.trans U8.out)
          clear HR8 HX8 HK8 HW6 HB6 hsz6 HO6 HN8 HN6 HO8 U8
          refine (get_any' A8 N8 c8 (y1 ++ y2) w8 HI8.out hN8).mono ?_
          rintro e w9 ⟨lh, kh, G2, g2, f2, rfl, hrh, hLh, hbh, hnh, huk⟩
          have HEQ2 := Lib.hid (getRes_enc (l := l1.map ChB.pure ++ l2.map ChB.pure) (by rw [HE1.out, HE2.out, encL_append]) (by rw [List.length_append, HL1.out, HL2.out]; exact hs32) (by rw [encL_append, List.length_append, HEL1'.out, HEL2.out]; exact hs40) hrh.out)
          obtain rfl := HEQ2.out.2
          have V9 := Lib.hid (V8.out.trans huk.out)
          have hg32' : g2 ≤ 140737488351232 := by have := hnh.out; omega
          clear hrh hbh huk V8 HI8
          go_wp2_with fail
          refine (own_any A1 n1 c1 l1 w9 (H1.out.up V9.out) hn1).mono ?_
          rintro e va ⟨Br, br, dr, or_, rfl, hLr, hEr, hbr, hur⟩
          have hbr' := hbr.out
          have HOR := Lib.hid (show or_.map ChB.pure = l1.map ChB.pure by rw [hEr.out]; exact List.take_of_length_le (by rw [HL1.out]; omega))
          have HBR := Lib.hid (show br = n1 by rw [← hLr.out.len, ← HL1.out, ← HOR.out, List.length_map])
          have HI2a := Lib.hid (H2.out.up (V9.out.trans hur.out))
          go_wp2_with (at_builtin; refine wpList_appendG rfl (.tmp 84) (.tmp 85) 22 rfl 0 41 (.agg #[.int .u8 0, .int .u8 0, .slice none 0 0]) 3 32 Try.underlying22 info41 rfl (by decide) Br br dr (rowc or_) rfl hLr.out.row.own A2 n2 c2 (rowc l2) rfl (by rw [rowc_length, HI2a.out.len]) HI2a.out.cells (rowc_one _) (by omega) (by omega) (Nat.zero_le _) ?_; intro As Ns cs vb HNs HRs HXs HKs)
          have HUs := Lib.hid (show Up w9 vb from Below.out hur.out HXs.out (fun q hq => (hLr.out.row.blk q hq).1) hur.out.size)
          have HLs := Lib.hid (show InL vb As Ns cs (or_ ++ l2) from inL_app (base := 0) (by have := HRs.out; exact this) (fun x hx => ((hLr.out.ch x hx).1.out HXs.out (fun k hk e => (hLr.out.ch x hx).2 k hk e)).chIn) (fun x hx => (H2.out.ch x hx).up (V9.out.trans HUs.out)) (by rw [List.length_append, hLr.out.len, H2.out.len, HNs.out]))
          have Vb := Lib.hid (V9.out.trans HUs.out)
          have HLh := Lib.hid (hLh.out.up HUs.out)
          have hNs : Ns ≤ 140737488351232 := by have := HNs.out; have := HBR.out; omega
          have HEQ3 := Lib.hid (show lh.map ChB.pure = (or_ ++ l2).map ChB.pure by rw [HEQ2.out.1, List.map_append, HOR.out])
          clear HRs HXs HKs hLh hLr hEr hbr hur HI2a HUs V9 hbr'
          go_wp2_with fail
          refine (sameL lh (or_ ++ l2) G2 As g2 f2 Ns cs vb HLh.out HLs.out hg32' hNs).mono ?_
          rintro e vc ⟨rfl, hul⟩
          rw [decide_eq_true HEQ3.out]
          have UV := Lib.hid (Vb.out.trans hul.out)
          clear HLh HLs hul Vb
          have hbz := hin3.out.cap
          go_wp2_with (at_builtin; refine wpList_appendI rfl (.tmp 91) (.tmp 92) 23 rfl .u8 vc.heap.size 5 1 Try.underlying23 info5 (some ⟨vc.heap.size, 0, none⟩) 0 0 [] rfl (ownI_new _ _ _) A3 m3 c3 xs rfl HI3.out.len ((HI3.out.up UV.out).cells.alloc _) (by omega) (by omega) (by simp) ((Below.refl _ _).alloc (Nat.le_refl _) _) ?_; intro Aa Na ca wa HNa HWa HBa hsza)
          have HOa := Lib.hid (show OwnI .u8 5 vc.heap.size wa Aa Na ca xs by have := HWa.out; rw [List.nil_append] at this; exact this)
          have Ua := Lib.hid (show Up w wa from UV.out.trans HBa.out)
          have HIa := Lib.hid (own_inB HOa.out HI3.out.byt)
          have hNa : Na ≤ 140737488351232 := by have := HNa.out; omega
          clear HWa HBa hsza HNa HOa
          refine (get_any' Aa Na ca xs wa HIa.out hNa).mono ?_
          rintro e wb ⟨lz, kz, Az, nz, cz, rfl, hrz, hLz, hbz, hnz, huz⟩
          have Ub := Lib.hid (Ua.out.trans huz.out)
          clear HIa huz Ua
          by_cases hkz : kz = 0
          · subst hkz
            have HB0 := Lib.hid (getRes_back HI3.out.byt hrz.out)
            have hnz2 : nz ≤ 140737488351232 := by have := hnz.out; omega
            go_wp2_with fail
            refine (put_any' Az nz cz lz wb hLz.out hnz2).mono ?_
            rintro e wc ⟨zs, kp, Ap, np, cp, rfl, hrp, hNp, hOp, hup⟩
            have HP := Lib.hid (show kp = 0 ∧ zs = xs from by
              obtain ⟨b1, b2, b3⟩ := HB0.out
              rcases hrp.out with ⟨h1, h2, -⟩ | ⟨-, -, h3⟩
              · exact ⟨h1, by rw [h2, b1]⟩
              · exact absurd ⟨b2, by rw [b1]; exact b3⟩ h3)
            obtain ⟨rfl, rfl⟩ := HP.out
            have Uc := Lib.hid (Ub.out.trans hup.out)
            have k1 := conv_up (own_inB hOp.out HI3.out.byt) (Up.refl wc)
            have k2 := conv_up HI3.out Uc.out
            clear hrp hOp hup hrz HB0
            go_wp2_with fail
            go_ret
            exact ⟨by simp, Uc⟩
          · have hkb : (kz != 0) = true := by simp [hkz]
            have hnz0 : nz = 0 := by
              have h1 := getRes_err hrz.out hkz
              have h2 := hLz.out.len
              have h3 : lz = [] := by simpa using h1
              rw [h3] at h2; simpa using h2.symm
            subst hnz0
            go_wp2_with fail
            go_ret
            exact ⟨by simp, Ub⟩
        · have e2 : decide ((p1 : Int) + (p2 : Int) ≤ 4096) = false := by simp; omega
          have UV := U7
          have hbz := hin3.out.cap
          go_wp2_with (at_builtin; refine wpList_appendI rfl (.tmp 91) (.tmp 92) 23 rfl .u8 w7.heap.size 5 1 Try.underlying23 info5 (some ⟨w7.heap.size, 0, none⟩) 0 0 [] rfl (ownI_new _ _ _) A3 m3 c3 xs rfl HI3.out.len ((HI3.out.up UV.out).cells.alloc _) (by omega) (by omega) (by simp) ((Below.refl _ _).alloc (Nat.le_refl _) _) ?_; intro Aa Na ca wa HNa HWa HBa hsza)
          have HOa := Lib.hid (show OwnI .u8 5 w7.heap.size wa Aa Na ca xs by have := HWa.out; rw [List.nil_append] at this; exact this)
          have Ua := Lib.hid (show Up w wa from UV.out.trans HBa.out)
          have HIa := Lib.hid (own_inB HOa.out HI3.out.byt)
          have hNa : Na ≤ 140737488351232 := by have := HNa.out; omega
          clear HWa HBa hsza HNa HOa
          refine (get_any' Aa Na ca xs wa HIa.out hNa).mono ?_
          rintro e wb ⟨lz, kz, Az, nz, cz, rfl, hrz, hLz, hbz, hnz, huz⟩
          have Ub := Lib.hid (Ua.out.trans huz.out)
          clear HIa huz Ua
          by_cases hkz : kz = 0
          · subst hkz
            have HB0 := Lib.hid (getRes_back HI3.out.byt hrz.out)
            have hnz2 : nz ≤ 140737488351232 := by have := hnz.out; omega
            go_wp2_with fail
            refine (put_any' Az nz cz lz wb hLz.out hnz2).mono ?_
            rintro e wc ⟨zs, kp, Ap, np, cp, rfl, hrp, hNp, hOp, hup⟩
            have HP := Lib.hid (show kp = 0 ∧ zs = xs from by
              obtain ⟨b1, b2, b3⟩ := HB0.out
              rcases hrp.out with ⟨h1, h2, -⟩ | ⟨-, -, h3⟩
              · exact ⟨h1, by rw [h2, b1]⟩
              · exact absurd ⟨b2, by rw [b1]; exact b3⟩ h3)
            obtain ⟨rfl, rfl⟩ := HP.out
            have Uc := Lib.hid (Ub.out.trans hup.out)
            have k1 := conv_up (own_inB hOp.out HI3.out.byt) (Up.refl wc)
            have k2 := conv_up HI3.out Uc.out
            clear hrp hOp hup hrz HB0
            go_wp2_with fail
            go_ret
            exact ⟨by simp, Uc⟩
          · have hkb : (kz != 0) = true := by simp [hkz]
            have hnz0 : nz = 0 := by
              have h1 := getRes_err hrz.out hkz
              have h2 := hLz.out.len
              have h3 : lz = [] := by simpa using h1
              rw [h3] at h2; simpa using h2.symm
            subst hnz0
            go_wp2_with fail
            go_ret
            exact ⟨by simp, Ub⟩
      · have e1 : decide ((n1 : Int) + (n2 : Int) ≤ 32) = false := by simp; omega
        have UV := U7
        have hbz := hin3.out.cap
        go_wp2_with (at_builtin; refine wpList_appendI rfl (.tmp 91) (.tmp 92) 23 rfl .u8 w7.heap.size 5 1 Try.underlying23 info5 (some ⟨w7.heap.size, 0, none⟩) 0 0 [] rfl (ownI_new _ _ _) A3 m3 c3 xs rfl HI3.out.len ((HI3.out.up UV.out).cells.alloc _) (by omega) (by omega) (by simp) ((Below.refl _ _).alloc (Nat.le_refl _) _) ?_; intro Aa Na ca wa HNa HWa HBa hsza)
        have HOa := Lib.hid (show OwnI .u8 5 w7.heap.size wa Aa Na ca xs by have := HWa.out; rw [List.nil_append] at this; exact this)
        have Ua := Lib.hid (show Up w wa from UV.out.trans HBa.out)
        have HIa := Lib.hid (own_inB HOa.out HI3.out.byt)
        have hNa : Na ≤ 140737488351232 := by have := HNa.out; omega
        clear HWa HBa hsza HNa HOa
        refine (get_any' Aa Na ca xs wa HIa.out hNa).mono ?_
        rintro e wb ⟨lz, kz, Az, nz, cz, rfl, hrz, hLz, hbz, hnz, huz⟩
        have Ub := Lib.hid (Ua.out.trans huz.out)
        clear HIa huz Ua
        by_cases hkz : kz = 0
        · subst hkz
          have HB0 := Lib.hid (getRes_back HI3.out.byt hrz.out)
          have hnz2 : nz ≤ 140737488351232 := by have := hnz.out; omega
          go_wp2_with fail
          refine (put_any' Az nz cz lz wb hLz.out hnz2).mono ?_
          rintro e wc ⟨zs, kp, Ap, np, cp, rfl, hrp, hNp, hOp, hup⟩
          have HP := Lib.hid (show kp = 0 ∧ zs = xs from by
            obtain ⟨b1, b2, b3⟩ := HB0.out
            rcases hrp.out with ⟨h1, h2, -⟩ | ⟨-, -, h3⟩
            · exact ⟨h1, by rw [h2, b1]⟩
            · exact absurd ⟨b2, by rw [b1]; exact b3⟩ h3)
          obtain ⟨rfl, rfl⟩ := HP.out
          have Uc := Lib.hid (Ub.out.trans hup.out)
          have k1 := conv_up (own_inB hOp.out HI3.out.byt) (Up.refl wc)
          have k2 := conv_up HI3.out Uc.out
          clear hrp hOp hup hrz HB0
          go_wp2_with fail
          go_ret
          exact ⟨by simp, Uc⟩
        · have hkb : (kz != 0) = true := by simp [hkz]
          have hnz0 : nz = 0 := by
            have h1 := getRes_err hrz.out hkz
            have h2 := hLz.out.len
            have h3 : lz = [] := by simpa using h1
            rw [h3] at h2; simpa using h2.symm
          subst hnz0
          go_wp2_with fail
          go_ret
          exact ⟨by simp, Ub⟩
    · have UV := U7
      have hbz := hin3.out.cap
      go_wp2_with (at_builtin; refine wpList_appendI rfl (.tmp 91) (.tmp 92) 23 rfl .u8 w7.heap.size 5 1 Try.underlying23 info5 (some ⟨w7.heap.size, 0, none⟩) 0 0 [] rfl (ownI_new _ _ _) A3 m3 c3 xs rfl HI3.out.len ((HI3.out.up UV.out).cells.alloc _) (by omega) (by omega) (by simp) ((Below.refl _ _).alloc (Nat.le_refl _) _) ?_; intro Aa Na ca wa HNa HWa HBa hsza)
      have HOa := Lib.hid (show OwnI .u8 5 w7.heap.size wa Aa Na ca xs by have := HWa.out; rw [List.nil_append] at this; exact this)
      have Ua := Lib.hid (show Up w wa from UV.out.trans HBa.out)
      have HIa := Lib.hid (own_inB HOa.out HI3.out.byt)
      have hNa : Na ≤ 140737488351232 := by have := HNa.out; omega
      clear HWa HBa hsza HNa HOa
      refine (get_any' Aa Na ca xs wa HIa.out hNa).mono ?_
      rintro e wb ⟨lz, kz, Az, nz, cz, rfl, hrz, hLz, hbz, hnz, huz⟩
      have Ub := Lib.hid (Ua.out.trans huz.out)
      clear HIa huz Ua
      by_cases hkz : kz = 0
      · subst hkz
        have HB0 := Lib.hid (getRes_back HI3.out.byt hrz.out)
        have hnz2 : nz ≤ 140737488351232 := by have := hnz.out; omega
        go_wp2_with fail
        refine (put_any' Az nz cz lz wb hLz.out hnz2).mono ?_
        rintro e wc ⟨zs, kp, Ap, np, cp, rfl, hrp, hNp, hOp, hup⟩
        have HP := Lib.hid (show kp = 0 ∧ zs = xs from by
          obtain ⟨b1, b2, b3⟩ := HB0.out
          rcases hrp.out with ⟨h1, h2, -⟩ | ⟨-, -, h3⟩
          · exact ⟨h1, by rw [h2, b1]⟩
          · exact absurd ⟨b2, by rw [b1]; exact b3⟩ h3)
        obtain ⟨rfl, rfl⟩ := HP.out
        have Uc := Lib.hid (Ub.out.trans hup.out)
        have k1 := conv_up (own_inB hOp.out HI3.out.byt) (Up.refl wc)
        have k2 := conv_up HI3.out Uc.out
        clear hrp hOp hup hrz HB0
        go_wp2_with fail
        go_ret
        exact ⟨by simp, Uc⟩
      · have hkb : (kz != 0) = true := by simp [hkz]
        have hnz0 : nz = 0 := by
          have h1 := getRes_err hrz.out hkz
          have h2 := hLz.out.len
          have h3 : lz = [] := by simpa using h1
          rw [h3] at h2; simpa using h2.symm
        subst hnz0
        go_wp2_with fail
        go_ret
        exact ⟨by simp, Ub⟩
  · have UV := U5
    have hbz := hin3.out.cap
    go_wp2_with (at_builtin; refine wpList_appendI rfl (.tmp 91) (.tmp 92) 23 rfl .u8 w5.heap.size 5 1 Try.underlying23 info5 (some ⟨w5.heap.size, 0, none⟩) 0 0 [] rfl (ownI_new _ _ _) A3 m3 c3 xs rfl HI3.out.len ((HI3.out.up UV.out).cells.alloc _) (by omega) (by omega) (by simp) ((Below.refl _ _).alloc (Nat.le_refl _) _) ?_; intro Aa Na ca wa HNa HWa HBa hsza)
    have HOa := Lib.hid (show OwnI .u8 5 w5.heap.size wa Aa Na ca xs by have := HWa.out; rw [List.nil_append] at this; exact this)
    have Ua := Lib.hid (show Up w wa from UV.out.trans HBa.out)
    have HIa := Lib.hid (own_inB HOa.out HI3.out.byt)
    have hNa : Na ≤ 140737488351232 := by have := HNa.out; omega
    clear HWa HBa hsza HNa HOa
    refine (get_any' Aa Na ca xs wa HIa.out hNa).mono ?_
    rintro e wb ⟨lz, kz, Az, nz, cz, rfl, hrz, hLz, hbz, hnz, huz⟩
    have Ub := Lib.hid (Ua.out.trans huz.out)
    clear HIa huz Ua
    by_cases hkz : kz = 0
    · subst hkz
      have HB0 := Lib.hid (getRes_back HI3.out.byt hrz.out)
      have hnz2 : nz ≤ 140737488351232 := by have := hnz.out; omega
      go_wp2_with fail
      refine (put_any' Az nz cz lz wb hLz.out hnz2).mono ?_
      rintro e wc ⟨zs, kp, Ap, np, cp, rfl, hrp, hNp, hOp, hup⟩
      have HP := Lib.hid (show kp = 0 ∧ zs = xs from by
        obtain ⟨b1, b2, b3⟩ := HB0.out
        rcases hrp.out with ⟨h1, h2, -⟩ | ⟨-, -, h3⟩
        · exact ⟨h1, by rw [h2, b1]⟩
        · exact absurd ⟨b2, by rw [b1]; exact b3⟩ h3)
      obtain ⟨rfl, rfl⟩ := HP.out
      have Uc := Lib.hid (Ub.out.trans hup.out)
      have k1 := conv_up (own_inB hOp.out HI3.out.byt) (Up.refl wc)
      have k2 := conv_up HI3.out Uc.out
      clear hrp hOp hup hrz HB0
      go_wp2_with fail
      go_ret
      exact ⟨by simp, Uc⟩
    · have hkb : (kz != 0) = true := by simp [hkz]
      have hnz0 : nz = 0 := by
        have h1 := getRes_err hrz.out hkz
        have h2 := hLz.out.len
        have h3 : lz = [] := by simpa using h1
        rw [h3] at h2; simpa using h2.symm
      subst hnz0
      go_wp2_with fail
      go_ret
      exact ⟨by simp, Ub⟩
end Go.Proofs.Ytgikgcepeniekaa
