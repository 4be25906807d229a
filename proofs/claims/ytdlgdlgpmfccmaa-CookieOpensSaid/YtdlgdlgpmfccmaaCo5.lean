import Derived.Test.YtdlgdlgpmfccmaaCo3
namespace Go.Proofs.Ytdlgdlgpmfccmaa
open Go Go.RowKit
set_option linter.unusedVariables false
set_option linter.unusedSimpArgs false
/-! The reference's Seal. -/
theorem not_fit {t a b c d e f g : Int} (h : ¬ Cr.fit ⟨t, a, b, c, d, e, f, g⟩) : t < 0 ∨ (0 ≤ t ∧ 1099511627776 < t) ∨ ((0 ≤ t ∧ t ≤ 1099511627776) ∧ a = 0) ∨ ((0 ≤ t ∧ t ≤ 1099511627776) ∧ a ≠ 0 ∧ b = 0) := by
  unfold Cr.fit at h
  simp only at h
  by_cases h1 : 0 ≤ t <;> by_cases h2 : t ≤ 1099511627776 <;> by_cases h3 : a = 0 <;> by_cases h4 : b = 0 <;> simp_all <;> omega
set_option maxRecDepth 100000 in
set_option maxHeartbeats 4000000 in
theorem rseal_no (key : Int) (x : Cr) (w : World) (hx : ¬ x.fit) : Calls Try.prog 8 #[.int .u64 key, x.val] w (SealPost key x w) := by
  obtain ⟨t, a, b, c, d, e, f, g⟩ := x
  have HF := Lib.hid hx
  have hc := not_fit hx
  clear hx
  show Calls Try.prog 8 #[.int .u64 key, .agg #[.int .i64 t, .int .u32 a, .int .u32 b, .int .u32 c, .int .u32 d, .int .u32 e, .int .u32 f, .int .u32 g]] w _
  have HU := Lib.hid (up_alloc w (.cells #[.int .i64 t, .int .u32 a, .int .u32 b, .int .u32 c, .int .u32 d, .int .u32 e, .int .u32 f, .int .u32 g] 25))
  rcases hc with h1 | ⟨h1, h2⟩ | ⟨⟨h1, h2⟩, rfl⟩ | ⟨⟨h1, h2⟩, h3, rfl⟩
  all_goals
    go_enter Try.func8, Try.ntmps8
    go_wp2_with fail
    go_ret2
    exact ⟨[], 1, none, 0, 0, rfl, Lib.hid (.inr ⟨HF.out, rfl, rfl⟩), Lib.hid rfl, Lib.hid (ownI_nil _ _ _ _), HU⟩
set_option maxRecDepth 100000 in
set_option maxHeartbeats 4000000 in
theorem rseal_ok (key : Int) (x : Cr) (w : World) (hx : x.Ok) (hf : x.fit) : Calls Try.prog 8 #[.int .u64 key, x.val] w (SealPost key x w) := by
  have HX := Lib.hid hx
  have HF := Lib.hid hf
  have HN := Lib.hid (show CrAt (w.alloc (.cells #[.int .i64 x.t, .int .u32 x.a, .int .u32 x.b, .int .u32 x.c, .int .u32 x.d, .int .u32 x.e, .int .u32 x.f, .int .u32 x.g] 25)) w.heap.size x from crAt_new w x)
  have HU := Lib.hid (up_alloc w (.cells #[.int .i64 x.t, .int .u32 x.a, .int .u32 x.b, .int .u32 x.c, .int .u32 x.d, .int .u32 x.e, .int .u32 x.f, .int .u32 x.g] 25))
  have HV := Lib.hid (show Cr.val x = .agg #[.int .i64 x.t, .int .u32 x.a, .int .u32 x.b, .int .u32 x.c, .int .u32 x.d, .int .u32 x.e, .int .u32 x.f, .int .u32 x.g] from rfl)
  have t0 := hf.1.1
  have t1 := hf.1.2
  have z0 : decide (x.t < 0) = false := by simp; omega
  have z1 : decide (1099511627776 < x.t) = false := by simp; omega
  have z2 : (x.a == 0) = false := by simpa using hf.2.1
  have z3 : (x.b == 0) = false := by simpa using hf.2.2
  clear hx hf
  rw [HV.out]
  go_enter Try.func8, Try.ntmps8
  go_upto_region 1 with (fail)
  generalize hwa : w.alloc (.cells #[.int .i64 x.t, .int .u32 x.a, .int .u32 x.b, .int .u32 x.c, .int .u32 x.d, .int .u32 x.e, .int .u32 x.f, .int .u32 x.g] 25) = w0 at HN HU ⊢
  generalize hqq : w.heap.size = q at HN ⊢
  have HQ := Lib.hid hqq
  clear hwa hqq
  have c0 : w0.cell? ⟨q, 0, none⟩ = some (.int .i64 x.t) := cell_of HN.out rfl
  have c1 : w0.cell? ⟨q, 1, none⟩ = some (.int .u32 x.a) := cell_of HN.out rfl
  have c2 : w0.cell? ⟨q, 2, none⟩ = some (.int .u32 x.b) := cell_of HN.out rfl
  go_wp2_with fail
  refine (rput none 0 0 8 [] x.t w0 (inB_nil w0) (by omega) (by omega) (by omega)).mono ?_
  rintro e w1 ⟨A1, N1, d1, rfl, hN1, hO1, hu1⟩
  obtain rfl : N1 = 8 := by rw [hN1]; simp [be_length]
  rw [List.nil_append] at hO1
  have HI1 := Lib.hid (own_inB hO1 (x.byt_pre 0))
  have HU1 := Lib.hid (HU.out.trans hu1)
  have HN1 := Lib.hid (HN.out.up hu1)
  clear hO1 hu1 hN1 c0 c1 c2 t0 t1 z0 z1 z2 z3
  have k1 : w1.cell? ⟨q, 1, none⟩ = some (.int .u32 x.a) := cell_of HN1.out rfl
  have b0 := HX.out.a.1
  have b1 := HX.out.a.2
  go_wp2_with fail
  refine (rput A1 8 d1 4 (x.pre 0) x.a w1 HI1.out (by omega) (by omega) (by omega)).mono ?_
  rintro e w2 ⟨A2, N2, d2, rfl, hN, hO, hu⟩
  obtain rfl : N2 = 12 := by rw [hN]; simp [be_length, Cr.pre_length]
  have HI2 := Lib.hid (show InB w2 A2 12 d2 (x.pre 1) from own_inB hO (x.byt_pre 1))
  have HU2 := Lib.hid (HU1.out.trans hu)
  have HN2 := Lib.hid (HN1.out.up hu)
  clear hN hO hu b0 b1 k1
  have k2 : w2.cell? ⟨q, 2, none⟩ = some (.int .u32 x.b) := cell_of HN2.out rfl
  have b0 := HX.out.b.1
  have b1 := HX.out.b.2
  go_wp2_with fail
  refine (rput A2 12 d2 4 (x.pre 1) x.b w2 HI2.out (by omega) (by omega) (by omega)).mono ?_
  rintro e w3 ⟨A3, N3, d3, rfl, hN, hO, hu⟩
  obtain rfl : N3 = 16 := by rw [hN]; simp [be_length, Cr.pre_length]
  have HI3 := Lib.hid (show InB w3 A3 16 d3 (x.pre 2) from own_inB hO (x.byt_pre 2))
  have HU3 := Lib.hid (HU2.out.trans hu)
  have HN3 := Lib.hid (HN2.out.up hu)
  clear hN hO hu b0 b1 k2
  have k3 : w3.cell? ⟨q, 3, none⟩ = some (.int .u32 x.c) := cell_of HN3.out rfl
  have b0 := HX.out.c.1
  have b1 := HX.out.c.2
  go_wp2_with fail
  refine (rput A3 16 d3 4 (x.pre 2) x.c w3 HI3.out (by omega) (by omega) (by omega)).mono ?_
  rintro e w4 ⟨A4, N4, d4, rfl, hN, hO, hu⟩
  obtain rfl : N4 = 20 := by rw [hN]; simp [be_length, Cr.pre_length]
  have HI4 := Lib.hid (show InB w4 A4 20 d4 (x.pre 3) from own_inB hO (x.byt_pre 3))
  have HU4 := Lib.hid (HU3.out.trans hu)
  have HN4 := Lib.hid (HN3.out.up hu)
  clear hN hO hu b0 b1 k3
  have k4 : w4.cell? ⟨q, 4, none⟩ = some (.int .u32 x.d) := cell_of HN4.out rfl
  have b0 := HX.out.d.1
  have b1 := HX.out.d.2
  go_wp2_with fail
  refine (rput A4 20 d4 4 (x.pre 3) x.d w4 HI4.out (by omega) (by omega) (by omega)).mono ?_
  rintro e w5 ⟨A5, N5, d5, rfl, hN, hO, hu⟩
  obtain rfl : N5 = 24 := by rw [hN]; simp [be_length, Cr.pre_length]
  have HI5 := Lib.hid (show InB w5 A5 24 d5 (x.pre 4) from own_inB hO (x.byt_pre 4))
  have HU5 := Lib.hid (HU4.out.trans hu)
  have HN5 := Lib.hid (HN4.out.up hu)
  clear hN hO hu b0 b1 k4
  have k5 : w5.cell? ⟨q, 5, none⟩ = some (.int .u32 x.e) := cell_of HN5.out rfl
  have b0 := HX.out.e.1
  have b1 := HX.out.e.2
  go_wp2_with fail
  refine (rput A5 24 d5 4 (x.pre 4) x.e w5 HI5.out (by omega) (by omega) (by omega)).mono ?_
  rintro e w6 ⟨A6, N6, d6, rfl, hN, hO, hu⟩
  obtain rfl : N6 = 28 := by rw [hN]; simp [be_length, Cr.pre_length]
  have HI6 := Lib.hid (show InB w6 A6 28 d6 (x.pre 5) from own_inB hO (x.byt_pre 5))
  have HU6 := Lib.hid (HU5.out.trans hu)
  have HN6 := Lib.hid (HN5.out.up hu)
  clear hN hO hu b0 b1 k5
  have k6 : w6.cell? ⟨q, 6, none⟩ = some (.int .u32 x.f) := cell_of HN6.out rfl
  have b0 := HX.out.f.1
  have b1 := HX.out.f.2
  go_wp2_with fail
  refine (rput A6 28 d6 4 (x.pre 5) x.f w6 HI6.out (by omega) (by omega) (by omega)).mono ?_
  rintro e w7 ⟨A7, N7, d7, rfl, hN, hO, hu⟩
  obtain rfl : N7 = 32 := by rw [hN]; simp [be_length, Cr.pre_length]
  have HI7 := Lib.hid (show InB w7 A7 32 d7 (x.pre 6) from own_inB hO (x.byt_pre 6))
  have HU7 := Lib.hid (HU6.out.trans hu)
  have HN7 := Lib.hid (HN6.out.up hu)
  clear hN hO hu b0 b1 k6
  have k7 : w7.cell? ⟨q, 7, none⟩ = some (.int .u32 x.g) := cell_of HN7.out rfl
  have b0 := HX.out.g.1
  have b1 := HX.out.g.2
  go_wp2_with fail
  refine (rput A7 32 d7 4 (x.pre 6) x.g w7 HI7.out (by omega) (by omega) (by omega)).mono ?_
  rintro e w8 ⟨A8, N8, d8, rfl, hN, hO, hu⟩
  obtain rfl : N8 = 36 := by rw [hN]; simp [be_length, Cr.pre_length]
  have HI8 := Lib.hid (show InB w8 A8 36 d8 (x.pre 7) from own_inB hO (x.byt_pre 7))
  have HU8 := Lib.hid (HU7.out.trans hu)
  have HN8 := Lib.hid (HN7.out.up hu)
  clear hN hO hu b0 b1 k7
  go_wp2_with fail
  refine (rput none 0 0 8 [] key w8 (inB_nil w8) (by omega) (by omega) (by omega)).mono ?_
  rintro e w9 ⟨A9, N9, d9, rfl, hN, hO, hu⟩
  obtain rfl : N9 = 8 := by rw [hN]; simp [be_length]
  rw [List.nil_append] at hO
  have HI9 := Lib.hid (own_inB hO (be_byt key 8))
  have HB9 := Lib.hid (HI8.out.up hu)
  have HU9 := Lib.hid (HU8.out.trans hu)
  clear hN hO hu
  go_wp2_with (first
    | (at_builtin; refine wpList_appendI rfl (.tmp 68) (.tmp 69) 26 rfl .u8 w9.heap.size 5 1 Try.underlying26 info5 (some ⟨w9.heap.size, 0, none⟩) 0 0 [] rfl (ownI_new _ _ _) A9 8 d9 (be key 8) rfl HI9.out.len (HI9.out.cells.alloc _) (by omega) (by omega) (by simp) ((Below.refl _ _).alloc (Nat.le_refl _) _) ?_; intro A10 N10 d10 w10 HN10 HW10 HB10 hsz10)
    | (at_builtin; refine wpList_appendI rfl (.tmp 70) (.tmp 71) 26 rfl .u8 w9.heap.size 5 1 Try.underlying26 info5 A10 N10 d10 ([] ++ be key 8) rfl HW10.out A8 36 d8 (x.pre 7) rfl HB9.out.len (HB9.out.cells.up HB10.out) (by have := HN10.out; omega) (by have := HN10.out; omega) hsz10 HB10.out ?_; intro A11 N11 d11 w11 HN11 HW11 HB11 hsz11)
    | (at_builtin; refine wpList_appendI rfl (.tmp 72) (.tmp 73) 26 rfl .u8 w9.heap.size 5 1 Try.underlying26 info5 A11 N11 d11 (([] ++ be key 8) ++ x.pre 7) rfl HW11.out A9 8 d9 (be key 8) rfl HI9.out.len (HI9.out.cells.up HB11.out) (by have := HN11.out; have := HN10.out; omega) (by have := HN11.out; have := HN10.out; omega) hsz11 HB11.out ?_; intro A12 N12 d12 w12 HN12 HW12 HB12 hsz12))
  have hN12 : N12 = 52 := by have := HN10.out; have := HN11.out; have := HN12.out; omega
  subst hN12
  have HI12 := Lib.hid (own_inB HW12.out (((byt_nil.append (be_byt key 8)).append (x.byt_pre 7)).append (be_byt key 8)))
  have HU12 := Lib.hid (HU9.out.trans HB12.out)
  have HX12 := Lib.hid (HB9.out.up HB12.out)
  refine (rsumB HI12.out (by omega)).mono ?_
  rintro e w13 ⟨rfl, rfl⟩
  have hS : Crc.more 0 (nats ((([] ++ be key 8) ++ x.pre 7) ++ be key 8)) = Cr.sum key x.body := by unfold Cr.sum; rw [Cr.pre_body]; simp
  rw [hS]
  clear hS HN10 HW10 HB10 hsz10 HN11 HW11 HB11 hsz11 HN12 HW12 HB12 hsz12
  have hlt := Cr.sum_lt (key := key) x.byt_body
  go_wp2_with fail
  refine (rput A8 36 d8 4 (x.pre 7) _ w12 HX12.out (by omega) (by omega) (by omega)).mono ?_
  rintro e w14 ⟨A14, N14, d14, rfl, hN, hO, hu⟩
  have HU14 := Lib.hid (HU12.out.trans hu)
  have HO14 := Lib.hid (hO.base HU12.out.size)
  have HN14 := Lib.hid hN
  clear hO hu hN hlt
  go_wp2_with fail
  go_ret2
  exact ⟨Cr.enc key x, 0, A14, N14, d14, rfl, Lib.hid (.inl ⟨HF.out, rfl, rfl⟩), HN14, HO14, HU14⟩
theorem rseal_any (key : Int) (x : Cr) (w : World) (hx : x.Ok) : Calls Try.prog 8 #[.int .u64 key, x.val] w (SealPost key x w) := by
  by_cases hf : x.fit
  · exact rseal_ok key x w hx hf
  · exact rseal_no key x w hf
end Go.Proofs.Ytdlgdlgpmfccmaa
