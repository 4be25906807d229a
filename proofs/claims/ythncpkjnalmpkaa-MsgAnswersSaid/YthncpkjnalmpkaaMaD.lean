import Derived.Test.YthncpkjnalmpkaaMaC
namespace Go.Proofs.Ythncpkjnalmpkaa
open Go Go.RowKit Mg
set_option linter.unusedVariables false
set_option linter.unusedSimpArgs false
/-! Code, of a message whose first attribute is a result code of four bytes; the law MsgAnswers. -/
set_option maxRecDepth 100000 in
set_option maxHeartbeats 20000000 in
theorem code_first (X : MsB) (x : AvB) (rest : List AvB) (w : World) (h : InL w X.A X.n X.c X.avps) (hn : X.n ≤ 103) (hl : X.avps = x :: rest) (hc : x.code = 268) (hv : x.vendor = 0) (hb : x.n = 4) :
    Calls Try.prog 21 #[msV X] w fun e w' => e = .returned (.int .i64 (num 0 x.bs)) ∧ Up w w' := by
  have HLN := Lib.hid (show 0 < X.n by rw [← h.len, hl]; simp)
  have HU := Lib.hid (up_alloc w (msO X))
  have HC := Lib.hid (new_at w (msO X))
  have H := Lib.hid (h.up HU.out)
  clear h
  unfold msV
  go_enter Try.func21, Try.ntmps21
  go_upto_region 1 with (fail)
  change Code.wp _ _ _ _ (w.alloc (msO X))
  generalize w.alloc (msO X) = wa at HC HU H ⊢
  generalize w.heap.size = pb at HC ⊢
  have z8 : wa.cell? ⟨pb, 8, none⟩ = some (.slice X.A X.n X.c) := cell_of HC.out (j := 8) rfl
  obtain ⟨x', g, o, hx, hA, q0, q1, q2, q3, q4, hci⟩ := H.out.at_ HLN.out
  obtain rfl : x' = x := by rw [hl] at hx; simpa using hx.symm
  have HIN := Lib.hid hci.inb
  have hbyt := hci.inb.byt
  obtain ⟨D, HD⟩ : ∃ D, Hid (num 0 ((x'.bs.drop 0).take 4) = D) := ⟨_, Lib.hid rfl⟩
  have HDE := Lib.hid (show num 0 x'.bs = D by rw [← HD.out, List.drop_zero, List.take_of_length_le (by rw [hci.inb.len, hb]; exact Nat.le_refl _)])
  have hD := num_u32 hbyt 0 4 (by omega)
  rw [HD.out] at hD
  obtain ⟨hD0, hD1⟩ := hD
  have hn0 : decide (((0 : Nat) : Int) < (X.n : Int)) = true := decide_eq_true (by have := HLN.out; omega)
  rw [Nat.zero_mul, Nat.add_zero] at q0 q1 q2 q3 q4
  rw [hc] at q0
  rw [hv] at q1
  rw [hb] at q4
  rw [hb] at HIN
  rw [hA] at z8
  clear hx hci hA hl
  go_wp2_with fail
  go_loopw [8] (fun i wr => i = .int .i64 ((0 : Nat) : Int) ∧ wr = wa) (fun _ _ => 0)
  case atStart => exact ⟨rfl, rfl⟩
  case round =>
    obtain ⟨rfl, hw⟩ := hrel
    obtain rfl := hw.symm
    clear hw
    have HN0 : 0 < X.n := HLN.out
    have HCB := Lib.hid (new_at wa (.cells #[.int .u32 268, .int .u32 0, .bool x'.must, .bool x'.prot, .slice x'.A 4 x'.c] 56))
    have HUa := Lib.hid (up_alloc wa (.cells #[.int .u32 268, .int .u32 0, .bool x'.must, .bool x'.prot, .slice x'.A 4 x'.c] 56))
    go_upto_region 4 with (fail)
    generalize wa.alloc (.cells #[.int .u32 268, .int .u32 0, .bool x'.must, .bool x'.prot, .slice x'.A 4 x'.c] 56) = wb at HCB HUa ⊢
    generalize wa.heap.size = q at HCB ⊢
    have z0 := cell_of HCB.out (j := 0) rfl
    have z1 := cell_of HCB.out (j := 1) rfl
    have z4 := cell_of HCB.out (j := 4) rfl
    go_wp2_with fail
    refine (mnumber_any x'.A 4 x'.c 0 4 x'.bs wb (HIN.out.up HUa.out) (by omega) (by omega) (by omega) (by omega)).mono ?_
    rw [HD.out]
    rintro e w2 ⟨rfl, hw⟩
    obtain rfl := hw.symm
    go_wp2_with fail
    go_ret
    exact ⟨by rw [HDE.out]; rfl, HU.out.trans HUa.out⟩
theorem ansM_take (m : Msg) (k : Nat) (code : Int) (h r : List Int) (l : List Av.Avp) : ansM { m with avps := m.avps.take k } code h r l = ansM m code h r l := rfl
theorem str_num (V : Int) (h : 0 ≤ V ∧ V < 4294967296) : num 0 (be V 4) = V := num_be_eq h.1 (by rw [p256_4]; exact h.2)
set_option maxRecDepth 100000 in
set_option maxHeartbeats 20000000 in
theorem law_answers (x : MsB) (code : Int) (host realm : ByteArray) (A : Option Addr) (n cap : Nat) (l : List AvB) (w : World) (h : MsIn w x) (hcode : -9223372036854775808 ≤ code ∧ code < 9223372036854775808) (hh : host.size ≤ 140737488351232) (hr : realm.size ≤ 140737488351232) (hl : InL w A n cap l) (hn : n ≤ 140737488351232) :
    Calls Try.prog 7 #[msV x, .int .i64 code, .string host, .string realm, .slice A n cap] w (RetB true w) := by
  have HL := Lib.hid hl
  obtain ⟨hc0, hc1⟩ := hcode
  clear hl
  have H := Lib.hid h
  have HU := Lib.hid (up_alloc w (msO x))
  have HC := Lib.hid (new_at w (msO x))
  clear h
  unfold msV
  go_enter Try.func7, Try.ntmps7
  go_upto_region 1 with (fail)
  change Code.wp _ _ _ _ (w.alloc (msO x))
  generalize w.alloc (msO x) = wa at HC HU ⊢
  generalize w.heap.size = pb at HC ⊢
  have HI := Lib.hid (H.out.up HU.out)
  have Hla := Lib.hid (HL.out.up HU.out)
  by_cases hbig : 100 < n
  · have d1 : decide (100 < (n : Int)) = true := decide_eq_true (by omega)
    go_wp2_with fail
    refine (answersM_ok wa).mono ?_
    rintro e w1 ⟨rfl, hu1⟩
    go_wp2_with fail
    refine (answersM_ok w1).mono ?_
    rintro e w2 ⟨rfl, hu2⟩
    go_wp2_with fail
    go_ret
    exact ⟨rfl, Lib.hid (HU.out.trans (hu1.out.trans hu2.out))⟩
  have d1 : decide (100 < (n : Int)) = false := decide_eq_false (by omega)
  have hn100 : n ≤ 100 := by omega
  have hxn := HI.out.n
  go_wp2_with fail
  refine (answersM_ok wa).mono ?_
  rintro e w1 ⟨rfl, hu1⟩
  have HC1 := Lib.hid (blk_up HC.out hu1.out)
  have HI1 := Lib.hid (HI.out.up hu1.out)
  have Hl1 := Lib.hid (Hla.out.up hu1.out)
  have U1 := Lib.hid (HU.out.trans hu1.out)
  clear HC HI Hla HU hu1 hbig
  have z0 : w1.cell? ⟨pb, 0, none⟩ = some (.bool x.req) := cell_of HC1.out (j := 0) rfl
  have z1 : w1.cell? ⟨pb, 1, none⟩ = some (.bool x.prox) := cell_of HC1.out (j := 1) rfl
  have z2 : w1.cell? ⟨pb, 2, none⟩ = some (.bool x.fail) := cell_of HC1.out (j := 2) rfl
  have z3 : w1.cell? ⟨pb, 3, none⟩ = some (.bool x.again) := cell_of HC1.out (j := 3) rfl
  have z4 : w1.cell? ⟨pb, 4, none⟩ = some (.int .u32 x.code) := cell_of HC1.out (j := 4) rfl
  have z5 : w1.cell? ⟨pb, 5, none⟩ = some (.int .u32 x.app) := cell_of HC1.out (j := 5) rfl
  have z6 : w1.cell? ⟨pb, 6, none⟩ = some (.int .u32 x.hop) := cell_of HC1.out (j := 6) rfl
  have z7 : w1.cell? ⟨pb, 7, none⟩ = some (.int .u32 x.end_) := cell_of HC1.out (j := 7) rfl
  have z8 : w1.cell? ⟨pb, 8, none⟩ = some (.slice x.A x.n x.c) := cell_of HC1.out (j := 8) rfl
  go_wp2_with fail
  refine (mown_any x w1 HI1.out.avs hxn).mono ?_
  rintro e w2 ⟨y1, rfl, hy1, hg1, hyn1, hu2⟩
  have Hl2 := Lib.hid (Hl1.out.up hu2.out)
  go_wp2_with fail
  refine (mown_any ⟨false, false, false, false, 0, 0, 0, 0, A, n, cap, l⟩ w2 Hl2.out hn).mono ?_
  rintro e w3 ⟨y2, rfl, hy2, hg2, hyn2, hu3⟩
  have HA2 := Lib.hid (show y2.avps.map AvB.pure = l.map AvB.pure by
    have h1 := congrArg Msg.avps hy2.out
    have h2 : y2.avps.map AvB.pure = (l.map AvB.pure).take 200 := h1
    rw [h2, List.take_of_length_le (by rw [List.length_map, HL.out.len]; omega)])
  have hy2n : y2.n ≤ 100 := by
    have h1 := congrArg List.length HA2.out
    rw [List.length_map, List.length_map, HL.out.len, hg2.out.len] at h1
    omega
  have U3 := Lib.hid (U1.out.trans (hu2.out.trans hu3.out))
  have HC3 := Lib.hid (blk_up HC1.out (hu2.out.trans hu3.out))
  have HI3 := Lib.hid (HI1.out.up (hu2.out.trans hu3.out))
  have Hl3 := Lib.hid (Hl2.out.up hu3.out)
  have Hg2 := Lib.hid hg2.out.inL
  clear hg1 hyn1 hg2 hyn2 hy2 hu2 hu3 HI1 Hl1 U1 Hl2 HC1
  clear z0 z1 z2 z3 z4 z5 z6 z7 z8
  have ef : (Instr.field 25 (msV y2) 8).run Try.prog w3 = .ok (.slice y2.A y2.n y2.c) w3 := by kernel_rfl
  go_wp2_with fail
  refine (answer_any y1 code host realm y2.A y2.n y2.c y2.avps w3 hc0 hc1 hh hr Hg2.out hy2n).mono ?_
  rintro e w4 ⟨a1, rfl, ha1, hb1, hbn1, hu4⟩
  have HE1 := Lib.hid (show a1.pure = ansM x.pure code (strB host) (strB realm) (l.map AvB.pure) by rw [ha1.out, hy1.out, ansM_take, HA2.out])
  clear ha1 hy1 HA2 Hg2 ef
  unfold msV
  go_upto_region 4 with (fail)
  change Code.wp _ _ _ _ (w4.alloc (msO a1))
  obtain ⟨p1, HP1⟩ : ∃ p, Hid (w4.heap.size = p) := ⟨_, Lib.hid rfl⟩
  have HD1 := Lib.hid (new_at w4 (msO a1))
  have HV1 := Lib.hid (up_alloc w4 (msO a1))
  rw [HP1.out] at HD1 ⊢
  generalize w4.alloc (msO a1) = w5 at HD1 HV1 ⊢
  have U5 := Lib.hid (U3.out.trans (hu4.out.trans HV1.out))
  have HC5 := Lib.hid (blk_up HC3.out (hu4.out.trans HV1.out))
  have Hl5 := Lib.hid (Hl3.out.up (hu4.out.trans HV1.out))
  have HB1 := Lib.hid (hb1.out.up HV1.out)
  clear hu4 HV1 HP1 U3 HC3 HI3 Hl3 hb1
  have z0 : w5.cell? ⟨pb, 0, none⟩ = some (.bool x.req) := cell_of HC5.out (j := 0) rfl
  have z1 : w5.cell? ⟨pb, 1, none⟩ = some (.bool x.prox) := cell_of HC5.out (j := 1) rfl
  have z2 : w5.cell? ⟨pb, 2, none⟩ = some (.bool x.fail) := cell_of HC5.out (j := 2) rfl
  have z3 : w5.cell? ⟨pb, 3, none⟩ = some (.bool x.again) := cell_of HC5.out (j := 3) rfl
  have z4 : w5.cell? ⟨pb, 4, none⟩ = some (.int .u32 x.code) := cell_of HC5.out (j := 4) rfl
  have z5 : w5.cell? ⟨pb, 5, none⟩ = some (.int .u32 x.app) := cell_of HC5.out (j := 5) rfl
  have z6 : w5.cell? ⟨pb, 6, none⟩ = some (.int .u32 x.hop) := cell_of HC5.out (j := 6) rfl
  have z7 : w5.cell? ⟨pb, 7, none⟩ = some (.int .u32 x.end_) := cell_of HC5.out (j := 7) rfl
  have z8 : w5.cell? ⟨pb, 8, none⟩ = some (.slice x.A x.n x.c) := cell_of HC5.out (j := 8) rfl
  go_wp2_with fail
  refine (ranswer_any x code host realm A n cap l w5 hc0 hc1 hh hr Hl5.out hn100).mono ?_
  rintro e w6 ⟨a2, rfl, ha2, hb2, hbn2, hu6⟩
  have HEQ := Lib.hid (show a1.pure = a2.pure by rw [HE1.out, ha2.out])
  unfold msV
  go_upto_region 5 with (fail)
  change Code.wp _ _ _ _ (w6.alloc (msO a2))
  obtain ⟨p2, HP2⟩ : ∃ p, Hid (w6.heap.size = p) := ⟨_, Lib.hid rfl⟩
  have HD2 := Lib.hid (new_at w6 (msO a2))
  have HV2 := Lib.hid (up_alloc w6 (msO a2))
  rw [HP2.out] at HD2 ⊢
  generalize w6.alloc (msO a2) = w7 at HD2 HV2 ⊢
  have U7 := Lib.hid (U5.out.trans (hu6.out.trans HV2.out))
  have HC7 := Lib.hid (blk_up HC5.out (hu6.out.trans HV2.out))
  have HD17 := Lib.hid (blk_up HD1.out (hu6.out.trans HV2.out))
  have HB17 := Lib.hid (HB1.out.up (hu6.out.trans HV2.out))
  have HB27 := Lib.hid (hb2.out.up HV2.out)
  clear hu6 HV2 HP2 U5 HC5 HD1 HB1 hb2 ha2 Hl5
  clear z0 z1 z2 z3 z4 z5 z6 z7 z8
  have e0 : a1.req = false := congrArg Msg.req HE1.out
  have e3 : a1.again = false := congrArg Msg.again HE1.out
  have e6 : a1.hop = x.hop := congrArg Msg.hop HE1.out
  have e7 : a1.end_ = x.end_ := congrArg Msg.end_ HE1.out
  have E0 := Lib.hid e0
  have E3 := Lib.hid e3
  have E6 := Lib.hid e6
  have E7 := Lib.hid e7
  clear e0 e3 e6 e7
  have q0 : w7.cell? ⟨p1, 0, none⟩ = some (.bool a1.req) := cell_of HD17.out (j := 0) rfl
  have q1 : w7.cell? ⟨p1, 1, none⟩ = some (.bool a1.prox) := cell_of HD17.out (j := 1) rfl
  have q2 : w7.cell? ⟨p1, 2, none⟩ = some (.bool a1.fail) := cell_of HD17.out (j := 2) rfl
  have q3 : w7.cell? ⟨p1, 3, none⟩ = some (.bool a1.again) := cell_of HD17.out (j := 3) rfl
  have q4 : w7.cell? ⟨p1, 4, none⟩ = some (.int .u32 a1.code) := cell_of HD17.out (j := 4) rfl
  have q5 : w7.cell? ⟨p1, 5, none⟩ = some (.int .u32 a1.app) := cell_of HD17.out (j := 5) rfl
  have q6 : w7.cell? ⟨p1, 6, none⟩ = some (.int .u32 a1.hop) := cell_of HD17.out (j := 6) rfl
  have q7 : w7.cell? ⟨p1, 7, none⟩ = some (.int .u32 a1.end_) := cell_of HD17.out (j := 7) rfl
  have q8 : w7.cell? ⟨p1, 8, none⟩ = some (.slice a1.A a1.n a1.c) := cell_of HD17.out (j := 8) rfl
  have b0 : w7.cell? ⟨p2, 0, none⟩ = some (.bool a2.req) := cell_of HD2.out (j := 0) rfl
  have b1 : w7.cell? ⟨p2, 1, none⟩ = some (.bool a2.prox) := cell_of HD2.out (j := 1) rfl
  have b2 : w7.cell? ⟨p2, 2, none⟩ = some (.bool a2.fail) := cell_of HD2.out (j := 2) rfl
  have b3 : w7.cell? ⟨p2, 3, none⟩ = some (.bool a2.again) := cell_of HD2.out (j := 3) rfl
  have b4 : w7.cell? ⟨p2, 4, none⟩ = some (.int .u32 a2.code) := cell_of HD2.out (j := 4) rfl
  have b5 : w7.cell? ⟨p2, 5, none⟩ = some (.int .u32 a2.app) := cell_of HD2.out (j := 5) rfl
  have b6 : w7.cell? ⟨p2, 6, none⟩ = some (.int .u32 a2.hop) := cell_of HD2.out (j := 6) rfl
  have b7 : w7.cell? ⟨p2, 7, none⟩ = some (.int .u32 a2.end_) := cell_of HD2.out (j := 7) rfl
  have b8 : w7.cell? ⟨p2, 8, none⟩ = some (.slice a2.A a2.n a2.c) := cell_of HD2.out (j := 8) rfl
  have hb1n : a1.n ≤ 140737488351232 := by have := hbn1.out; omega
  have hb2n : a2.n ≤ 140737488351232 := by have := hbn2.out; omega
  go_wp2_with fail
  refine (sameM_any a1 a2 w7 HB17.out HB27.out hb1n hb2n).mono ?_
  rw [decide_eq_true HEQ.out]
  rintro e w8 ⟨rfl, hu8⟩
  have U8 := Lib.hid (U7.out.trans hu8.out)
  have HC8 := Lib.hid (blk_up HC7.out hu8.out)
  have HD8 := Lib.hid (blk_up HD17.out hu8.out)
  have HB8 := Lib.hid (HB17.out.up hu8.out)
  clear q0 b0 q1 b1 q2 b2 q3 b3 q4 b4 q5 b5 q6 b6 q7 b7 q8 b8 hu8 U7 HC7 HD17 HB17 HB27 HD2
  have q0 : w8.cell? ⟨p1, 0, none⟩ = some (.bool a1.req) := cell_of HD8.out (j := 0) rfl
  have q1 : w8.cell? ⟨p1, 1, none⟩ = some (.bool a1.prox) := cell_of HD8.out (j := 1) rfl
  have q2 : w8.cell? ⟨p1, 2, none⟩ = some (.bool a1.fail) := cell_of HD8.out (j := 2) rfl
  have q3 : w8.cell? ⟨p1, 3, none⟩ = some (.bool a1.again) := cell_of HD8.out (j := 3) rfl
  have q4 : w8.cell? ⟨p1, 4, none⟩ = some (.int .u32 a1.code) := cell_of HD8.out (j := 4) rfl
  have q5 : w8.cell? ⟨p1, 5, none⟩ = some (.int .u32 a1.app) := cell_of HD8.out (j := 5) rfl
  have q6 : w8.cell? ⟨p1, 6, none⟩ = some (.int .u32 a1.hop) := cell_of HD8.out (j := 6) rfl
  have q7 : w8.cell? ⟨p1, 7, none⟩ = some (.int .u32 a1.end_) := cell_of HD8.out (j := 7) rfl
  have q8 : w8.cell? ⟨p1, 8, none⟩ = some (.slice a1.A a1.n a1.c) := cell_of HD8.out (j := 8) rfl
  rw [E0.out] at q0
  rw [E3.out] at q3
  rw [E6.out] at q6
  rw [E7.out] at q7
  have z6 : w8.cell? ⟨pb, 6, none⟩ = some (.int .u32 x.hop) := cell_of HC8.out (j := 6) rfl
  have z7 : w8.cell? ⟨pb, 7, none⟩ = some (.int .u32 x.end_) := cell_of HC8.out (j := 7) rfl
  go_upto_region 7 with (fail)
  -- the code that it has
  obtain ⟨x0, rest, hx0, hxc⟩ : ∃ x0 rest, a1.avps = x0 :: rest ∧ x0.pure = ⟨268, 0, true, false, be (numM code) 4⟩ := by
    have h1 : a1.avps.map AvB.pure = ⟨268, 0, true, false, be (numM code) 4⟩ :: ⟨264, 0, true, false, strB host⟩ :: ⟨296, 0, true, false, strB realm⟩ :: l.map AvB.pure := congrArg Msg.avps HE1.out
    cases hav : a1.avps with
    | nil => rw [hav] at h1; cases h1
    | cons x0 rest =>
      rw [hav, List.map_cons] at h1
      injection h1 with h1 _
      exact ⟨x0, rest, rfl, h1⟩
  have HNM := Lib.hid (show 0 ≤ numM code ∧ numM code < 4294967296 by unfold numM; split <;> omega)
  have hb4 : x0.bs = be (numM code) 4 := congrArg Av.Avp.bs hxc
  have HCD := Lib.hid (code_first a1 x0 rest w8 HB8.out hbn1.out hx0 (congrArg Av.Avp.code hxc) (congrArg Av.Avp.vendor hxc) (by
    have h1 := (HB8.out.av x0 (by rw [hx0]; simp)).inb.len
    rw [← h1, hb4, be_length]))
  rw [hb4, str_num _ HNM.out] at HCD
  clear hxc hb4 hx0 HNM
  have HMS : Hid (msV a1 = .agg #[.bool false, .bool a1.prox, .bool a1.fail, .bool false, .int .u32 a1.code, .int .u32 a1.app, .int .u32 x.hop, .int .u32 x.end_, .slice a1.A a1.n a1.c]) := Lib.hid (by unfold msV; rw [E0.out, E3.out, E6.out, E7.out])
  rw [HMS.out] at HCD
  by_cases e1 : code < 0
  · have c1 : decide (code < 0) = true := decide_eq_true e1
    have HZ := Lib.hid (show numM code = 0 by unfold numM; rw [if_neg (by omega)])
    rw [HZ.out] at HCD
    go_wp2_with fail
    refine HCD.out.mono ?_
    rintro e w9 ⟨rfl, hu9⟩
    go_wp2_with fail
    go_ret
    exact ⟨rfl, Lib.hid (U8.out.trans hu9)⟩
  have c1 : decide (code < 0) = false := decide_eq_false e1
  by_cases e2 : 4294967295 < code
  · have c2 : decide (4294967295 < code) = true := decide_eq_true e2
    have HZ := Lib.hid (show numM code = 0 by unfold numM; rw [if_neg (by omega)])
    rw [HZ.out] at HCD
    go_wp2_with fail
    refine HCD.out.mono ?_
    rintro e w9 ⟨rfl, hu9⟩
    go_wp2_with fail
    go_ret
    exact ⟨rfl, Lib.hid (U8.out.trans hu9)⟩
  have c2 : decide (4294967295 < code) = false := decide_eq_false e2
  have HZ := Lib.hid (show numM code = code by unfold numM; rw [if_pos (by omega)])
  rw [HZ.out] at HCD
  go_wp2_with fail
  refine HCD.out.mono ?_
  rintro e w9 ⟨rfl, hu9⟩
  go_wp2_with fail
  go_ret
  exact ⟨by simp, Lib.hid (U8.out.trans hu9)⟩
end Go.Proofs.Ythncpkjnalmpkaa
