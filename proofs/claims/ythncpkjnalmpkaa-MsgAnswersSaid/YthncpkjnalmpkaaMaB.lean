import Derived.Test.YthncpkjnalmpkaaDc5
namespace Go.Proofs.Ythncpkjnalmpkaa
open Go Go.RowKit Mg
set_option linter.unusedVariables false
set_option linter.unusedSimpArgs false
/-! Answer. -/
def AnsP (m : Msg) (code : Int) (host realm : List Int) (ms : List Av.Avp) (w : World) (e : Ending) (w' : World) : Prop := ∃ y : MsB, e = .returned (msV y) ∧ Hid (y.pure = ansM m code host realm ms) ∧ Hid (InL w' y.A y.n y.c y.avps) ∧ Hid (y.n ≤ 103) ∧ Hid (Up w w')
/-- The first three. -/
def threeA (code : Int) (host realm : List Int) : List Av.Avp := [⟨268, 0, true, false, be (numM code) 4⟩, ⟨264, 0, true, false, host⟩, ⟨296, 0, true, false, realm⟩]
theorem ok3 (c : Int) (b : List Int) (h0 : 0 ≤ c) (h1 : c < 4294967296) (hb : Byt b) : AvOK ⟨c, 0, true, false, b⟩ := ⟨⟨h0, h1⟩, ⟨by show (0 : Int) ≤ 0; omega, by show (0 : Int) < 4294967296; omega⟩, hb⟩
set_option maxRecDepth 100000 in
set_option maxHeartbeats 40000000 in
theorem answer_any (X : MsB) (code : Int) (host realm : ByteArray) (A : Option Addr) (n cap : Nat) (l : List AvB) (w : World) (hc0 : -9223372036854775808 ≤ code) (hc1 : code < 9223372036854775808) (hh : host.size ≤ 140737488351232) (hr : realm.size ≤ 140737488351232) (h : InL w A n cap l) (hn : n ≤ 100) :
    Calls Try.prog 23 #[msV X, .int .i64 code, .string host, .string realm, .slice A n cap] w (AnsP X.pure code (strB host) (strB realm) (l.map AvB.pure) w) := by
  have HLT := Lib.hid (show (l.map AvB.pure).length = n by simp [h.len])
  have HU := Lib.hid (Up.trans (up_alloc w (msO X)) (up_alloc (w.alloc (msO X)) (.cells #[.bool false, .bool false, .bool false, .bool false, .int .u32 0, .int .u32 0, .int .u32 0, .int .u32 0, .slice none 0 0] 25)))
  have HP := Lib.hid (blk_up (new_at w (msO X)) (up_alloc (w.alloc (msO X)) (.cells #[.bool false, .bool false, .bool false, .bool false, .int .u32 0, .int .u32 0, .int .u32 0, .int .u32 0, .slice none 0 0] 25)))
  have hq := new_at (w.alloc (msO X)) (.cells #[.bool false, .bool false, .bool false, .bool false, .int .u32 0, .int .u32 0, .int .u32 0, .int .u32 0, .slice none 0 0] 25)
  rw [show (w.alloc (msO X)).heap.size = w.heap.size + 1 by simp] at hq
  have HQ := Lib.hid hq
  have H := Lib.hid (h.up HU.out)
  have hcap := h.cap
  clear h hq
  unfold msV
  go_enter Try.func23, Try.ntmps23
  go_upto_region 1 with (fail)
  change Code.wp _ _ _ _ ((w.alloc (msO X)).alloc (.cells #[.bool false, .bool false, .bool false, .bool false, .int .u32 0, .int .u32 0, .int .u32 0, .int .u32 0, .slice none 0 0] 25))
  generalize (w.alloc (msO X)).alloc (.cells #[.bool false, .bool false, .bool false, .bool false, .int .u32 0, .int .u32 0, .int .u32 0, .int .u32 0, .slice none 0 0] 25) = wa at HU HP HQ H ⊢
  obtain ⟨pb, HPB⟩ : ∃ p, Hid (w.heap.size = p) := ⟨_, Lib.hid rfl⟩
  rw [HPB.out] at HP HQ ⊢
  have z1 : wa.cell? ⟨pb, 1, none⟩ = some (.bool X.prox) := cell_of HP.out (j := 1) rfl
  have z4 : wa.cell? ⟨pb, 4, none⟩ = some (.int .u32 X.code) := cell_of HP.out (j := 4) rfl
  have z5 : wa.cell? ⟨pb, 5, none⟩ = some (.int .u32 X.app) := cell_of HP.out (j := 5) rfl
  have z6 : wa.cell? ⟨pb, 6, none⟩ = some (.int .u32 X.hop) := cell_of HP.out (j := 6) rfl
  have z7 : wa.cell? ⟨pb, 7, none⟩ = some (.int .u32 X.end_) := cell_of HP.out (j := 7) rfl
  go_upto_region 2 with (fail)
  obtain ⟨p, HPE⟩ : ∃ p, Hid (wa.heap.size = p) := ⟨_, Lib.hid rfl⟩
  have HXb := Lib.hid (new_at wa (.cells #[.bool false, .bool X.prox, .bool false, .bool false, .int .u32 X.code, .int .u32 X.app, .int .u32 X.hop, .int .u32 X.end_, .slice none 0 0] 25))
  have HVb := Lib.hid (up_alloc wa (.cells #[.bool false, .bool X.prox, .bool false, .bool false, .int .u32 X.code, .int .u32 X.app, .int .u32 X.hop, .int .u32 X.end_, .slice none 0 0] 25))
  rw [HPE.out] at HXb ⊢
  generalize wa.alloc (.cells #[.bool false, .bool X.prox, .bool false, .bool false, .int .u32 X.code, .int .u32 X.app, .int .u32 X.hop, .int .u32 X.end_, .slice none 0 0] 25) = wb at HXb HVb ⊢
  have HUb := Lib.hid (HU.out.trans HVb.out)
  have HQb := Lib.hid (blk_up HQ.out HVb.out)
  have Hb := Lib.hid (H.out.up HVb.out)
  have hqp : pb + 1 < p := by have := lt_of_blk HQ.out; have := HPE.out; omega
  have HBS := Lib.hid (show p < wb.heap.size from lt_of_blk HXb.out)
  have HVB := Lib.hid HVb.out
  clear z1 z4 z5 z6 z7 HP HQ HVb Hb HUb
  have z2 : wb.cell? ⟨p, 2, none⟩ = some (.bool false) := cell_of HXb.out (j := 2) rfl
  have fz := frozen_at (j := 2) HXb.out
  obtain ⟨F, HF⟩ : ∃ F : Bool, Hid (decide (3000 ≤ code ∧ code < 4000) = F) := ⟨_, Lib.hid rfl⟩
  go_cut [] from 25 to 31 (fun wx => wx = wb.setCell ⟨p, 2, none⟩ (.bool F))
  case first =>
    by_cases e1 : 3000 ≤ code
    · have d1 : decide (3000 ≤ code) = true := decide_eq_true e1
      by_cases e2 : code ≤ 3999
      · have d2 : decide (code ≤ 3999) = true := decide_eq_true e2
        go_wp2_with fail
        go_meet
        rw [← HF.out, decide_eq_true (by omega)]
      · have d2 : decide (code ≤ 3999) = false := decide_eq_false e2
        go_wp2_with fail
        go_meet
        rw [← HF.out, decide_eq_false (by omega)]
    · have d1 : decide (3000 ≤ code) = false := decide_eq_false e1
      go_wp2_with fail
      go_meet
      rw [← HF.out, decide_eq_false (by omega)]
  case rest =>
  obtain rfl := hcut
  have HXc := Lib.hid (setCell_at (j := 2) (.bool F) HXb.out)
  have HOc := setCell_out wb p 2 (.bool F)
  generalize wb.setCell ⟨p, 2, none⟩ (.bool F) = wc at HXc HOc ⊢
  have HQc := Lib.hid (HOc.blk HQb.out (by omega))
  have UAc := Lib.hid (show Up wa wc from Below.out HVB.out HOc (fun k hk => by have := HPE.out; omega) HVB.out.size)
  have HSc := Lib.hid (show p < wc.heap.size from lt_of_blk HXc.out)
  clear HXb HOc HQb HVB HBS z2 fz
  go_wp2_with fail
  refine (result_any code wc hc0 hc1).mono ?_
  rintro e w1 ⟨rfl, hw⟩
  obtain rfl := hw.symm
  have HNM := Lib.hid (show 0 ≤ numM code ∧ numM code < 4294967296 by unfold numM; split <;> omega)
  go_wp2_with fail
  refine (fput wc.heap.size (be (numM code) 4) none 0 0 4 [] (numM code) wc (inB_nil _) (by omega) (by omega) (by omega) rfl (Nat.le_refl _)).mono ?_
  rintro e w1 ⟨A1, N1, k1, rfl, hN1, hO1, hu1⟩
  have hN1' : N1 = 4 := by rw [hN1.out, be_length]
  have HN4 := Lib.hid hN1'
  clear hN1'
  have HI1 := Lib.hid (own_inB hO1.out (be_byt _ _))
  have HA1 := Lib.hid (show ∀ k, blk? A1 = some k → wc.heap.size ≤ k from fun k hk => (row_lt hO1.out hk).1)
  have HZ1 := Lib.hid hu1.out.size
  go_wp2_with fail
  refine (must_any 268 A1 N1 k1 w1).mono ?_
  rintro e w2 ⟨rfl, hu2⟩
  obtain ⟨k2, w3, hcv1, hu3, hi3, hz3⟩ := conv_str host w2
  obtain ⟨h1, HH1⟩ : ∃ h, Hid (w2.heap.size = h) := ⟨_, Lib.hid rfl⟩
  rw [HH1.out] at hcv1 hi3
  have HHL1 := Lib.hid (show wc.heap.size ≤ h1 by have := hu2.size; have := HZ1.out; have := HH1.out; omega)
  have HI3 := Lib.hid hi3
  have HU3 := Lib.hid hu3
  clear hi3 hu3 hz3
  go_wp2_with fail
  refine (must_any 264 (some ⟨h1, 0, none⟩) host.size k2 w3).mono ?_
  rintro e w4 ⟨rfl, hu4⟩
  obtain ⟨k3, w5, hcv2, hu5, hi5, hz5⟩ := conv_str realm w4
  obtain ⟨h2, HH2⟩ : ∃ h, Hid (w4.heap.size = h) := ⟨_, Lib.hid rfl⟩
  rw [HH2.out] at hcv2 hi5
  have HHL2 := Lib.hid (show wc.heap.size ≤ h2 by have := hu2.size; have := HZ1.out; have := HU3.out.size; have := hu4.size; have := HH2.out; omega)
  have HI5 := Lib.hid hi5
  have HU5 := Lib.hid hu5
  clear hi5 hu5 hz5 hcv1
  go_wp2_with fail
  refine (must_any 296 (some ⟨h2, 0, none⟩) realm.size k3 w5).mono ?_
  rintro e w6 ⟨rfl, hu6⟩
  have V6 := Lib.hid (show Up wc w6 from hu1.out.trans (hu2.trans (HU3.out.trans (hu4.trans (HU5.out.trans hu6)))))
  have J1 := Lib.hid (HI1.out.up (hu2.trans (HU3.out.trans (hu4.trans (HU5.out.trans hu6)))))
  have J3 := Lib.hid (HI3.out.up (hu4.trans (HU5.out.trans hu6)))
  have J5 := Lib.hid (HI5.out.up hu6)
  clear hcv2 hN1 hO1 hu1 HI1 hu2 HU3 HI3 hu4 HU5 HI5 hu6
  have V7 := Lib.hid (up_alloc w6 (.cells #[.int .u32 268, .int .u32 0, .bool true, .bool false, .slice A1 N1 k1, .int .u32 264, .int .u32 0, .bool true, .bool false, .slice (some ⟨h1, 0, none⟩) host.size k2, .int .u32 296, .int .u32 0, .bool true, .bool false, .slice (some ⟨h2, 0, none⟩) realm.size k3] 56))
  have HX7 := Lib.hid (blk_up (blk_up HXc.out V6.out) V7.out)
  have HQ7 := Lib.hid (blk_up (blk_up HQc.out V6.out) V7.out)
  have z8 : (w6.alloc (.cells #[.int .u32 268, .int .u32 0, .bool true, .bool false, .slice A1 N1 k1, .int .u32 264, .int .u32 0, .bool true, .bool false, .slice (some ⟨h1, 0, none⟩) host.size k2, .int .u32 296, .int .u32 0, .bool true, .bool false, .slice (some ⟨h2, 0, none⟩) realm.size k3] 56)).cell? ⟨p, 8, none⟩ = some (.slice none 0 0) := cell_of HX7.out (j := 8) rfl
  have fz : (w6.alloc (.cells #[.int .u32 268, .int .u32 0, .bool true, .bool false, .slice A1 N1 k1, .int .u32 264, .int .u32 0, .bool true, .bool false, .slice (some ⟨h1, 0, none⟩) host.size k2, .int .u32 296, .int .u32 0, .bool true, .bool false, .slice (some ⟨h2, 0, none⟩) realm.size k3] 56)).frozen? ⟨p, 8, none⟩ = false := frozen_at (j := 8) HX7.out
  go_upto_region 4 with (fail)
  have HXd := Lib.hid (setCell_at (j := 8) (.slice (some ⟨w6.heap.size, 0, none⟩) 3 3) HX7.out)
  have HOd := setCell_out (w6.alloc (.cells #[.int .u32 268, .int .u32 0, .bool true, .bool false, .slice A1 N1 k1, .int .u32 264, .int .u32 0, .bool true, .bool false, .slice (some ⟨h1, 0, none⟩) host.size k2, .int .u32 296, .int .u32 0, .bool true, .bool false, .slice (some ⟨h2, 0, none⟩) realm.size k3] 56)) p 8 (.slice (some ⟨w6.heap.size, 0, none⟩) 3 3)
  have HSC := Lib.hid (show wc.heap.size ≤ w6.heap.size from V6.out.size)
  have hgi : GI wc.heap.size (w6.alloc (.cells #[.int .u32 268, .int .u32 0, .bool true, .bool false, .slice A1 N1 k1, .int .u32 264, .int .u32 0, .bool true, .bool false, .slice (some ⟨h1, 0, none⟩) host.size k2, .int .u32 296, .int .u32 0, .bool true, .bool false, .slice (some ⟨h2, 0, none⟩) realm.size k3] 56)) (some ⟨w6.heap.size, 0, none⟩) 3 3 [⟨268, 0, true, false, A1, N1, k1, be (numM code) 4⟩, ⟨264, 0, true, false, some ⟨h1, 0, none⟩, host.size, k2, strB host⟩, ⟨296, 0, true, false, some ⟨h2, 0, none⟩, realm.size, k3, strB realm⟩] := by
    refine ⟨row_base (rowa_new (l := [⟨268, 0, true, false, A1, N1, k1, be (numM code) 4⟩, ⟨264, 0, true, false, some ⟨h1, 0, none⟩, host.size, k2, strB host⟩, ⟨296, 0, true, false, some ⟨h2, 0, none⟩, realm.size, k3, strB realm⟩]) (n := 3) w6 rfl rfl (by omega)) HSC.out, rfl, fun x hx => ?_⟩
    have off : ∀ (B : Option Addr) (m d : Nat) (bs : List Int), InB w6 B m d bs → bs ≠ [] → ∀ k, blk? B = some k → blk? (some (⟨w6.heap.size, 0, none⟩ : Addr)) ≠ some k := fun B m d bs hb hne k hk e => by
      have h1 := hb.lt hne hk
      injection e with e
      have e2 : w6.heap.size = k := e
      omega
    simp only [List.mem_cons, List.mem_nil_iff, or_false] at hx
    rcases hx with rfl | rfl | rfl
    · exact ⟨⟨J1.out.up V7.out, ok3 268 _ (by omega) (by omega) (be_byt _ _), by show N1 ≤ _; have := HN4.out; omega⟩, off _ _ _ _ J1.out⟩
    · exact ⟨⟨J3.out.up V7.out, ok3 264 _ (by omega) (by omega) (strB_byt _), hh⟩, off _ _ _ _ J3.out⟩
    · exact ⟨⟨J5.out.up V7.out, ok3 296 _ (by omega) (by omega) (strB_byt _), hr⟩, off _ _ _ _ J5.out⟩
  have UA7 := Lib.hid (UAc.out.trans (V6.out.trans V7.out))
  have HPL := Lib.hid (show p < wc.heap.size from HSc.out)
  have blkL : ∀ (B : Option Addr) (m d : Nat) (bs : List Int), InB wc B m d bs → bs ≠ [] → ∀ k, blk? B = some k → k < wc.heap.size := fun B m d bs hb hne k hk => hb.lt hne hk
  clear blkL
  have hne1 : ∀ x ∈ ([⟨268, 0, true, false, A1, N1, k1, be (numM code) 4⟩, ⟨264, 0, true, false, some ⟨h1, 0, none⟩, host.size, k2, strB host⟩, ⟨296, 0, true, false, some ⟨h2, 0, none⟩, realm.size, k3, strB realm⟩] : List AvB), x.bs ≠ [] → ∀ k, blk? x.A = some k → wc.heap.size ≤ k := by
    intro x hx hne k hk
    simp only [List.mem_cons, List.mem_nil_iff, or_false] at hx
    rcases hx with rfl | rfl | rfl
    · exact HA1.out k hk
    · injection hk with hk; have hk' : h1 = k := hk; have := HHL1.out; omega
    · injection hk with hk; have hk' : h2 = k := hk; have := HHL2.out; omega
  have GId := Lib.hid (hgi.outS HOd (fun k hk e => by injection hk with hk; have hk' : w6.heap.size = k := hk; have := HSC.out; have := HPL.out; omega) (fun x hx hne k hk e => by have := hne1 x hx hne k hk; have := HPL.out; omega))
  have HGE := Lib.hid hne1
  have UAd := Lib.hid (show Up wa ((w6.alloc (.cells #[.int .u32 268, .int .u32 0, .bool true, .bool false, .slice A1 N1 k1, .int .u32 264, .int .u32 0, .bool true, .bool false, .slice (some ⟨h1, 0, none⟩) host.size k2, .int .u32 296, .int .u32 0, .bool true, .bool false, .slice (some ⟨h2, 0, none⟩) realm.size k3] 56)).setCell ⟨p, 8, none⟩ (.slice (some ⟨w6.heap.size, 0, none⟩) 3 3)) from Below.out UA7.out HOd (fun k hk => by have := HPE.out; omega) UA7.out.size)
  have HQd := Lib.hid (HOd.blk HQ7.out (by omega))
  have HBSd := Lib.hid (show wc.heap.size ≤ ((w6.alloc (.cells #[.int .u32 268, .int .u32 0, .bool true, .bool false, .slice A1 N1 k1, .int .u32 264, .int .u32 0, .bool true, .bool false, .slice (some ⟨h1, 0, none⟩) host.size k2, .int .u32 296, .int .u32 0, .bool true, .bool false, .slice (some ⟨h2, 0, none⟩) realm.size k3] 56)).setCell ⟨p, 8, none⟩ (.slice (some ⟨w6.heap.size, 0, none⟩) 3 3)).heap.size by have h1 := HOd.size; have h2 := V7.out.size; have h3 := HSC.out; omega)
  obtain ⟨r, HR⟩ : ∃ r, Hid (w6.heap.size = r) := ⟨_, Lib.hid rfl⟩
  rw [HR.out] at GId UAd HQd HXd HBSd ⊢
  generalize (w6.alloc (.cells #[.int .u32 268, .int .u32 0, .bool true, .bool false, .slice A1 N1 k1, .int .u32 264, .int .u32 0, .bool true, .bool false, .slice (some ⟨h1, 0, none⟩) host.size k2, .int .u32 296, .int .u32 0, .bool true, .bool false, .slice (some ⟨h2, 0, none⟩) realm.size k3] 56)).setCell ⟨p, 8, none⟩ (.slice (some ⟨r, 0, none⟩) 3 3) = wd at GId UAd HQd HXd HBSd ⊢
  obtain ⟨BS, HBS⟩ : ∃ b, Hid (wc.heap.size = b) := ⟨_, Lib.hid rfl⟩
  rw [HBS.out] at GId HBSd HPL HGE
  have hpb : p < BS := HPL.out
  clear hgi HOd UA7 hne1 HX7 HQ7 V7 V6 J1 J3 J5 z8 fz HSC HXc HQc UAc HSc HN4 HNM HH1 HH2 HR HA1 HHL1 HHL2 HPL
  obtain ⟨L0, HL0⟩ : ∃ L : List AvB, Hid ([⟨268, 0, true, false, A1, N1, k1, be (numM code) 4⟩, ⟨264, 0, true, false, some ⟨h1, 0, none⟩, host.size, k2, strB host⟩, ⟨296, 0, true, false, some ⟨h2, 0, none⟩, realm.size, k3, strB realm⟩] = L) := ⟨_, Lib.hid rfl⟩
  rw [HL0.out] at GId HGE
  have HL3 := Lib.hid (show L0.map AvB.pure = threeA code (strB host) (strB realm) by rw [← HL0.out]; rfl)
  clear HL0
  go_wp2_with fail
  go_loopw [46] (fun i wr => ∃ (k : Nat) (B1 : Option Addr) (c1 : Nat) (out : List AvB), k ≤ n ∧ i = .int .i64 (k : Int) ∧ Hid (wr.heap[p]? = some (.cells #[.bool false, .bool X.prox, .bool F, .bool false, .int .u32 X.code, .int .u32 X.app, .int .u32 X.hop, .int .u32 X.end_, .slice B1 (3 + k) c1] 25 (0, 0))) ∧ Hid (wr.heap[pb + 1]? = some (.cells #[.bool false, .bool false, .bool false, .bool false, .int .u32 0, .int .u32 0, .int .u32 0, .int .u32 0, .slice none 0 0] 25 (0, 0))) ∧ Hid (GI BS wr B1 (3 + k) c1 out) ∧ Hid (out.map AvB.pure = threeA code (strB host) (strB realm) ++ (l.map AvB.pure).take k) ∧ Hid (Up wa wr) ∧ Hid (BS ≤ wr.heap.size) ∧ Hid (∀ y ∈ out, y.bs ≠ [] → ∀ q, blk? y.A = some q → BS ≤ q)) (fun i _ => n - (intOf i).toNat)
  case atStart => exact ⟨0, some ⟨r, 0, none⟩, 3, L0, Nat.zero_le _, rfl, HXd, HQd, GId, Lib.hid (by rw [HL3.out, List.take_zero, List.append_nil]), UAd, HBSd, HGE⟩
  case round =>
    obtain ⟨k, B1, c1, out, hk, rfl, hX, hQ, hG, hE, hU, hB, hge⟩ := hrel
    by_cases hlt : k < n
    · have d1 : decide ((k : Int) < (n : Int)) = true := decide_eq_true (by omega)
      obtain ⟨x, ga, o, hx, rfl, q0, q1, q2, q3, q4, hci⟩ := (H.out.up hU.out).at_ hlt
      have HXE := Lib.hid (show (l.map AvB.pure).take (k + 1) = (l.map AvB.pure).take k ++ [x.pure] by
        have h2 : (l.map AvB.pure)[k]? = some x.pure := by simp [hx]
        obtain ⟨hl, he⟩ := List.getElem?_eq_some_iff.1 h2
        rw [List.take_succ_eq_append_getElem hl, he])
      have HC := Lib.hid hci
      have hxn := hci.n
      clear hx hci
      have HCB := Lib.hid (new_at wr (.cells #[.int .u32 x.code, .int .u32 x.vendor, .bool x.must, .bool x.prot, .slice x.A x.n x.c] 56))
      have HUa := Lib.hid (up_alloc wr (.cells #[.int .u32 x.code, .int .u32 x.vendor, .bool x.must, .bool x.prot, .slice x.A x.n x.c] 56))
      go_upto_region 7 with (fail)
      generalize wr.alloc (.cells #[.int .u32 x.code, .int .u32 x.vendor, .bool x.must, .bool x.prot, .slice x.A x.n x.c] 56) = wx at HCB HUa ⊢
      obtain ⟨pq, HPQ⟩ : ∃ h, Hid (wr.heap.size = h) := ⟨_, Lib.hid rfl⟩
      rw [HPQ.out] at HCB ⊢
      have hpq : p < pq := by have := hB.out; have := HPQ.out; omega
      clear q0 q1 q2 q3 q4
      have z4 := cell_of HCB.out (j := 4) rfl
      go_wp2_with fail
      refine (clone_any x.A x.n x.c x.bs wx (HC.out.inb.up HUa.out) hxn).mono ?_
      rintro e w1y ⟨A6, c6, rfl, hO6, hu6⟩
      have hc6 := blk_up HCB.out hu6.out
      have z6 := cell_of hc6 (j := 4) rfl
      have y6 := frozen_at (j := 4) hc6
      go_upto_region 8 with (fail)
      have hst := setCell_out w1y pq 4 (.slice A6 x.n c6)
      have HC7 := Lib.hid (show (w1y.setCell ⟨pq, 4, none⟩ (.slice A6 x.n c6)).heap[pq]? = some (.cells #[.int .u32 x.code, .int .u32 x.vendor, .bool x.must, .bool x.prot, .slice A6 x.n c6] 56 (0, 0)) from (setCell_at (j := 4) (.slice A6 x.n c6) hc6).trans rfl)
      have HPW := Lib.hid (lt_of_blk HCB.out)
      have HI7 := Lib.hid (show InB (w1y.setCell ⟨pq, 4, none⟩ (.slice A6 x.n c6)) A6 x.n c6 x.bs from (own_inB hO6.out HC.out.inb.byt).outS' hst (fun _ q hq e => by have h1 := (row_lt hO6.out hq).1; have h2 := HPW.out; have e1 : q = pq := e; omega))
      have HU7 := Lib.hid (show Up wr (w1y.setCell ⟨pq, 4, none⟩ (.slice A6 x.n c6)) from Below.out (HUa.out.trans hu6.out) hst (fun q hq => by rw [hq, ← HPQ.out]; exact Nat.le_refl _) (HUa.out.trans hu6.out).size)
      have HOF := Lib.hid (show ∀ q, blk? A6 = some q → wr.heap.size ≤ q from fun q hq => Nat.le_trans HUa.out.size (row_lt hO6.out hq).1)
      clear z4 z6 y6 hc6 HCB hO6 hu6 HPW
      generalize w1y.setCell ⟨pq, 4, none⟩ (.slice A6 x.n c6) = w7 at hst HC7 HI7 HU7 ⊢
      have HG7 := Lib.hid (hG.out.up HU7.out)
      have y0 := cell_of HC7.out (j := 0) rfl
      have y1 := cell_of HC7.out (j := 1) rfl
      have y2 := cell_of HC7.out (j := 2) rfl
      have y3 := cell_of HC7.out (j := 3) rfl
      have y4 := cell_of HC7.out (j := 4) rfl
      have HX7 := Lib.hid (blk_up hX.out HU7.out)
      have HQ7 := Lib.hid (blk_up hQ.out HU7.out)
      have z8 : w7.cell? ⟨p, 8, none⟩ = some (.slice B1 (3 + k) c1) := cell_of HX7.out (j := 8) rfl
      have HCL := Lib.hid (avCells w7 ⟨x.code, x.vendor, x.must, x.prot, A6, x.n, c6, x.bs⟩)
      have HUA := Lib.hid (up_alloc w7 (.cells #[.int .u32 x.code, .int .u32 x.vendor, .bool x.must, .bool x.prot, .slice A6 x.n c6] 56))
      have HSz := Lib.hid (show BS ≤ (w7.alloc (.cells #[.int .u32 x.code, .int .u32 x.vendor, .bool x.must, .bool x.prot, .slice A6 x.n c6] 56)).heap.size by have := hB.out; have := HU7.out.size; have := HUA.out.size; omega)
      have HXC := Lib.hid (show AvIn w7 ⟨x.code, x.vendor, x.must, x.prot, A6, x.n, c6, x.bs⟩ ∧ Off B1 ⟨x.code, x.vendor, x.must, x.prot, A6, x.n, c6, x.bs⟩ from ⟨⟨HI7.out, HC.out.ok, hxn⟩, fun _ q hq e => by have h1 := HOF.out q hq; have h2 := (hG.out.lt e).2; omega⟩)
      have HBP := Lib.hid (show ¬ (blk? B1 = some p) from fun e => by have := (hG.out.lt e).1; omega)
      have HBQ := Lib.hid (show ¬ (blk? B1 = some (pb + 1)) from fun e => by have := (hG.out.lt e).1; omega)
      have HXA := Lib.hid (blk_up HX7.out HUA.out)
      have hk100 : k < 100 := by omega
      clear hst
      go_upto_region 9 with (at_builtin; refine wpList_appendG rfl (.tmp 55) (.tmp 57) 23 rfl BS 56 (.agg #[.int .u32 0, .int .u32 0, .bool false, .bool false, .slice none 0 0]) 5 40 Try.underlying23 info38 rfl (by decide) B1 (3 + k) c1 (rowa out) rfl (HG7.out.up HUA.out).row (some ⟨w7.heap.size, 0, none⟩) 1 1 (rowa [⟨x.code, x.vendor, x.must, x.prot, A6, x.n, c6, x.bs⟩]) rfl (by simp [rowa, avc, avcL]) HCL.out (rowa_one _) (by omega) (by omega) HSz.out ?_; intro A' N' c' w' HN HW HO HB'; have hx9 := HO.out.blk HXA.out HBP.out; have z9 := cell_of hx9 (j := 8) rfl; have f9 := frozen_at (j := 8) hx9)
      have HV := Lib.hid (show Up wa _ from Up.trans (Up.trans hU.out HU7.out) HUA.out)
      have HG9 := Lib.hid ((HG7.out.up HUA.out).pushes (ms := [⟨x.code, x.vendor, x.must, x.prot, A6, x.n, c6, x.bs⟩]) (m := 1) (fun y hy => by rw [List.mem_singleton.1 hy]; exact ⟨HXC.out.1.up HUA.out, HXC.out.2⟩) rfl HN.out HW.out HO.out HB'.out)
      have HV9 := Lib.hid (show Up wa w' from Below.out HV.out HO.out (fun q hq => by have h1 := ((HG7.out.up HUA.out).lt hq).1; have := HPE.out; omega) HV.out.size)
      have HQ9 := Lib.hid (HO.out.blk (blk_up HQ7.out HUA.out) HBQ.out)
      have HXs := Lib.hid (setCell_at (j := 8) (.slice A' N' c') hx9)
      have hos := setCell_out w' p 8 (.slice A' N' c')
      have HS9 := Lib.hid (show BS ≤ w'.heap.size from Nat.le_trans HSz.out HO.out.size)
      have hN' : N' = 3 + (k + 1) := HN.out
      subst hN'
      have HGs := Lib.hid (HG9.out.outS hos (fun q hq e => by have := (HG9.out.lt hq).1; omega) (fun y hy hne q hq e => by
        rcases List.mem_append.1 hy with hy | hy
        · have := hge.out y hy hne q hq
          omega
        · rw [List.mem_singleton.1 hy] at hq
          have := HOF.out q hq; have := hB.out; omega))
      have HGE9 := Lib.hid (show ∀ y ∈ out ++ [⟨x.code, x.vendor, x.must, x.prot, A6, x.n, c6, x.bs⟩], y.bs ≠ [] → ∀ q, blk? y.A = some q → BS ≤ q from fun y hy hne q hq => by
        rcases List.mem_append.1 hy with hy | hy
        · exact hge.out y hy hne q hq
        · rw [List.mem_singleton.1 hy] at hq
          have := HOF.out q hq; have := hB.out; omega)
      have HQs := Lib.hid (hos.blk HQ9.out (by omega))
      have HVs := Lib.hid (show Up wa (w'.setCell ⟨p, 8, none⟩ (.slice A' (3 + (k + 1)) c')) from Below.out HV9.out hos (fun q hq => by have := HPE.out; omega) HV9.out.size)
      have HSs := Lib.hid (show BS ≤ (w'.setCell ⟨p, 8, none⟩ (.slice A' (3 + (k + 1)) c')).heap.size from Nat.le_trans HS9.out hos.size)
      generalize w'.setCell ⟨p, 8, none⟩ (.slice A' (3 + (k + 1)) c') = w9 at HXs HGs HQs HVs HSs ⊢
      have HE9 := Lib.hid (show List.map AvB.pure (out ++ [(⟨x.code, x.vendor, x.must, x.prot, A6, x.n, c6, x.bs⟩ : AvB)]) = threeA code (strB host) (strB realm) ++ (l.map AvB.pure).take (k + 1) by rw [HXE.out, List.map_append, hE.out, List.append_assoc]; rfl)
      clear hx9 z9 f9 hos
      go_wp2_with fail
      exact ⟨⟨k + 1, A', c', out ++ [⟨x.code, x.vendor, x.must, x.prot, A6, x.n, c6, x.bs⟩], by omega, rfl, HXs, HQs, HGs, HE9, HVs, HSs, HGE9⟩, by simp [intOf]; omega⟩
    · obtain rfl : k = n := by omega
      have d1 : decide ((k : Int) < (k : Int)) = false := decide_eq_false (by omega)
      have m0 : wr.cell? ⟨p, 0, none⟩ = some (.bool false) := cell_of hX.out (j := 0) rfl
      have m1 : wr.cell? ⟨p, 1, none⟩ = some (.bool X.prox) := cell_of hX.out (j := 1) rfl
      have m2 : wr.cell? ⟨p, 2, none⟩ = some (.bool F) := cell_of hX.out (j := 2) rfl
      have m3 : wr.cell? ⟨p, 3, none⟩ = some (.bool false) := cell_of hX.out (j := 3) rfl
      have m4 : wr.cell? ⟨p, 4, none⟩ = some (.int .u32 X.code) := cell_of hX.out (j := 4) rfl
      have m5 : wr.cell? ⟨p, 5, none⟩ = some (.int .u32 X.app) := cell_of hX.out (j := 5) rfl
      have m6 : wr.cell? ⟨p, 6, none⟩ = some (.int .u32 X.hop) := cell_of hX.out (j := 6) rfl
      have m7 : wr.cell? ⟨p, 7, none⟩ = some (.int .u32 X.end_) := cell_of hX.out (j := 7) rfl
      have m8 : wr.cell? ⟨p, 8, none⟩ = some (.slice B1 (3 + k) c1) := cell_of hX.out (j := 8) rfl
      go_wp2_with (with_reducible refine wpList_store_row rfl 25 _ _ rfl (pb + 1) #[.bool false, .bool X.prox, .bool F, .bool false, .int .u32 X.code, .int .u32 X.app, .int .u32 X.hop, .int .u32 X.end_, .slice B1 (3 + k) c1] rfl rfl 25 _ hQ.out (by kernel_rfl) rfl (by simp [Value.oneCell']) ?_)
      refine bodyPost_ret (results_cell_row (fn := Try.f23) (p := 10) (ty := 25) rfl _ _ (pb + 1) 25 _ (0, 0) _ rfl (setRow_heap _ _ _ _ _ _ hQ.out) Try.underlying25 rfl (by kernel_rfl)) rfl ?_
      have hos := setRow_out wr (pb + 1) #[.bool false, .bool X.prox, .bool F, .bool false, .int .u32 X.code, .int .u32 X.app, .int .u32 X.hop, .int .u32 X.end_, .slice B1 (3 + k) c1]
      have hG9 := hG.out.outS hos (fun q hq e => by have := (hG.out.lt hq).1; omega) (fun y hy hne q hq e => by have := hge.out y hy hne q hq; omega)
      have hUw : Up w wr := HU.out.trans hU.out
      refine ⟨⟨false, X.prox, F, false, X.code, X.app, X.hop, X.end_, B1, 3 + k, c1, out⟩, rfl, Lib.hid ?_, Lib.hid hG9.inL, Lib.hid (by show 3 + k ≤ 103; omega), Lib.hid (below_setRow hUw (by have := HPB.out; omega) _)⟩
      show (⟨false, X.prox, F, false, X.code, X.app, X.hop, X.end_, out.map AvB.pure⟩ : Msg) = _
      rw [hE.out, ← HF.out, List.take_of_length_le (by rw [HLT.out]; exact Nat.le_refl _)]
      rfl
end Go.Proofs.Ythncpkjnalmpkaa
