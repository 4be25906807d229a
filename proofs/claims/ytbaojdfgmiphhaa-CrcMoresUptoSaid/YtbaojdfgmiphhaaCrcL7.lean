import Derived.Test.YtbaojdfgmiphhaaCrcL6
namespace Go.Proofs.Ytbaojdfgmiphhaa
open Go Go.RowKit
set_option linter.unusedVariables false
set_option maxRecDepth 100000 in
set_option maxHeartbeats 2000000 in
theorem parts_some (hS : CSum) (A B C : Option Addr) (na ca nb cb nt ct : Nat) (xs ys ts : List Int) (w : World) (ha : InB w A na ca xs) (hb : InB w B nb cb ys) (ht : InB w C nt ct ts)
    (h1 : na ≤ 140737488351232) (h2 : nb ≤ 140737488351232) (h3 : nt ≤ 140737488351232) (hna : nt ≤ na) (hnb : nt ≤ nb) :
    Calls Try.prog 8 #[.slice A na ca, .slice B nb cb, .slice C nt ct] w (True2 w) := by
  have HS := Lib.hid hS
  have HA := Lib.hid ha
  have HB := Lib.hid hb
  have HT := Lib.hid ht
  clear hS ha hb ht
  have i1 : (nt : Int) ≤ na := by omega
  have i2 : (nt : Int) ≤ nb := by omega
  go_enter Try.func8, Try.ntmps8
  go_wp2_with fail
  refine (crc_ans HS.out _).mono ?_
  rintro e w1 ⟨rfl, u1⟩
  have U1 := Lib.hid u1
  clear u1
  go_wp2_with fail
  refine steadyX_lit (by kernel_rfl) (fun i => decide (0 < nt) && (i == 4 || i == 9)) (facts [EmpV w1.heap.size, Is (.slice A na ca), Is (.int .i64 (nt : Int)), IsI .u8 (xs.take nt), OwnV w1.heap.size nt (xs.take nt), EmpV w1.heap.size, Is (.slice B nb cb), Is (.int .i64 (nt : Int)), IsI .u8 (ys.take nt), OwnV w1.heap.size nt (ys.take nt), OwnV w1.heap.size nt (xs.take nt), OwnV w1.heap.size nt (ys.take nt)])
    (facts_keep (by simp [keeps_is, keeps_isI, keeps_ownV, keeps_empV])) 82 rfl (by decide +kernel) (by decide +kernel) (by decide +kernel) ?_ ?_
  · refine ⟨?_, ?_, ?_, ?_, ?_, ?_, ?_, ?_, ?_, ?_, ?_, ?_, trivial⟩
    · refine opOkX_plain rfl (by simp) rfl fun a w2 hu ho hd => ?_
      exact fine_slice0 22 .u8 5 w1.heap.size rfl (run_slice0 a _ rfl) hu.size (fun A' w' _ h => ⟨A', rfl, h⟩)
    · refine opOkX_copy 0 rfl (by simp) (.inr rfl) fun a w2 hu ho hd => ho 0 rfl
    · refine opOkX_copy 7 rfl (by simp) (.inr rfl) fun a w2 hu ho hd => ho 7 rfl
    · refine opOkX_plain rfl (by simp) rfl fun a w2 hu ho hd => ?_
      have d1 := hd 1 _ _ rfl rfl rfl
      have d2 := hd 2 _ _ rfl rfl rfl
      exact fine_sliceHi (.tmp 29) (.tmp 30) 22 5 .u8 Try.underlying22 size5 xs nt rfl (by rw [show a.eval (.tmp 29) = _ from d1]; exact ((HA.out.up U1.out).up hu).isI) d2 (by have := HA.out.len; omega) (fun A' c' hc hcl => ⟨A', c', by rw [ints_length, List.length_take, Nat.min_eq_left (by have := HA.out.len; omega)], by rw [ints_length, List.length_take]; omega, hcl⟩)
    · refine opOkX_new rfl rfl fun a w2 hu ho hd => ?_
      obtain ⟨A0, e0, o0⟩ := hd 0 _ _ rfl rfl rfl
      obtain ⟨B0, c1, e1, hc1, x1⟩ := hd 3 _ _ rfl rfl rfl
      rw [ints_length] at e1
      have hln : (xs.take nt).length = nt := by rw [List.length_take, Nat.min_eq_left (by have := HA.out.len; omega)]
      rw [hln] at e1
      exact fine_appendNew (.tmp 28) (.tmp 31) 22 rfl .u8 5 1 Try.underlying22 info5 w1.heap.size A0 e0 o0 B0 nt c1 (xs.take nt) e1 hln x1 (by omega) (by omega) hu.size
        (fun A' c' w' _ ho' hn' => ⟨⟨A', c', rfl, ho'⟩, fun hs => hn' (by simp at hs; exact hs)⟩)
    · refine opOkX_plain rfl (by simp) rfl fun a w2 hu ho hd => ?_
      exact fine_slice0 22 .u8 5 w1.heap.size rfl (run_slice0 a _ rfl) hu.size (fun A' w' _ h => ⟨A', rfl, h⟩)
    · refine opOkX_copy 1 rfl (by simp) (.inr rfl) fun a w2 hu ho hd => ho 1 rfl
    · refine opOkX_copy 7 rfl (by simp) (.inr rfl) fun a w2 hu ho hd => ho 7 rfl
    · refine opOkX_plain rfl (by simp) rfl fun a w2 hu ho hd => ?_
      have d1 := hd 6 _ _ rfl rfl rfl
      have d2 := hd 7 _ _ rfl rfl rfl
      exact fine_sliceHi (.tmp 34) (.tmp 35) 22 5 .u8 Try.underlying22 size5 ys nt rfl (by rw [show a.eval (.tmp 34) = _ from d1]; exact ((HB.out.up U1.out).up hu).isI) d2 (by have := HB.out.len; omega) (fun A' c' hc hcl => ⟨A', c', by rw [ints_length, List.length_take, Nat.min_eq_left (by have := HB.out.len; omega)], by rw [ints_length, List.length_take]; omega, hcl⟩)
    · refine opOkX_new rfl rfl fun a w2 hu ho hd => ?_
      obtain ⟨A0, e0, o0⟩ := hd 5 _ _ rfl rfl rfl
      obtain ⟨B0, c1, e1, hc1, x1⟩ := hd 8 _ _ rfl rfl rfl
      rw [ints_length] at e1
      have hln : (ys.take nt).length = nt := by rw [List.length_take, Nat.min_eq_left (by have := HB.out.len; omega)]
      rw [hln] at e1
      exact fine_appendNew (.tmp 33) (.tmp 36) 22 rfl .u8 5 1 Try.underlying22 info5 w1.heap.size A0 e0 o0 B0 nt c1 (ys.take nt) e1 hln x1 (by omega) (by omega) hu.size
        (fun A' c' w' _ ho' hn' => ⟨⟨A', c', rfl, ho'⟩, fun hs => hn' (by simp at hs; exact hs)⟩)
    · refine opOkX_copy 32 rfl (by simp) (.inl rfl) fun a w2 hu ho hd => hd 4 _ _ rfl rfl rfl
    · refine opOkX_copy 37 rfl (by simp) (.inl rfl) fun a w2 hu ho hd => hd 9 _ _ rfl rfl rfl
  · intro a w2 hI
    obtain ⟨A1, c1, e1, o1⟩ := hI.base.get (i := 10) rfl rfl
    obtain ⟨A2, c2, e2, o2⟩ := hI.base.get (i := 11) rfl rfl
    have q1 := hI.copy 10 _ 8 32 rfl (by decide) rfl rfl
    have q2 := hI.copy 11 _ 9 37 rfl (by decide) rfl rfl
    have hap : 0 < nt → blkOf (.slice A1 nt c1) ≠ blkOf (.slice A2 nt c2) := fun hp => by
      have := hI.apart 4 9 _ _ 32 37 (by simp [hp]) (by simp [hp]) (by decide) rfl rfl (by decide) (by decide) rfl rfl
      rw [← q1, ← q2] at this
      rw [← e1, ← e2]
      exact this
    have O1 := Lib.hid o1
    have O2 := Lib.hid o2
    have U2 := Lib.hid (hI.base.world)
    have AP := Lib.hid hap
    have l0 : a.tmps.getD 0 undef = .slice A na ca := hI.base.old 0 rfl
    have l1 : a.tmps.getD 1 undef = .slice B nb cb := hI.base.old 1 rfl
    have l2 : a.tmps.getD 2 undef = .slice C nt ct := hI.base.old 2 rfl
    have l6 : a.tmps.getD 6 undef = .bool false := hI.base.old 6 rfl
    have l7 : a.tmps.getD 7 undef = .int .i64 (nt : Int) := hI.base.old 7 rfl
    have hde : a.defers = [] := hI.base.defers
    have hal := act_lit a 82 hI.base.size
    clear hI q1 q2 hap o1 o2
    simp only [List.range, List.range.loop, List.map_cons, List.map_nil] at hal
    rw [l0, l1, l2, l6, l7, e1, e2, hde] at hal
    generalize a.tmps.getD 3 undef = t3 at hal
    generalize a.tmps.getD 4 undef = t4 at hal
    generalize a.tmps.getD 5 undef = t5 at hal
    generalize a.tmps.getD 10 undef = t10 at hal
    generalize a.tmps.getD 11 undef = t11 at hal
    generalize a.tmps.getD 12 undef = t12 at hal
    generalize a.tmps.getD 13 undef = t13 at hal
    generalize a.tmps.getD 14 undef = t14 at hal
    generalize a.tmps.getD 15 undef = t15 at hal
    generalize a.tmps.getD 16 undef = t16 at hal
    generalize a.tmps.getD 17 undef = t17 at hal
    generalize a.tmps.getD 18 undef = t18 at hal
    generalize a.tmps.getD 19 undef = t19 at hal
    generalize a.tmps.getD 20 undef = t20 at hal
    generalize a.tmps.getD 21 undef = t21 at hal
    generalize a.tmps.getD 22 undef = t22 at hal
    generalize a.tmps.getD 23 undef = t23 at hal
    generalize a.tmps.getD 24 undef = t24 at hal
    generalize a.tmps.getD 25 undef = t25 at hal
    generalize a.tmps.getD 26 undef = t26 at hal
    generalize a.tmps.getD 27 undef = t27 at hal
    generalize a.tmps.getD 28 undef = t28 at hal
    generalize a.tmps.getD 29 undef = t29 at hal
    generalize a.tmps.getD 30 undef = t30 at hal
    generalize a.tmps.getD 31 undef = t31 at hal
    generalize a.tmps.getD 32 undef = t32 at hal
    generalize a.tmps.getD 33 undef = t33 at hal
    generalize a.tmps.getD 34 undef = t34 at hal
    generalize a.tmps.getD 35 undef = t35 at hal
    generalize a.tmps.getD 36 undef = t36 at hal
    generalize a.tmps.getD 37 undef = t37 at hal
    generalize a.tmps.getD 38 undef = t38 at hal
    generalize a.tmps.getD 39 undef = t39 at hal
    generalize a.tmps.getD 40 undef = t40 at hal
    generalize a.tmps.getD 41 undef = t41 at hal
    generalize a.tmps.getD 42 undef = t42 at hal
    generalize a.tmps.getD 43 undef = t43 at hal
    generalize a.tmps.getD 44 undef = t44 at hal
    generalize a.tmps.getD 45 undef = t45 at hal
    generalize a.tmps.getD 46 undef = t46 at hal
    generalize a.tmps.getD 47 undef = t47 at hal
    generalize a.tmps.getD 48 undef = t48 at hal
    generalize a.tmps.getD 49 undef = t49 at hal
    generalize a.tmps.getD 50 undef = t50 at hal
    generalize a.tmps.getD 51 undef = t51 at hal
    generalize a.tmps.getD 52 undef = t52 at hal
    generalize a.tmps.getD 53 undef = t53 at hal
    generalize a.tmps.getD 54 undef = t54 at hal
    generalize a.tmps.getD 55 undef = t55 at hal
    generalize a.tmps.getD 56 undef = t56 at hal
    generalize a.tmps.getD 57 undef = t57 at hal
    generalize a.tmps.getD 58 undef = t58 at hal
    generalize a.tmps.getD 59 undef = t59 at hal
    generalize a.tmps.getD 60 undef = t60 at hal
    generalize a.tmps.getD 61 undef = t61 at hal
    generalize a.tmps.getD 62 undef = t62 at hal
    generalize a.tmps.getD 63 undef = t63 at hal
    generalize a.tmps.getD 64 undef = t64 at hal
    generalize a.tmps.getD 65 undef = t65 at hal
    generalize a.tmps.getD 66 undef = t66 at hal
    generalize a.tmps.getD 67 undef = t67 at hal
    generalize a.tmps.getD 68 undef = t68 at hal
    generalize a.tmps.getD 69 undef = t69 at hal
    generalize a.tmps.getD 70 undef = t70 at hal
    generalize a.tmps.getD 71 undef = t71 at hal
    generalize a.tmps.getD 72 undef = t72 at hal
    generalize a.tmps.getD 73 undef = t73 at hal
    generalize a.tmps.getD 74 undef = t74 at hal
    generalize a.tmps.getD 75 undef = t75 at hal
    generalize a.tmps.getD 76 undef = t76 at hal
    generalize a.tmps.getD 77 undef = t77 at hal
    generalize a.tmps.getD 78 undef = t78 at hal
    generalize a.tmps.getD 79 undef = t79 at hal
    generalize a.tmps.getD 80 undef = t80 at hal
    generalize a.tmps.getD 81 undef = t81 at hal
    clear l0 l1 l2 l6 l7 e1 e2 hde
    subst hal
    go_wp2_with fail
    have lx : (xs.take nt).length = nt := by rw [List.length_take, Nat.min_eq_left (by have := HA.out.len; omega)]
    have ly : (ys.take nt).length = nt := by rw [List.length_take, Nat.min_eq_left (by have := HB.out.len; omega)]
    have LX := Lib.hid lx
    have LY := Lib.hid ly
    clear lx ly
    go_loopw [10] (fun i wr => ∃ k : Nat, k ≤ nt ∧ i = .int .i64 k ∧ Hid (OwnI .u8 5 w1.heap.size wr A1 nt c1 (mixL (xs.take nt) ts k)) ∧ Hid (OwnI .u8 5 w1.heap.size wr A2 nt c2 (mixL (ys.take nt) ts k)) ∧ Hid (Up w1 wr)) (fun i _ => nt - (intOf i).toNat)
    case atStart => exact ⟨0, Nat.zero_le _, rfl, by show OwnI _ _ _ _ _ _ _ _; rw [mixL_zero]; exact O1.out, by show OwnI _ _ _ _ _ _ _ _; rw [mixL_zero]; exact O2.out, U2⟩
    case round =>
      obtain ⟨k, hk, rfl, H1, H2, HU⟩ := hrel
      clear O1 O2 U2
      by_cases hlt : k < nt
      · obtain ⟨g1, rfl, b1, z1⟩ := H1.out.at_ (by omega)
        obtain ⟨g2, rfl, b2, z2⟩ := H2.out.at_ (by omega)
        obtain ⟨gc, oc, rfl, hgc, hcc⟩ := (HT.out.up U1.out).cells (by intro e; have := congrArg List.length e; rw [ints_length, HT.out.len, List.length_nil] at this; omega)
        have hne : g1 ≠ g2 := AP.out (by omega)
        obtain ⟨p, hp⟩ : ∃ p, (xs.take nt)[k]? = some p := ⟨_, List.getElem?_eq_getElem (by rw [LX.out]; exact hlt)⟩
        obtain ⟨r, hr⟩ : ∃ r, (ys.take nt)[k]? = some r := ⟨_, List.getElem?_eq_getElem (by rw [LY.out]; exact hlt)⟩
        obtain ⟨q, hq⟩ : ∃ q, ts[k]? = some q := ⟨_, List.getElem?_eq_getElem (by rw [HT.out.len]; exact hlt)⟩
        have m1 : (mixL (xs.take nt) ts k)[k]? = some p := by rw [mixL_get _ _ _ _ (by rw [LX.out]; exact hlt), if_neg (by omega)]; simp [List.getD, hp]
        have m2 : (mixL (ys.take nt) ts k)[k]? = some r := by rw [mixL_get _ _ _ _ (by rw [LY.out]; exact hlt), if_neg (by omega)]; simp [List.getD, hr]
        have cell1 := H1.out.cellAt m1
        have cell2 := H2.out.cellAt m2
        have cellT : wr.cell? ⟨gc, oc + k, none⟩ = some (.int .u8 q) := (HU.out.cell (p := ⟨gc, oc + k, none⟩) hgc).trans (hcc k _ (by simp [ints, hq]))
        have fr1 := H1.out.frozenAt k
        have fr2 := H2.out.frozenAt k
        have pb := byt_take HA.out.byt nt p (List.mem_of_getElem? hp)
        have rb := byt_take HB.out.byt nt r (List.mem_of_getElem? hr)
        have qb := HT.out.byt q (List.mem_of_getElem? hq)
        have x1 : bits .xor .u8 p q = xorI p q := xorI_val pb qb
        have x2 : bits .xor .u8 r q = xorI r q := xorI_val rb qb
        have S1 := Lib.hid (mixL_set (xs.take nt) ts k p q hp hq)
        have S2 := Lib.hid (mixL_set (ys.take nt) ts k r q hr hq)
        have nc1 : gc ≠ g1 := by omega
        have ne2 : g2 ≠ g1 := fun e => hne e.symm
        clear hp hq hr m1 m2 hcc pb rb qb
        have cell2' : (wr.setCell ⟨g1, k, none⟩ (.int .u8 (xorI p q))).cell? ⟨g2, k, none⟩ = some (.int .u8 r) := (World.cell?_setCell_other _ _ _ _ (fun e => hne (Addr.mk.inj e).1)).trans cell2
        have cellT' : (wr.setCell ⟨g1, k, none⟩ (.int .u8 (xorI p q))).cell? ⟨gc, oc + k, none⟩ = some (.int .u8 q) := (World.cell?_setCell_other _ _ _ _ (fun e => nc1 (Addr.mk.inj e).1.symm)).trans cellT
        go_wp2_with fail
        go_region
        go_wp2_with fail
        go_region
        go_wp2_with fail
        go_roundw
        case rel =>
          refine ⟨k + 1, by omega, by go_num, ?_, ?_, ?_⟩
          · show OwnI _ _ _ _ _ _ _ _
            rw [← S1.out]
            exact OwnI.other (OwnI.stored H1.out k _) hne _
          · show OwnI _ _ _ _ _ _ _ _
            rw [← S2.out]
            exact OwnI.stored (OwnI.other H2.out ne2 _) k _
          · exact Lib.hid (((HU.out.setCell b1 _).setCell b2 _).drew.drew)
        case measure => simp [intOf]; omega
      · obtain rfl : k = nt := by omega
        have bx := byt_mix (byt_take HA.out.byt k) HT.out.byt (by rw [LX.out, HT.out.len]) k
        have by' := byt_mix (byt_take HB.out.byt k) HT.out.byt (by rw [LY.out, HT.out.len]) k
        have I1 := Lib.hid (own_inB H1.out bx)
        have I2 := Lib.hid (own_inB H2.out by')
        have e1 : nats (mixL (xs.take k) ts k) = List.zipWith (· ^^^ ·) (nats (xs.take k)) (nats ts) := by
          have := mixL_all (xs.take k) ts (by rw [LX.out, HT.out.len])
          rwa [LX.out] at this
        have e2 : nats (mixL (ys.take k) ts k) = List.zipWith (· ^^^ ·) (nats (ys.take k)) (nats ts) := by
          have := mixL_all (ys.take k) ts (by rw [LY.out, HT.out.len])
          rwa [LY.out] at this
        have hfin := Crc.parts (nats (xs.take k)) (nats (ys.take k)) (nats ts) (by simp only [nats, List.length_map]; rw [LX.out, HT.out.len]) (by simp only [nats, List.length_map]; rw [LY.out, HT.out.len])
        rw [← e1, ← e2] at hfin
        have HF := Lib.hid hfin
        have L1 := Crc.more_lt (s := 0) (by omega) (nats_lt (byt_take HA.out.byt k))
        have L2 := Crc.more_lt (s := 0) (by omega) (nats_lt bx)
        have L3 := Crc.more_lt (s := 0) (by omega) (nats_lt (byt_take HB.out.byt k))
        have L4 := Crc.more_lt (s := 0) (by omega) (nats_lt by')
        clear bx by' e1 e2 hfin H1 H2
        go_wp2_with fail
        refine steady_lit (by kernel_rfl) (facts [Is (.slice A na ca), Is (.int .i64 (k : Int)), IsI .u8 (xs.take k), Is (.int .u32 ((Crc.more 0 (nats (xs.take k)) : Nat) : Int)), Is (.slice A1 k c1), Is (.int .u32 ((Crc.more 0 (nats (mixL (xs.take k) ts k)) : Nat) : Int)), Is (.int .u32 ((Crc.more 0 (nats (xs.take k)) ^^^ Crc.more 0 (nats (mixL (xs.take k) ts k)) : Nat) : Int)), Is (.slice B nb cb), Is (.int .i64 (k : Int)), IsI .u8 (ys.take k), Is (.int .u32 ((Crc.more 0 (nats (ys.take k)) : Nat) : Int)), Is (.slice A2 k c2), Is (.int .u32 ((Crc.more 0 (nats (mixL (ys.take k) ts k)) : Nat) : Int)), Is (.int .u32 ((Crc.more 0 (nats (ys.take k)) ^^^ Crc.more 0 (nats (mixL (ys.take k) ts k)) : Nat) : Int)), Is (.bool true), Is (.bool true)])
          (facts_keep (by simp [keeps_is, keeps_isI])) 82 rfl (by decide +kernel) (by decide +kernel) ?_ ?_
        · refine ⟨?_, ?_, ?_, ?_, ?_, ?_, ?_, ?_, ?_, ?_, ?_, ?_, ?_, ?_, ?_, ?_, trivial⟩
          · refine opOk_plain rfl fun a w3 hu ho hd => ?_
            have s := ho 0 rfl
            exact fine_move _ rfl s
          · refine opOk_plain rfl fun a w3 hu ho hd => ?_
            have s := ho 7 rfl
            exact fine_move _ rfl s
          · refine opOk_plain rfl fun a w3 hu ho hd => ?_
            have d1 := hd 0 _ _ rfl rfl rfl
            have d2 := hd 1 _ _ rfl rfl rfl
            exact fine_sliceHi (.tmp 67) (.tmp 68) 22 5 .u8 Try.underlying22 size5 xs k rfl (by rw [show a.eval (.tmp 67) = _ from d1]; exact ((((HA.out.up U1.out).up HU.out).up hu)).isI) d2 (by have := HA.out.len; omega) (fun A' c' hc hcl => ⟨A', c', by rw [ints_length, List.length_take, Nat.min_eq_left (by have := HA.out.len; omega)], by rw [ints_length, List.length_take]; omega, hcl⟩)
          · refine opOk_plain rfl fun a w3 hu ho hd => ?_
            obtain ⟨B0, c0, e1, hc1, x1⟩ := hd 2 _ _ rfl rfl rfl
            rw [ints_length] at e1 hc1
            have hln : (xs.take k).length = k := LX.out
            rw [hln] at e1 hc1
            exact fine_fcall 10 [.tmp 69] _ rfl (by kernel_rfl) (by simp only [List.map_cons, List.map_nil, show a.eval (.tmp 69) = _ from e1]; exact ((HS.out B0 k c0 (xs.take k) _ ⟨x1, byt_take HA.out.byt k, hc1, hln⟩ (by omega)).mono fun e w' ⟨he, hup⟩ => ⟨hup, _, he, rfl⟩))
          · refine opOk_plain rfl fun a w3 hu ho hd => ?_
            have s := ho 8 rfl
            exact fine_move _ rfl s
          · refine opOk_plain rfl fun a w3 hu ho hd => ?_
            have d1 := hd 4 _ _ rfl rfl rfl
            exact fine_fcall 10 [.tmp 71] _ rfl (by kernel_rfl) (by simp only [List.map_cons, List.map_nil, show a.eval (.tmp 71) = _ from d1]; exact ((HS.out A1 k c1 _ _ (I1.out.up hu) (by omega)).mono fun e w' ⟨he, hup⟩ => ⟨hup, _, he, rfl⟩))
          · refine opOk_plain rfl fun a w3 hu ho hd => ?_
            have d1 := hd 3 _ _ rfl rfl rfl
            have d2 := hd 5 _ _ rfl rfl rfl
            exact fine_xor32 _ _ _ _ (Crc.more 0 (nats (xs.take k))) (Crc.more 0 (nats (mixL (xs.take k) ts k))) rfl d1 d2 L1 L2 rfl
          · refine opOk_plain rfl fun a w3 hu ho hd => ?_
            have s := ho 1 rfl
            exact fine_move _ rfl s
          · refine opOk_plain rfl fun a w3 hu ho hd => ?_
            have s := ho 7 rfl
            exact fine_move _ rfl s
          · refine opOk_plain rfl fun a w3 hu ho hd => ?_
            have d1 := hd 7 _ _ rfl rfl rfl
            have d2 := hd 8 _ _ rfl rfl rfl
            exact fine_sliceHi (.tmp 74) (.tmp 75) 22 5 .u8 Try.underlying22 size5 ys k rfl (by rw [show a.eval (.tmp 74) = _ from d1]; exact ((((HB.out.up U1.out).up HU.out).up hu)).isI) d2 (by have := HB.out.len; omega) (fun A' c' hc hcl => ⟨A', c', by rw [ints_length, List.length_take, Nat.min_eq_left (by have := HB.out.len; omega)], by rw [ints_length, List.length_take]; omega, hcl⟩)
          · refine opOk_plain rfl fun a w3 hu ho hd => ?_
            obtain ⟨B0, c0, e1, hc1, x1⟩ := hd 9 _ _ rfl rfl rfl
            rw [ints_length] at e1 hc1
            have hln : (ys.take k).length = k := LY.out
            rw [hln] at e1 hc1
            exact fine_fcall 10 [.tmp 76] _ rfl (by kernel_rfl) (by simp only [List.map_cons, List.map_nil, show a.eval (.tmp 76) = _ from e1]; exact ((HS.out B0 k c0 (ys.take k) _ ⟨x1, byt_take HB.out.byt k, hc1, hln⟩ (by omega)).mono fun e w' ⟨he, hup⟩ => ⟨hup, _, he, rfl⟩))
          · refine opOk_plain rfl fun a w3 hu ho hd => ?_
            have s := ho 9 rfl
            exact fine_move _ rfl s
          · refine opOk_plain rfl fun a w3 hu ho hd => ?_
            have d1 := hd 11 _ _ rfl rfl rfl
            exact fine_fcall 10 [.tmp 78] _ rfl (by kernel_rfl) (by simp only [List.map_cons, List.map_nil, show a.eval (.tmp 78) = _ from d1]; exact ((HS.out A2 k c2 _ _ (I2.out.up hu) (by omega)).mono fun e w' ⟨he, hup⟩ => ⟨hup, _, he, rfl⟩))
          · refine opOk_plain rfl fun a w3 hu ho hd => ?_
            have d1 := hd 10 _ _ rfl rfl rfl
            have d2 := hd 12 _ _ rfl rfl rfl
            exact fine_xor32 _ _ _ _ (Crc.more 0 (nats (ys.take k))) (Crc.more 0 (nats (mixL (ys.take k) ts k))) rfl d1 d2 L3 L4 rfl
          · refine opOk_plain rfl fun a w3 hu ho hd => ?_
            have d1 := hd 6 _ _ rfl rfl rfl
            have d2 := hd 13 _ _ rfl rfl rfl
            exact fine_eqi _ _ _ _ _ _ _ true rfl d1 d2 (by rw [HF.out]; simp) rfl
          · refine opOk_plain rfl fun a w3 hu ho hd => ?_
            have d1 := hd 14 _ _ rfl rfl rfl
            exact fine_assign _ rfl d1
        · intro a w3 hI
          have hres := hI.get (i := 15) rfl rfl
          have hbel := hI.world
          have hdef := hI.defers
          clear hI
          go_wp2
          refine bodyPost_ret (results_tmp rfl _ _ _) hdef ?_
          exact ⟨congrArg Ending.returned hres, (U1.out.trans HU.out).trans hbel⟩
end Go.Proofs.Ytbaojdfgmiphhaa
