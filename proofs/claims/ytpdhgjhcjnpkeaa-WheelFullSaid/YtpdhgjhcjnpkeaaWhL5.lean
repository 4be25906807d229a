import Derived.Test.YtpdhgjhcjnpkeaaWhL4
namespace Go.Proofs.Ytpdhgjhcjnpkeaa
open Go Go.RowKit
set_option linter.unusedVariables false
section
variable {IsW : (Nat → Prop) → World → Addr → List Tm.T → Prop}
theorem atP_v (C : WC IsW) {w0 w w' : World} {pv pw : Addr} {g : Nat} {T : List Int} {Qv' Qw : List Tm.T → Prop} {Sv Sw Sv' : Nat → Prop} {Lw Lv' : List Tm.T} (h2 : IsW Sw w pw Lw) (h3 : From w0.heap.size Sv) (h4 : From w0.heap.size Sw) (h5 : Below w0.heap.size w0 w) (h7 : Qw Lw)
    (h8 : ∀ k, Sv k → ¬ Sw k) (h9 : ¬ Sv g) (h10 : ¬ Sw g) (h11 : w.heap[g]? = some (.cells (ints .i64 T).toArray 3 (0, 0))) (h12 : w0.heap.size ≤ g) (hI : IsW Sv' w' pv Lv') (hs : Sub Sv' Sv w) (ho : Out Sv w w') (hq : Qv' Lv') : AtP IsW w0 pv pw g T Qv' Qw w' :=
  ⟨Sv', Sw, Lv', Lw, hI, C.out h2 ho (fun k hk e => h8 k e hk), h3.sub hs h5.size, h4, Below.out h5 ho h3 h5.size, hq, h7, fun k hk hk2 => by
    rcases hs k hk with h | h
    · exact h8 k h hk2
    · have := C.lt h2 k hk2; omega, Out.not hs h9 (lt_of_blk h11), h10, ho.blk h11 h9, h12⟩
theorem atP_w (C : WC IsW) {w0 w w' : World} {pv pw : Addr} {g : Nat} {T : List Int} {Qv Qw' : List Tm.T → Prop} {Sv Sw Sw' : Nat → Prop} {Lv Lw' : List Tm.T} (h1 : IsW Sv w pv Lv) (h3 : From w0.heap.size Sv) (h4 : From w0.heap.size Sw) (h5 : Below w0.heap.size w0 w) (h6 : Qv Lv)
    (h8 : ∀ k, Sv k → ¬ Sw k) (h9 : ¬ Sv g) (h10 : ¬ Sw g) (h11 : w.heap[g]? = some (.cells (ints .i64 T).toArray 3 (0, 0))) (h12 : w0.heap.size ≤ g) (hI : IsW Sw' w' pw Lw') (hs : Sub Sw' Sw w) (ho : Out Sw w w') (hq : Qw' Lw') : AtP IsW w0 pv pw g T Qv Qw' w' :=
  ⟨Sv, Sw', Lv, Lw', C.out h1 ho h8, hI, h3, h4.sub hs h5.size, Below.out h5 ho h4 h5.size, h6, hq, fun k hk hk2 => by
    rcases hs k hk2 with h | h
    · exact h8 k hk h
    · have := C.lt h1 k hk; omega, h9, Out.not hs h10 (lt_of_blk h11), ho.blk h11 h10, h12⟩
set_option maxRecDepth 100000 in
set_option maxHeartbeats 1000000 in
theorem law_order (C : WC IsW) (B0 B1 : Option Addr) (len0 cap0 len1 cap1 : Nat) (z0 z1 : List Int) (w : World) (h0 : InK .u8 w B0 len0 cap0 z0) (h1 : InK .u8 w B1 len1 cap1 z1) (r0 : len0 ≤ 140737488351232) (r1 : len1 ≤ 140737488351232) :
    Calls Try.prog 5 #[.slice B0 len0 cap0, .slice B1 len1 cap1] w (True2 w) := by
  have HA := Lib.hid (answers_w C)
  have HC := Lib.hid C
  have H0 := Lib.hid h0
  have H1 := Lib.hid h1
  clear C h0 h1
  go_enter Try.func5, Try.ntmps5
  go_upto_if 17 with (fail)
  go_cut [5] (fun s5 wx => ∃ N : Nat, N ≤ 100 ∧ N ≤ len0 ∧ s5 = .int .i64 (N : Int) ∧ w = wx)
  case first =>
    by_cases hlt : 100 < len0
    · go_wp2_with fail
      go_meet
      exact ⟨100, by omega, by omega, rfl, rfl⟩
    · go_wp2_with fail
      go_meet
      exact ⟨len0, by omega, by omega, rfl, rfl⟩
  case rest =>
    obtain ⟨N, hN1, hN2, rfl, rfl⟩ := hcut
    go_wp2_with fail
    refine (HC.out.new _).mono ?_
    rintro e w1 ⟨pv, Sv, rfl, h1, hf, hu⟩
    have I1 := Lib.hid h1
    have F := Lib.hid hf
    have U := Lib.hid hu
    clear h1 hf hu
    go_wp2_with fail
    refine (HC.out.new _).mono ?_
    rintro e w2 ⟨pw, Sw, rfl, h1, hf, hu⟩
    have I2 := Lib.hid h1
    have F2 := Lib.hid hf
    have U2 := Lib.hid hu
    clear h1 hf hu
    go_wp2_with fail
    refine (HA.out _).mono ?_
    rintro e w3 ⟨rfl, hu3⟩
    have U3 := Lib.hid hu3
    clear hu3
    have hmk := make_ints N (by omega)
    go_wp2_with fail
    have A0 := Lib.hid (show AtP IsW w pv pw w3.heap.size (nums (List.range 0) ++ List.replicate (N - 0) 0) (Q3 z0 (List.range N) 0) (fun L => L = []) (w3.alloc (.cells (ints .i64 (List.replicate N 0)).toArray 3)) from by
      have ua := (Below.refl w3.heap.size w3).alloc (Nat.le_refl _) (.cells (ints .i64 (List.replicate N 0)).toArray 3)
      exact ⟨Sv, Sw, [], [], HC.out.up (HC.out.up (HC.out.up I1.out U2.out) U3.out) ua, HC.out.up (HC.out.up I2.out U3.out) ua, F.out, fun k hk => Nat.le_trans U.out.size (F2.out k hk), ((U.out.trans U2.out).trans U3.out).trans ua |>.mono (Nat.le_refl _), q3_zero _ _, rfl,
        fun k hk hk2 => by have := HC.out.lt I1.out k hk; have := F2.out k hk2; omega, fun hk => by have := HC.out.lt I1.out _ hk; have := U2.out.size; have := U3.out.size; omega, fun hk => by have := HC.out.lt I2.out _ hk; have := U3.out.size; omega, by simpa [nums] using heap_alloc_new _ _, Nat.le_trans U.out.size (Nat.le_trans U2.out.size U3.out.size)⟩)
    clear I1 F U I2 F2 U2 U3 hmk
    generalize hg : w3.heap.size = g at A0
    have HG := Lib.hid hg
    clear hg
    go_loopw [9] (fun s wx => ∃ i : Nat, i ≤ N ∧ s = .int .i64 i ∧ Hid (AtP IsW w pv pw g (nums (List.range i) ++ List.replicate (N - i) 0) (Q3 z0 (List.range N) i) (fun L => L = []) wx)) (fun s _ => N - (intOf s).toNat)
    case atStart => exact ⟨0, Nat.zero_le _, rfl, A0⟩
    case round =>
      obtain ⟨i, hi, rfl, hA⟩ := hrel
      clear A0
      by_cases hlt : i < N
      · have hA2 := atP_store HC.out hA.out (j := i) (i : Int)
        rw [range_store N i hlt] at hA2
        obtain ⟨Sv, Sw, Lv, Lw, g1, g2, g3, g4, g5, g6, g7, g8, g9, g10, g11, g12⟩ := hA2
        obtain ⟨_, _, _, _, _, _, _, _, _, _, _, _, _, _, k11, _⟩ := hA.out
        obtain ⟨b0, o0, rfl⟩ := H0.out.at_ (by omega)
        have hcell := H0.out.cell g5 (show i < len0 by omega)
        have hb := H0.out.u8 (i := i)
        have hfr := row_free (j := i) k11
        have hce : wr.cell? ⟨g, i, none⟩ = some (.int .i64 0) := row_cell k11 (by
          rw [List.getElem?_append_right (by simp [nums])]
          simp only [nums, List.length_map, List.length_range, Nat.sub_self]
          rw [List.getElem?_replicate, if_pos (by omega)])
        have hnx := q3_succ g6 List.nodup_range (show (List.range N)[i]? = some i by simp [hlt])
        have HI := Lib.hid g1
        have HL := Lib.hid g6.1
        have HN := Lib.hid hnx
        have HE := Lib.hid (fun (w' : World) (Sv' : Nat → Prop) (Lv' : List Tm.T) (hI : IsW Sv' w' pv Lv') (hs : Sub Sv' Sv (wr.setCell ⟨g, i, none⟩ (.int .i64 (i : Int)))) (ho : Out Sv (wr.setCell ⟨g, i, none⟩ (.int .i64 (i : Int))) w') (hq : Q3 z0 (List.range N) (i + 1) Lv') => atP_v (Qv' := Q3 z0 (List.range N) (i + 1)) (Qw := fun L => L = []) HC.out g2 g3 g4 g5 g7 g8 g9 g10 g11 g12 hI hs ho hq)
        clear hA g1 g2 g3 g4 g5 g6 g7 g8 g9 g10 g11 g12 k11 hnx
        generalize hz : z0.getD i 0 = x at hcell hb
        have HZ := Lib.hid hz
        clear hz
        go_wp2_with fail
        refine (HC.out.set Sv pv Lv i _ _ HI.out (by unfold I64; omega) (by omega) (by omega) (.inr (by have := HL.out; omega))).mono ?_
        rintro e w4 ⟨S2, rfl, h3, hs3, ho3⟩
        have A1 := Lib.hid (HE.out w4 S2 _ h3 hs3 ho3 (by have := HN.out; rw [HZ.out] at this; exact this))
        clear h3 hs3 ho3 HI HL HN HE
        go_wp2_with fail
        go_roundw
        case rel => exact ⟨i + 1, by omega, by go_num, A1⟩
        case measure => simp [intOf]; omega
      · obtain rfl : i = N := by omega
        have A1 := Lib.hid (show AtP IsW w pv pw g (nums (List.range i)) (Q3 z0 (List.range i) i) (fun L => L = []) wr by
          have := hA.out
          rw [Nat.sub_self, List.replicate_zero, List.append_nil] at this
          exact this)
        clear hA
        go_wp2_with fail
        obtain ⟨M, hM1, hM2, hM3⟩ : ∃ M : Nat, M ≤ len1 ∧ M ≤ i ∧ (M = len1 ∨ M = i) := ⟨min len1 i, by omega, by omega, by omega⟩
        have HM := Lib.hid hM3
        clear hM3
        go_loopw [10] (fun s wx => ∃ (t : Nat) (T : List Nat), t ≤ M ∧ s = .int .i64 t ∧ Hid (T.Perm (List.range i)) ∧ Hid (AtP IsW w pv pw g (nums T) (Q3 z0 (List.range i) i) (fun L => L = []) wx)) (fun s _ => i - (intOf s).toNat)
        case atStart => exact ⟨0, _, Nat.zero_le _, rfl, Lib.hid (.refl _), A1⟩
        case round =>
          obtain ⟨t, T, ht, rfl, hP, hA⟩ := hrel
          clear A1
          have HMM := HM.out
          go_upto_region 14 with (fail)
          go_cut [57] (fun s57 wx => s57 = .bool (decide (t < M)) ∧ wr = wx)
          case first =>
            by_cases hl : t < len1
            · by_cases hl2 : t < i
              · have E := Lib.hid (show decide (t < M) = true from decide_eq_true (by omega))
                clear HMM
                go_wp2_with fail
                go_meet
                exact ⟨by rw [E.out], rfl⟩
              · have E := Lib.hid (show decide (t < M) = false from decide_eq_false (by omega))
                have hl3 : i ≤ t := by omega
                clear HMM hl2
                go_wp2_with fail
                go_meet
                exact ⟨by first | rw [E.out, decide_eq_false (show ¬ t < i by omega)] | rw [E.out, decide_eq_false (show ¬ (t : Int) < i by omega)], rfl⟩
            · have E := Lib.hid (show decide (t < M) = false from decide_eq_false (by omega))
              have hl3 : len1 ≤ t := by omega
              clear HMM hl
              go_wp2_with fail
              go_meet
              exact ⟨by rw [E.out], rfl⟩
          case rest =>
          obtain ⟨rfl, rfl⟩ := hcut
          by_cases hlt : t < M
          · have hlen : T.length = i := by rw [hP.out.length_eq, List.length_range]
            obtain ⟨b1, o1, rfl⟩ := H1.out.at_ (by omega)
            obtain ⟨Sv, Sw, Lv, Lw, g1, g2, g3, g4, g5, g6, g7, g8, g9, g10, g11, g12⟩ := hA.out
            have hcell := H1.out.cell g5 (show t < len1 by omega)
            have hb := H1.out.u8 (i := t)
            generalize hz : z1.getD t 0 = y at hcell hb
            clear hz
            have hk0 : 0 ≤ y % (i : Int) := Int.emod_nonneg _ (by omega)
            have hk1 : y % (i : Int) < i := Int.emod_lt_of_pos _ (by omega)
            obtain ⟨κ, hκ⟩ := Int.eq_ofNat_of_zero_le hk0
            have hκ1 : κ < i := by omega
            obtain ⟨a, ha⟩ : ∃ a, T[t]? = some a := ⟨_, List.getElem?_eq_getElem (by omega)⟩
            obtain ⟨b, hb2⟩ : ∃ b, T[κ]? = some b := ⟨_, List.getElem?_eq_getElem (by omega)⟩
            have c1 : wr.cell? ⟨g, t, none⟩ = some (.int .i64 (a : Int)) := row_cell g11 (by simp [nums, ha])
            have c2 : wr.cell? ⟨g, κ, none⟩ = some (.int .i64 (b : Int)) := row_cell g11 (by simp [nums, hb2])
            have f1 := row_free (j := t) g11
            have f2 := row_free (j := κ) g11
            have g11' := row_store (j := t) g11 (b : Int)
            have c3 : (wr.setCell ⟨g, t, none⟩ (.int .i64 (b : Int))).cell? ⟨g, κ, none⟩ = some (.int .i64 (b : Int)) := row_cell g11' (by
              rw [List.getElem?_set]
              split
              · rw [if_pos (by simp [nums]; omega)]
              · simp [nums, hb2])
            have f3 := row_free (j := κ) g11'
            obtain ⟨e1, e2⟩ := swap_nums T t κ a b ha hb2
            have A2 := Lib.hid (atP_store HC.out (atP_store HC.out hA.out (j := t) (b : Int)) (j := κ) (a : Int))
            rw [e1] at A2
            have P2 := Lib.hid (e2.trans hP.out)
            have HL := Lib.hid hlen
            have tpos : 0 < (i : Int) := by omega
            clear hA g1 g2 g3 g4 g5 g6 g7 g8 g9 g10 g11 g12 g11' e1 e2 ha hb2 hlen hk0 hk1 HMM hP
            go_wp2_with fail
            go_roundw
            case rel => exact ⟨t + 1, _, by omega, by go_num, P2, A2⟩
            case measure => simp [intOf]; omega
          · rw [decide_eq_false hlt]
            obtain rfl : t = M := by omega
            have hlen : T.length = i := by rw [hP.out.length_eq, List.length_range]
            have HL := Lib.hid hlen
            have A2 := Lib.hid (show AtP IsW w pv pw g (nums T) (Q3 z0 (List.range i) i) (Q3 z0 T 0) wr by
              obtain ⟨Sv, Sw, Lv, Lw, g1, g2, g3, g4, g5, g6, g7, g8, g9, g10, g11, g12⟩ := hA.out
              subst g7
              exact ⟨Sv, Sw, Lv, [], g1, g2, g3, g4, g5, g6, q3_zero _ _, g8, g9, g10, g11, g12⟩)
            clear hA hlen HMM
            go_wp2_with fail
            obtain ⟨wo, rfl⟩ : ∃ wo : World, wo = wr := ⟨_, rfl⟩
            go_loopw [13] (fun s wx => ∃ q : Nat, q ≤ i ∧ s = .int .i64 q ∧ Hid (AtP IsW w pv pw g (nums T) (Q3 z0 (List.range i) i) (Q3 z0 T q) wx)) (fun s _ => i - (intOf s).toNat)
            case atStart => exact ⟨0, Nat.zero_le _, rfl, A2⟩
            case round =>
              obtain ⟨q, hq, rfl, hA⟩ := hrel
              clear A2
              by_cases hlt2 : q < i
              · obtain ⟨b0, o0, rfl⟩ := H0.out.at_ (by omega)
                obtain ⟨Sv, Sw, Lv, Lw, g1, g2, g3, g4, g5, g6, g7, g8, g9, g10, g11, g12⟩ := hA.out
                obtain ⟨a, ha⟩ : ∃ a, T[q]? = some a := ⟨_, List.getElem?_eq_getElem (by have := HL.out; omega)⟩
                have hai : a < i := by simpa using hP.out.mem_iff.1 (List.mem_of_getElem? ha)
                have hal : a < len0 := by omega
                have hal' : (a : Int) < (len0 : Int) := by omega
                have hcell := H0.out.cell g5 hal
                have hb := H0.out.u8 (i := a)
                have c1 : wr.cell? ⟨g, q, none⟩ = some (.int .i64 (a : Int)) := row_cell g11 (by simp [nums, ha])
                have hnx := q3_succ g7 (hP.out.nodup_iff.2 List.nodup_range) ha
                have ud := up_drewN wr 1
                have HI := Lib.hid (HC.out.up g2 ud)
                have HLw := Lib.hid g7.1
                have HN := Lib.hid hnx
                have HE := Lib.hid (fun (w' : World) (Sw' : Nat → Prop) (Lw' : List Tm.T) (hI : IsW Sw' w' pw Lw') (hs : Sub Sw' Sw (wr.drewN 1)) (ho : Out Sw (wr.drewN 1) w') (hq : Q3 z0 T (q + 1) Lw') => atP_w (Qw' := Q3 z0 T (q + 1)) (Qv := Q3 z0 (List.range i) i) HC.out (HC.out.up g1 ud) g3 g4 (g5.trans (ud.mono g5.size)) g6 g8 g9 g10 ((ud.block g (lt_of_blk g11)).trans g11) g12 hI hs ho hq)
                clear hA g1 g2 g3 g4 g5 g6 g7 g8 g9 g10 g11 g12 hnx ha ud
                generalize hz : z0.getD a 0 = x at hcell hb
                have HZ := Lib.hid hz
                clear hz
                go_upto_region 23 with (fail)
                go_still_tail 13, (by kernel_rfl)
                change wpList _ _ _ _ _ (wr.drewN 1)
                generalize wr.drewN 1 = wd at HI HE ⊢
                go_wp2_with fail
                refine (HC.out.set Sw pw Lw a x wd HI.out (by unfold I64; omega) (by omega) (by omega) (.inr (by have := HLw.out; omega))).mono ?_
                rintro e w4 ⟨S2, rfl, h3, hs3, ho3⟩
                have A1 := Lib.hid (HE.out w4 S2 _ h3 hs3 ho3 (by have := HN.out; rw [HZ.out] at this; exact this))
                clear h3 hs3 ho3 HI HLw HN HE
                go_wp2_with fail
                go_roundw
                case rel => exact ⟨q + 1, by omega, by go_num, A1⟩
                case measure => simp [intOf]; omega
              · obtain rfl : q = i := by omega
                obtain ⟨Sv, Sw, Lv, Lw, g1, g2, g3, g4, g5, g6, g7, g8, g9, g10, g11, g12⟩ := hA.out
                obtain rfl : Lw = Lv := same_end hP.out g6 g7 (HC.out.srt g1).1 (HC.out.srt g2).1
                have hle : Lw.length ≤ 100 := by have := g6.1; omega
                have I1 := Lib.hid g1
                have I2 := Lib.hid g2
                have F1 := Lib.hid g3
                have F2 := Lib.hid g4
                have B := Lib.hid g5
                have D := Lib.hid g8
                have HLe := Lib.hid hle
                clear hA g1 g2 g3 g4 g5 g6 g7 g8 g9 g10 g11 g12 hle
                go_wp2_with fail
                refine (HC.out.list Sv pv Lw _ I1.out).mono ?_
                rintro e w4 ⟨S2, A3, n3, c3, rfl, hn3, row3, h3, hs3, ho3, hd3⟩
                have I1' := Lib.hid h3
                have I2' := Lib.hid (HC.out.out I2.out ho3 (fun k hk e => D.out k e hk))
                have F1' := Lib.hid (F1.out.sub hs3 B.out.size)
                have B' := Lib.hid (Below.out B.out ho3 F1.out B.out.size)
                have D' := Lib.hid (show ∀ k, S2 k → ¬ Sw k from fun k hk hk2 => by
                  rcases hs3 k hk with h | h
                  · exact D.out k h hk2
                  · have := HC.out.lt I2.out k hk2; omega)
                have R3 := Lib.hid row3
                have X3 := Lib.hid (show ∀ g, (Value.slice A3 n3 c3).ownBlock = some g → ¬ Sw g from fun g hg hk => by have := HC.out.lt I2.out g hk; have := (row3.lt g hg).1; omega)
                have HN3 := Lib.hid hn3
                clear h3 hs3 ho3 hd3 row3 hn3 I1 I2 B D
                go_wp2_with fail
                refine (HC.out.list Sw pw Lw _ I2'.out).mono ?_
                rintro e w5 ⟨S3, A4, n4, c4, rfl, hn4, row4, h4, hs4, ho4, hd4⟩
                have J2 := Lib.hid h4
                have J1 := Lib.hid (HC.out.out I1'.out ho4 D'.out)
                have F2' := Lib.hid (F2.out.sub hs4 B'.out.size)
                have BB := Lib.hid (Below.out B'.out ho4 F2.out B'.out.size)
                have DD := Lib.hid (show ∀ k, S2 k → ¬ S3 k from fun k hk hk2 => by
                  rcases hs4 k hk2 with h | h
                  · exact D'.out k hk h
                  · have := HC.out.lt I1'.out k hk; omega)
                have R3' := Lib.hid (ho4.own R3.out X3.out)
                have R4 := Lib.hid row4
                obtain rfl : n4 = n3 := hn4.trans HN3.out.symm
                clear h4 hs4 ho4 hd4 row4 hn4 I1' I2' B' D' R3 X3
                have S1 := Lib.hid (same_true A3 A4 n4 c3 c4 Lw w5 (isT_of R3'.out HN3.out) (isT_of R4.out HN3.out) (by have := HN3.out; have := HLe.out; omega))
                clear R3' R4
                go_wp2_with fail
                refine S1.out.mono ?_
                rintro e w6 ⟨rfl, u6⟩
                have K1 := Lib.hid (HC.out.up J1.out u6)
                have K2 := Lib.hid (HC.out.up J2.out u6)
                have BC := Lib.hid (BB.out.trans (u6.mono BB.out.size))
                clear J1 J2 S1 u6 BB
                go_wp2_with fail
                refine (HC.out.due S2 pv Lw 300 _ K1.out (by unfold I64; omega)).mono ?_
                rintro e w7 ⟨T2, A5, n5, c5, rfl, hn5, row5, h5, hs5, ho5, hd5⟩
                have M2 := Lib.hid (HC.out.out K2.out ho5 (fun k hk e => DD.out k e hk))
                have FF := Lib.hid (F1'.out.sub hs5 BC.out.size)
                have BD := Lib.hid (Below.out BC.out ho5 F1'.out BC.out.size)
                have R5 := Lib.hid row5
                have X5 := Lib.hid (show ∀ g, (Value.slice A5 n5 c5).ownBlock = some g → ¬ S3 g from fun g hg hk => by have := HC.out.lt K2.out g hk; have := (row5.lt g hg).1; omega)
                have HN5 := Lib.hid hn5
                clear h5 hs5 ho5 hd5 row5 hn5 K1 K2 BC DD
                go_wp2_with fail
                refine (HC.out.due S3 pw Lw 300 _ M2.out (by unfold I64; omega)).mono ?_
                rintro e w8 ⟨T3, A6, n6, c6, rfl, hn6, row6, h6, hs6, ho6, hd6⟩
                have BE := Lib.hid (Below.out BD.out ho6 F2'.out BD.out.size)
                have R5' := Lib.hid (ho6.own R5.out X5.out)
                have R6 := Lib.hid row6
                obtain rfl : n6 = n5 := hn6.trans HN5.out.symm
                clear h6 hs6 ho6 hd6 row6 hn6 M2 BD R5 X5
                have S1 := Lib.hid (same_true A5 A6 n6 c5 c6 (Tm.due 300 Lw) w8 (isT_of R5'.out HN5.out) (isT_of R6.out HN5.out) (by have := HN5.out; have := HLe.out; have : (Tm.due 300 Lw).length ≤ Lw.length := List.length_filter_le _ _; omega))
                clear R5' R6
                go_wp2_with fail
                refine S1.out.mono ?_
                rintro e w9 ⟨rfl, u9⟩
                go_wp2_with fail
                go_ret
                exact ⟨rfl, BE.out.trans (u9.mono BE.out.size)⟩
end
end Go.Proofs.Ytpdhgjhcjnpkeaa
