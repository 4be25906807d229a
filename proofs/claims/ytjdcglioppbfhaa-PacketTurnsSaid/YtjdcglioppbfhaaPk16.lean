import Derived.Test.YtjdcglioppbfhaaPk13
import Derived.Test.YtjdcglioppbfhaaPk15
namespace Go.Proofs.Ytjdcglioppbfhaa
open Go Go.RowKit
set_option linter.unusedVariables false
set_option linter.unusedSimpArgs false
/-! The law PacketTurns. -/
theorem info3 : (Try.prog.info? 3).map (fun i => (i.zero, i.size, i.bytes)) = some (some (.int .i64 0), 1, 8) := by kernel_rfl
theorem ownI_at {k : IntKind} {E : TypeId} {base : Nat} {w : World} {g m : Nat} {ns : List Int} (hm : ns.length = m) (h63 : m ≤ maxLen) (hb : base ≤ g) (h : w.heap[g]? = some (.cells (ints k ns).toArray E (0, 0))) : OwnI k E base w (some ⟨g, 0, none⟩) m m ns := by
  subst hm
  exact ⟨by simp [ints], .inr ⟨_, _, _, rfl, hb, h, Nat.le_refl _, h63, by simp [ints], by simp only [Nat.mul_one]; exact List.take_of_length_le (by simp [ints])⟩⟩
/-- A place at which four bytes may be turned. -/
def Good (L : Nat) (x : Int) : Prop := ∃ p : Nat, x = (p : Int) ∧ (p ≤ 4 ∨ p = 8 ∨ 12 ≤ p) ∧ p + 4 ≤ L
set_option maxRecDepth 1000000 in
set_option maxHeartbeats 8000000 in
theorem turns_main (A : Option Addr) (n cap : Nat) (l : List ChB) (f t g : Int) (a S : Nat) (w : World) (h : InL w A n cap l) (hn : n ≤ 140737488351232) (hp : Pk.PktOk (ChB.pkt l f t g)) (ha : a < 65536) (hS : S < 4294967296) :
    Calls Try.prog 5 #[pkV f t g (.slice A n cap), .int .u16 (a : Int), .int .u32 (S : Int)] w (RetB true w) := by
  have H := Lib.hid h
  have HP := Lib.hid hp
  clear h hp
  have HN := Lib.hid (new_at w (.cells #[.int .u16 f, .int .u16 t, .int .u32 g, .slice A n cap] 27))
  have HU := Lib.hid (up_alloc w (.cells #[.int .u16 f, .int .u16 t, .int .u32 g, .slice A n cap] 27))
  unfold pkV pkC
  go_enter Try.func5, Try.ntmps5
  go_upto_region 1 with (fail)
  generalize w.alloc (.cells #[.int .u16 f, .int .u16 t, .int .u32 g, .slice A n cap] 27) = wa at HN HU ⊢
  generalize w.heap.size = z at HN ⊢
  have x0 : wa.cell? ⟨z, 0, none⟩ = some (.int .u16 f) := cell_of HN.out rfl
  have x1 : wa.cell? ⟨z, 1, none⟩ = some (.int .u16 t) := cell_of HN.out rfl
  have x2 : wa.cell? ⟨z, 2, none⟩ = some (.int .u32 g) := cell_of HN.out rfl
  have x3 : wa.cell? ⟨z, 3, none⟩ = some (.slice A n cap) := cell_of HN.out rfl
  go_wp2_with fail
  refine (ownp_any A n cap l f t g wa (H.out.up HU.out) hn).mono ?_
  rintro e w1 ⟨A1, n1, c1, out, rfl, hL, hE, hn1, hu1⟩
  have HU1 := Lib.hid (HU.out.trans hu1.out)
  have hn1' : n1 ≤ 140737488351232 := by have := hn1.out; omega
  have HSZ1 := Lib.hid HU1.out.size
  clear hu1 x0 x1 x2 x3 HU HN
  go_wp2_with fail
  refine (pput_any A1 n1 c1 out f t g w1 hL.out.inL hn1' (pktOk_own HP.out)).mono ?_
  rintro e w2 ⟨ys, k, A2, N2, c2, rfl, hr, hN2, hO2, hu2⟩
  have HU2 := Lib.hid (HU1.out.trans hu2.out)
  have HBL := Lib.hid (inL_bytL hL.out.inL)
  clear hu2 HU1 hL hE
  go_wp2_with fail
  refine (answers_ok w2).mono ?_
  rintro e w3 ⟨rfl, hu3⟩
  have HU3 := Lib.hid (HU2.out.trans hu3.out)
  have HO3 := Lib.hid (show OwnI .u8 5 w1.heap.size w3 A2 N2 c2 ys from own_up hO2.out hu3.out)
  clear hu3 HU2 hO2
  rcases hr.out with ⟨rfl, rfl, hf⟩ | ⟨hk, rfl, -, -⟩
  · by_cases hS0 : S = 0
    · subst hS0
      go_wp2_with fail
      refine (answers_ok w3).mono ?_
      rintro e w4 ⟨rfl, hu4⟩
      go_wp2_with fail
      go_ret
      exact ⟨rfl, Lib.hid (HU3.out.trans hu4.out)⟩
    · have hd : ((S : Int) == 0) = false := by rw [beq_eq_false_iff_ne]; omega
      have HS0 := Lib.hid hS0
      clear hS0
      generalize hpp : ChB.pkt out f t g = p at hf HO3 hN2
      have HBY := Lib.hid (show Byt (Pk.enc p) from by
        rw [← hpp]
        unfold Pk.enc
        exact byt_sealP (by rw [raw_cut]; exact (((be_byt _ _).append (be_byt _ _)).append (be_byt _ _)).append ((be_byt _ _).append (byt_encL HBL.out))))
      have hlen : N2 = 12 + (encL p.chs).length := by rw [hN2.out, enc_length]
      have h40 : N2 ≤ 4096 := by have := hf.2.2; omega
      have h12 : 12 ≤ N2 := by omega
      have HXL := Lib.hid (show (Pk.enc p).length = N2 from hN2.out.symm)
      have HSE := Lib.hid (enc_sealed p)
      generalize Pk.enc p = xs at HO3 HBY HXL HSE
      clear hr hf hpp hN2 hlen HBL hn1 hn1'
      go_upto_region 6 with (fail)
      have HR0 := Lib.hid (ownI_at (k := .i64) (base := w3.heap.size) (m := 6) (ns := [0, 1, 2, 3, 4, 8]) rfl (by unfold maxLen; omega) (Nat.le_refl _) (new_at w3 (.cells #[.int .i64 0, .int .i64 1, .int .i64 2, .int .i64 3, .int .i64 4, .int .i64 8] 3)))
      have HUa := Lib.hid (up_alloc w3 (.cells #[.int .i64 0, .int .i64 1, .int .i64 2, .int .i64 3, .int .i64 4, .int .i64 8] 3))
      generalize w3.alloc (.cells #[.int .i64 0, .int .i64 1, .int .i64 2, .int .i64 3, .int .i64 4, .int .i64 8] 3) = wp at HR0 HUa ⊢
      generalize hq3 : w3.heap.size = q3 at HR0 ⊢
      have HQ3 := Lib.hid hq3
      clear hq3
      go_loopw [9, 10] (fun v i wr => ∃ (j N9 c9 : Nat) (A9 : Option Addr) (ps : List Int), i = .int .i64 ((12 + j : Nat) : Int) ∧ N9 = 6 + j ∧ 12 + j ≤ 4096 ∧ v = .slice A9 N9 c9 ∧ Hid (OwnI .i64 3 q3 wr A9 N9 c9 ps) ∧ Hid (∀ x ∈ ps, Good N2 x) ∧ Hid (Below q3 w3 wr)) (fun _ i _ => 4200 - (intOf i).toNat)
      case atStart => exact ⟨0, 6, 6, some ⟨q3, 0, none⟩, [0, 1, 2, 3, 4, 8], rfl, rfl, by omega, rfl, HR0, Lib.hid (by
        intro x hx
        simp only [List.mem_cons, List.mem_nil_iff, or_false] at hx
        rcases hx with rfl | rfl | rfl | rfl | rfl | rfl
        · exact ⟨0, rfl, by omega, by omega⟩
        · exact ⟨1, rfl, by omega, by omega⟩
        · exact ⟨2, rfl, by omega, by omega⟩
        · exact ⟨3, rfl, by omega, by omega⟩
        · exact ⟨4, rfl, by omega, by omega⟩
        · exact ⟨8, rfl, by omega, by omega⟩), Lib.hid (by rw [← HQ3.out]; exact HUa.out)⟩
      case round =>
        obtain ⟨j, N9, c9, A9, ps, rfl, rfl, hj, rfl, hR, hG, hB⟩ := hrel
        by_cases hlt : 12 + j + 4 ≤ N2
        · have d1 : decide (((12 + j : Nat) : Int) + 4 ≤ (N2 : Int)) = true := by simp; omega
          have hqs : q3 ≤ wr.heap.size := by rw [← HQ3.out]; exact hB.out.size
          go_wp2_with (at_builtin; refine wpList_appendI rfl (.tmp 40) (.tmp 42) 38 rfl .i64 q3 3 8 Try.underlying38 info3 A9 (6 + j) c9 ps rfl (hR.out.alloc _) (some ⟨wr.heap.size, 0, none⟩) 1 1 [((12 + j : Nat) : Int)] rfl rfl (cells_new _ _ _ _ rfl) (by omega) (by omega) (by simp; omega) (hB.out.alloc hqs _) ?_; intro A5 N5 c5 w5 HN5 HW5 HB5 hsz5)
          go_roundw
          case rel => exact ⟨j + 1, N5, c5, A5, ps ++ [((12 + j : Nat) : Int)], by go_num, by have := HN5.out; omega, by omega, rfl, HW5, Lib.hid (by
            intro x hx
            rcases List.mem_append.1 hx with h1 | h1
            · exact hG.out x h1
            · rw [List.mem_singleton.1 h1]; exact ⟨12 + j, rfl, by omega, by omega⟩), HB5⟩
          case measure => simp [intOf]; omega
        · have d1 : decide (((12 + j : Nat) : Int) + 4 ≤ (N2 : Int)) = false := by simp; omega
          obtain ⟨M, hM⟩ : ∃ M, M = 6 + j := ⟨_, rfl⟩
          rw [← hM] at hR ⊢
          have hM6 : 6 ≤ M := by omega
          have hM9 : M ≤ 5000 := by omega
          clear hM
          obtain ⟨g9, rfl, hg9, hgw9⟩ := hR.out.at_ (by omega)
          have hmod : a % M < M := Nat.mod_lt _ (by omega)
          obtain ⟨x, hx⟩ : ∃ x, ps[a % M]? = some x := ⟨_, List.getElem?_eq_getElem (by rw [hR.out.len]; exact hmod)⟩
          obtain ⟨i, rfl, hi1, hi2⟩ := hG.out x (List.mem_of_getElem? hx)
          have hcell := hR.out.cellAt hx
          have HUr := Lib.hid (show Up w wr from HU3.out.trans (by have := hB.out; rwa [← HQ3.out] at this))
          have HOr := Lib.hid (show OwnI .u8 5 w1.heap.size wr A2 N2 c2 xs from own_up HO3.out (by have := hB.out; rwa [← HQ3.out] at this))
          obtain ⟨gb, rfl, hgb, hgbw⟩ := HOr.out.at_ (by omega)
          have HGB := Lib.hid (show w.heap.size ≤ gb from Nat.le_trans HSZ1.out hgb)
          have hcb := HOr.out.cap
          go_upto_region 11 with (fail)
          clear hcell hx hR hG hB HO3 HU3 hmod HR0 HUa HQ3 hlt d1 hgb hgbw hg9 hgw9
          obtain ⟨x0, h0⟩ : ∃ x, xs[i]? = some x := ⟨_, List.getElem?_eq_getElem (by rw [HXL.out]; omega)⟩
          obtain ⟨x1, h1⟩ : ∃ x, xs[i + 1]? = some x := ⟨_, List.getElem?_eq_getElem (by rw [HXL.out]; omega)⟩
          obtain ⟨x2, h2⟩ : ∃ x, xs[i + 2]? = some x := ⟨_, List.getElem?_eq_getElem (by rw [HXL.out]; omega)⟩
          obtain ⟨x3, h3⟩ : ∃ x, xs[i + 3]? = some x := ⟨_, List.getElem?_eq_getElem (by rw [HXL.out]; omega)⟩
          have H0 := Lib.hid h0
          have H1 := Lib.hid h1
          have H2 := Lib.hid h2
          have H3 := Lib.hid h3
          have b0 := HBY.out x0 (List.mem_of_getElem? h0)
          have b1 := HBY.out x1 (List.mem_of_getElem? h1)
          have b2 := HBY.out x2 (List.mem_of_getElem? h2)
          have b3 := HBY.out x3 (List.mem_of_getElem? h3)
          have v0 := xorI_val (q := (S : Int) % 256) b0 (by omega)
          have v1 := xorI_val (q := (S : Int) / 256 % 256) b1 (by omega)
          have v2 := xorI_val (q := (S : Int) / 65536 % 256) b2 (by omega)
          have v3 := xorI_val (q := (S : Int) / 16777216 % 256) b3 (by omega)
          have HT4 := Lib.hid (show turn4 [x0, x1, x2, x3] S = [xorI x0 ((S : Int) % 256), xorI x1 ((S : Int) / 256 % 256), xorI x2 ((S : Int) / 65536 % 256), xorI x3 ((S : Int) / 16777216 % 256)] by unfold turn4; rw [le4_int]; rfl)
          generalize xorI x0 ((S : Int) % 256) = r0 at v0 HT4
          generalize xorI x1 ((S : Int) / 256 % 256) = r1 at v1 HT4
          generalize xorI x2 ((S : Int) / 65536 % 256) = r2 at v2 HT4
          generalize xorI x3 ((S : Int) / 16777216 % 256) = r3 at v3 HT4
          rw [show (S : Int) / 16777216 % 256 = (S : Int) / 16777216 by omega] at v3
          have HXC := Lib.hid (show xs = xs.take i ++ ([x0, x1, x2, x3] ++ xs.drop (i + 4)) from by
            have e : (xs.drop i).take 4 = [x0, x1, x2, x3] := by
              obtain ⟨p, q, r, s, rest, hl⟩ := drop4 (l := xs.drop i) (by simp [HXL.out]; omega)
              have gg (j : Nat) : xs[i + j]? = (xs.drop i)[j]? := by simp
              have g0 := gg 0; have g1 := gg 1; have g2 := gg 2; have g3 := gg 3
              rw [hl] at g0 g1 g2 g3
              simp only [List.getElem?_cons_zero, List.getElem?_cons_succ, Nat.add_zero] at g0 g1 g2 g3
              have i0 := h0.symm.trans g0
              have i1 := h1.symm.trans g1
              have i2 := h2.symm.trans g2
              have i3 := h3.symm.trans g3
              injection i0 with i0; injection i1 with i1; injection i2 with i2; injection i3 with i3
              subst i0 i1 i2 i3
              rw [hl]; rfl
            rw [← e, ← List.drop_drop, List.take_append_drop, List.take_append_drop])
          clear b0 b1 b2 b3 h0 h1 h2 h3
          obtain ⟨wo, rfl⟩ : ∃ wo : World, wo = wr := ⟨_, rfl⟩
          go_loopw [12] (fun i' wr => ∃ k : Nat, k ≤ 4 ∧ i' = .int .i64 (k : Int) ∧ Hid (OwnI .u8 5 w1.heap.size wr (some ⟨gb, 0, none⟩) N2 c2 (setL xs i ([r0, r1, r2, r3].take k))) ∧ Hid (Up w wr)) (fun i' _ => 4 - (intOf i').toNat)
          case atStart => exact ⟨0, by omega, rfl, HOr, HUr⟩
          case round =>
            obtain ⟨k, hk, rfl, hO, hU⟩ := hrel
            obtain rfl | rfl | rfl | rfl | rfl : k = 0 ∨ k = 1 ∨ k = 2 ∨ k = 3 ∨ k = 4 := by omega
            · have hcell : wr.cell? ⟨gb, i, none⟩ = some (.int .u8 x0) := hO.out.cellAt (j := i) (by have := H0.out; simp [setL, this])
              have hfr : wr.frozen? ⟨gb, i, none⟩ = false := hO.out.frozenAt (i)
              go_wp2_with fail
              go_roundw
              case rel => exact ⟨1, by omega, rfl, Lib.hid (hO.out.stored (i) r0), Lib.hid (Below.out hU.out (setCell_out wr gb (i) (.int .u8 r0)) (fun z hz => by rw [hz]; exact HGB.out) hU.out.size)⟩
              case measure => simp [intOf]
            · have hcell : wr.cell? ⟨gb, i + 1, none⟩ = some (.int .u8 x1) := hO.out.cellAt (j := i + 1) (by have := H1.out; simp [setL, this])
              have hfr : wr.frozen? ⟨gb, i + 1, none⟩ = false := hO.out.frozenAt (i + 1)
              go_wp2_with fail
              go_roundw
              case rel => exact ⟨2, by omega, rfl, Lib.hid (hO.out.stored (i + 1) r1), Lib.hid (Below.out hU.out (setCell_out wr gb (i + 1) (.int .u8 r1)) (fun z hz => by rw [hz]; exact HGB.out) hU.out.size)⟩
              case measure => simp [intOf]
            · have hcell : wr.cell? ⟨gb, i + 2, none⟩ = some (.int .u8 x2) := hO.out.cellAt (j := i + 2) (by have := H2.out; simp [setL, this])
              have hfr : wr.frozen? ⟨gb, i + 2, none⟩ = false := hO.out.frozenAt (i + 2)
              go_wp2_with fail
              go_roundw
              case rel => exact ⟨3, by omega, rfl, Lib.hid (hO.out.stored (i + 2) r2), Lib.hid (Below.out hU.out (setCell_out wr gb (i + 2) (.int .u8 r2)) (fun z hz => by rw [hz]; exact HGB.out) hU.out.size)⟩
              case measure => simp [intOf]
            · have hcell : wr.cell? ⟨gb, i + 3, none⟩ = some (.int .u8 x3) := hO.out.cellAt (j := i + 3) (by have := H3.out; simp [setL, this])
              have hfr : wr.frozen? ⟨gb, i + 3, none⟩ = false := hO.out.frozenAt (i + 3)
              go_wp2_with fail
              go_roundw
              case rel => exact ⟨4, by omega, rfl, Lib.hid (hO.out.stored (i + 3) r3), Lib.hid (Below.out hU.out (setCell_out wr gb (i + 3) (.int .u8 r3)) (fun z hz => by rw [hz]; exact HGB.out) hU.out.size)⟩
              case measure => simp [intOf]
            · have HYS := Lib.hid (show setL xs i ([r0, r1, r2, r3].take 4) = xs.take i ++ (turn4 [x0, x1, x2, x3] S ++ xs.drop (i + 4)) from by
                rw [HT4.out]
                exact setL_cut xs [r0, r1, r2, r3] i (by rw [HXL.out]; simpa using hi2))
              have HBY2 := Lib.hid (show Byt (xs.take i ++ ([x0, x1, x2, x3] ++ xs.drop (i + 4))) by rw [← HXC.out]; exact HBY.out)
              have hta : (xs.take i).length = i := by simp [HXL.out]; omega
              have HTO := Lib.hid (turn_told (a := xs.take i) (p := [x0, x1, x2, x3]) (r := xs.drop (i + 4)) (S := S) rfl hS HS0.out HBY2.out (by rw [← HXC.out]; exact HSE.out) (by rw [← HXC.out, HXL.out]; exact h12) (by rw [hta]; exact hi1))
              have HL2 := Lib.hid (show (xs.take i ++ (turn4 [x0, x1, x2, x3] S ++ xs.drop (i + 4))).length = N2 by simp [turn4_length, HXL.out]; omega)
              have HB2 := Lib.hid (show Byt (xs.take i ++ (turn4 [x0, x1, x2, x3] S ++ xs.drop (i + 4))) from (byt_of_app HBY2.out).1.append ((byt_turn4 (byt_of_app (byt_of_app HBY2.out).2).1).append (byt_of_app (byt_of_app HBY2.out).2).2))
              have HO2 := Lib.hid (show OwnI .u8 5 w1.heap.size wr (some ⟨gb, 0, none⟩) N2 c2 (xs.take i ++ (turn4 [x0, x1, x2, x3] S ++ xs.drop (i + 4))) by rw [← HYS.out]; exact hO.out)
              generalize xs.take i ++ (turn4 [x0, x1, x2, x3] S ++ xs.drop (i + 4)) = ys at HTO HL2 HB2 HO2
              clear hta v0 v1 v2 v3
              go_wp2_with fail
              refine (pget_any (some ⟨gb, 0, none⟩) N2 c2 wr (own_inB HO2.out HB2.out) (by omega)).mono ?_
              rintro e w7 ⟨q, k7, A7, n7, c7, l7, rfl, hr7, hL7, hE7, hn7, hok7, hu7⟩
              obtain ⟨rfl, rfl⟩ := pg_turned (by rw [HL2.out]; exact h12) (by rw [HL2.out]; exact h40) HTO.out hr7.out
              have HU7 := Lib.hid (hU.out.trans hu7.out)
              have hn7' : n7 ≤ 140737488351232 := by have := hn7.out; omega
              have HEQ := Lib.hid (show samePB (ChB.pkt l7 0 0 0) (ChB.pkt [] 0 0 0) = true from samePB_eq (by unfold ChB.pkt; rw [hE7.out]; rfl))
              clear hu7 hr7 hok7
              show _
              unfold pkV pkC Pk.zero
              simp only
              go_upto_region 15 with (fail)
              have HB8 := Lib.hid (new_at w7 (.cells #[.int .u16 0, .int .u16 0, .int .u32 0, .slice A7 n7 c7] 27))
              have HUb := Lib.hid (up_alloc w7 (.cells #[.int .u16 0, .int .u16 0, .int .u32 0, .slice A7 n7 c7] 27))
              generalize w7.alloc (.cells #[.int .u16 0, .int .u16 0, .int .u32 0, .slice A7 n7 c7] 27) = w8 at HB8 HUb ⊢
              generalize w7.heap.size = zz at HB8 ⊢
              have HL8 := Lib.hid (hL7.out.up HUb.out)
              have HU8 := Lib.hid (HU7.out.trans HUb.out)
              clear hL7 HUb HU7
              have y0 : w8.cell? ⟨zz, 0, none⟩ = some (.int .u16 0) := cell_of HB8.out rfl
              have y1 : w8.cell? ⟨zz, 1, none⟩ = some (.int .u16 0) := cell_of HB8.out rfl
              have y2 : w8.cell? ⟨zz, 2, none⟩ = some (.int .u32 0) := cell_of HB8.out rfl
              have y3 : w8.cell? ⟨zz, 3, none⟩ = some (.slice A7 n7 c7) := cell_of HB8.out rfl
              go_wp2_with fail
              refine (samePk l7 [] A7 none n7 c7 0 0 0 0 0 0 0 0 w8 HL8.out.inL (inL_nil w8) hn7' (by omega)).mono ?_
              rintro e w9 ⟨rfl, hu9⟩
              rw [HEQ.out]
              have HU9 := Lib.hid (HU8.out.trans hu9.out)
              clear y0 y1 y2 y3
              go_wp2_with fail
              go_ret
              exact ⟨by simp, HU9⟩
  · have hd : (k == 0) = false := by rw [beq_eq_false_iff_ne]; omega
    have hd' : (k != 0) = true := by simp; omega
    clear hk hr
    go_wp2_with fail
    refine (answers_ok w3).mono ?_
    rintro e w4 ⟨rfl, hu4⟩
    go_wp2_with fail
    go_ret
    exact ⟨rfl, Lib.hid (HU3.out.trans hu4.out)⟩
end Go.Proofs.Ytjdcglioppbfhaa
