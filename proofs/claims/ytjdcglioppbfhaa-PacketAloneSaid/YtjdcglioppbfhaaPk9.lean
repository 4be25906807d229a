import Derived.Test.YtjdcglioppbfhaaPk8
namespace Go.Proofs.Ytjdcglioppbfhaa
open Go Go.RowKit
set_option linter.unusedVariables false
set_option linter.unusedSimpArgs false
/-! The reference's GetPacket. -/
theorem setL_snoc (ys : List Int) (y : Int) : ∀ (xs : List Int) (o : Nat), setL xs o (ys ++ [y]) = (setL xs o ys).set (o + ys.length) y := by
  induction ys with
  | nil => intro xs o; rfl
  | cons z ys ih => intro xs o; simp only [List.cons_append, setL, ih, List.length_cons]; congr 1; omega
theorem set_zero (xs : List Int) (j : Nat) : setL xs 8 (List.replicate (j + 1) 0) = (setL xs 8 (List.replicate j 0)).set (8 + j) 0 := by
  rw [List.replicate_succ', setL_snoc]; simp
/-- With their sum: what stands in its place. -/
theorem sealP_iff {xs : List Int} (h : 12 ≤ xs.length) {a b c d : Int} (h0 : xs[8]? = some a) (h1 : xs[9]? = some b) (h2 : xs[10]? = some c) (h3 : xs[11]? = some d) : xs = Pk.sealP xs ↔ [a, b, c, d] = le4 (Pk.sumOf xs) := by
  have e : xs = xs.take 8 ++ ([a, b, c, d] ++ xs.drop 12) := by
    have e1 : xs.drop 8 = [a, b, c, d] ++ xs.drop 12 := by
      obtain ⟨p, q, r, s, rest, hl⟩ := drop4 (l := xs.drop 8) (by simp; omega)
      have g (i : Nat) : xs[8 + i]? = (xs.drop 8)[i]? := by simp
      have g0 := g 0; have g1 := g 1; have g2 := g 2; have g3 := g 3
      rw [hl] at g0 g1 g2 g3
      simp only [List.getElem?_cons_zero, List.getElem?_cons_succ, Nat.add_zero] at g0 g1 g2 g3
      have i0 := h0.symm.trans g0
      have i1 := h1.symm.trans g1
      have i2 := h2.symm.trans g2
      have i3 := h3.symm.trans g3
      injection i0 with i0; injection i1 with i1; injection i2 with i2; injection i3 with i3
      subst i0 i1 i2 i3
      have hd : xs.drop 12 = rest := by
        have : (xs.drop 8).drop 4 = rest := by rw [hl]; rfl
        rwa [List.drop_drop] at this
      rw [hl, hd]; rfl
    rw [← e1, List.take_append_drop]
  constructor
  · intro hs
    have h4 : xs.take 8 ++ ([a, b, c, d] ++ xs.drop 12) = xs.take 8 ++ (le4 (Pk.sumOf xs) ++ xs.drop 12) := by rw [← e]; exact hs
    have h5 := List.append_cancel_left h4
    exact List.append_cancel_right h5
  · intro hs
    have : Pk.sealP xs = xs.take 8 ++ ([a, b, c, d] ++ xs.drop 12) := by unfold Pk.sealP; rw [hs]
    rw [this]; exact e
theorem le4_int (S : Nat) : le4 S = [(S : Int) % 256, (S : Int) / 256 % 256, (S : Int) / 65536 % 256, (S : Int) / 16777216 % 256] := by unfold le4; simp
section
variable {xs : List Int}
set_option maxRecDepth 100000 in
theorem rgetp_large (A : Option Addr) (m c : Nat) (w : World) (hm : xs.length = m) (hn : 4096 < m) (hn2 : m ≤ 140737488351232) : Calls Try.prog 8 #[.slice A m c] w (PGPost xs w) := by
  have HM := Lib.hid hm
  clear hm
  have d1 : decide ((4096 : Int) < (m : Int)) = true := by simp; omega
  have HQ := Lib.hid (new_at w (.cells #[.int .u16 0, .int .u16 0, .int .u32 0, .slice none 0 0] 27))
  have HU := Lib.hid (up_alloc w (.cells #[.int .u16 0, .int .u16 0, .int .u32 0, .slice none 0 0] 27))
  go_enter Try.func8, Try.ntmps8
  go_upto_region 1 with (fail)
  generalize w.alloc (.cells #[.int .u16 0, .int .u16 0, .int .u32 0, .slice none 0 0] 27) = wa at HQ HU ⊢
  have e0 : wa.cell? ⟨w.heap.size, 0, none⟩ = some (.int .u16 0) := cell_of HQ.out rfl
  have e1 : wa.cell? ⟨w.heap.size, 1, none⟩ = some (.int .u16 0) := cell_of HQ.out rfl
  have e2 : wa.cell? ⟨w.heap.size, 2, none⟩ = some (.int .u32 0) := cell_of HQ.out rfl
  have e3 : wa.cell? ⟨w.heap.size, 3, none⟩ = some (.slice none 0 0) := cell_of HQ.out rfl
  have f0 := frozen_at (j := 0) HQ.out
  have f1 := frozen_at (j := 1) HQ.out
  have f2 := frozen_at (j := 2) HQ.out
  have f3 := frozen_at (j := 3) HQ.out
  go_wp2_with fail
  have hs := set4 (a := .int .u16 0) (b := .int .u16 0) (c := .int .u32 0) (d := .slice none 0 0) HQ.out rfl
  refine bodyPost_ret (results_row_tmp (fn := Try.f8) (p := 2) (u := 3) (ty := 27) rfl _ _ w.heap.size 27 _ (0, 0) _ rfl hs.1 Try.underlying27 rfl rfl) rfl ?_
  exact PGPost.no rfl (.inl ⟨by rw [HM.out]; exact hn, rfl, rfl⟩) (Below.out HU.out hs.2 (fun k hk => by rw [hk]; exact Nat.le_refl _) HU.out.size)
set_option maxRecDepth 100000 in
theorem rgetp_short (A : Option Addr) (m c : Nat) (w : World) (hm : xs.length = m) (hn : m < 12) : Calls Try.prog 8 #[.slice A m c] w (PGPost xs w) := by
  have HM := Lib.hid hm
  clear hm
  have d1 : decide ((4096 : Int) < (m : Int)) = false := by simp; omega
  have d2 : decide ((m : Int) < (12 : Int)) = true := by simp; omega
  have HQ := Lib.hid (new_at w (.cells #[.int .u16 0, .int .u16 0, .int .u32 0, .slice none 0 0] 27))
  have HU := Lib.hid (up_alloc w (.cells #[.int .u16 0, .int .u16 0, .int .u32 0, .slice none 0 0] 27))
  go_enter Try.func8, Try.ntmps8
  go_upto_region 1 with (fail)
  generalize w.alloc (.cells #[.int .u16 0, .int .u16 0, .int .u32 0, .slice none 0 0] 27) = wa at HQ HU ⊢
  have e0 : wa.cell? ⟨w.heap.size, 0, none⟩ = some (.int .u16 0) := cell_of HQ.out rfl
  have e1 : wa.cell? ⟨w.heap.size, 1, none⟩ = some (.int .u16 0) := cell_of HQ.out rfl
  have e2 : wa.cell? ⟨w.heap.size, 2, none⟩ = some (.int .u32 0) := cell_of HQ.out rfl
  have e3 : wa.cell? ⟨w.heap.size, 3, none⟩ = some (.slice none 0 0) := cell_of HQ.out rfl
  have f0 := frozen_at (j := 0) HQ.out
  have f1 := frozen_at (j := 1) HQ.out
  have f2 := frozen_at (j := 2) HQ.out
  have f3 := frozen_at (j := 3) HQ.out
  go_wp2_with fail
  have hs := set4 (a := .int .u16 0) (b := .int .u16 0) (c := .int .u32 0) (d := .slice none 0 0) HQ.out rfl
  refine bodyPost_ret (results_row_tmp (fn := Try.f8) (p := 2) (u := 3) (ty := 27) rfl _ _ w.heap.size 27 _ (0, 0) _ rfl hs.1 Try.underlying27 rfl rfl) rfl ?_
  exact PGPost.no rfl (.inr (.inl ⟨by rw [HM.out]; exact hn, rfl, rfl⟩)) (Below.out HU.out hs.2 (fun k hk => by rw [hk]; exact Nat.le_refl _) HU.out.size)
set_option maxRecDepth 100000 in
set_option maxHeartbeats 4000000 in
theorem rgetp_main (ga go m c : Nat) (w : World) (hin : InB w (some ⟨ga, go, none⟩) m c xs) (h12 : 12 ≤ m) (hn : m ≤ 4096) : Calls Try.prog 8 #[.slice (some ⟨ga, go, none⟩) m c] w (PGPost xs w) := by
  have HI := Lib.hid hin
  have HM := Lib.hid hin.len
  have hcap := hin.cap
  have HBY := Lib.hid hin.byt
  clear hin
  have d1 : decide ((4096 : Int) < (m : Int)) = false := by simp; omega
  have d2 : decide ((m : Int) < (12 : Int)) = false := by simp; omega
  have HQ := Lib.hid (new_at w (.cells #[.int .u16 0, .int .u16 0, .int .u32 0, .slice none 0 0] 27))
  have HU := Lib.hid (up_alloc w (.cells #[.int .u16 0, .int .u16 0, .int .u32 0, .slice none 0 0] 27))
  go_enter Try.func8, Try.ntmps8
  go_upto_region 1 with (fail)
  generalize w.alloc (.cells #[.int .u16 0, .int .u16 0, .int .u32 0, .slice none 0 0] 27) = wa at HQ HU ⊢
  generalize hqq : w.heap.size = q at HQ ⊢
  have HQQ := Lib.hid hqq
  clear hqq
  have HIa := Lib.hid (HI.out.up HU.out)
  go_wp2_with (at_builtin; refine wpList_appendI rfl (.tmp 19) (.tmp 20) 22 rfl .u8 wa.heap.size 5 1 Try.underlying22 info5 (some ⟨wa.heap.size, 0, none⟩) 0 0 [] rfl (ownI_new _ _ _) (some ⟨ga, go, none⟩) m c xs rfl HIa.out.len (HIa.out.cells.alloc _) (by omega) (by omega) (by simp) ((Below.refl _ _).alloc (Nat.le_refl _) _) ?_; intro A6 N6 c6 w6 HN6 HW6 HB6 hsz6)
  have hN6 : N6 = m := by have := HN6.out; omega
  subst hN6
  have HO6 := Lib.hid (show OwnI .u8 5 wa.heap.size w6 A6 N6 c6 xs by have := HW6.out; rw [List.nil_append] at this; exact this)
  obtain ⟨g, rfl, hg, hgw⟩ := HO6.out.at_ (by omega)
  have HU6 := Lib.hid (HU.out.trans HB6.out)
  have HQ6 := Lib.hid ((HB6.out.block _ (lt_of_blk HQ.out)).trans HQ.out)
  have HLQ := Lib.hid (lt_of_blk HQ.out)
  have HX6 := Lib.hid HB6.out
  clear HW6 HB6 hsz6 HN6
  go_loopw [5] (fun i wr => ∃ j : Nat, j ≤ 4 ∧ i = .int .i64 ((8 + j : Nat) : Int) ∧ Hid (OwnI .u8 5 wa.heap.size wr (some ⟨g, 0, none⟩) N6 c6 (setL xs 8 (List.replicate j 0))) ∧ Hid (Up wa wr)) (fun i _ => 12 - (intOf i).toNat)
  case atStart => exact ⟨0, by omega, rfl, HO6, HX6⟩
  case round =>
    obtain ⟨j, hj, rfl, hO, hU⟩ := hrel
    by_cases hlt : j < 4
    · obtain ⟨x, hx⟩ : ∃ x, (setL xs 8 (List.replicate j 0))[8 + j]? = some x := ⟨_, List.getElem?_eq_getElem (by have := hO.out.len; omega)⟩
      have hcell := hO.out.cellAt hx
      have hfr := hO.out.frozenAt (8 + j)
      have hd : decide (((8 + j : Nat) : Int) < 12) = true := by simp; omega
      clear hx
      go_wp2_with fail
      go_roundw
      case rel => exact ⟨j + 1, by omega, by go_num, Lib.hid (by rw [set_zero]; exact hO.out.stored (8 + j) 0), Lib.hid (Below.out hU.out (setCell_out wr g (8 + j) (.int .u8 0)) (fun k hk => by rw [hk]; exact hg) hU.out.size)⟩
      case measure => simp [intOf]; omega
    · obtain rfl : j = 4 := by omega
      have HZ := Lib.hid (show OwnI .u8 5 wa.heap.size wr (some ⟨g, 0, none⟩) N6 c6 (Pk.zer xs) by have := hO.out; rwa [setL_zer (by rw [HM.out]; exact h12)] at this)
      clear hO hlt hj
      go_wp2_with fail
      refine (rsumB (own_inB HZ.out (byt_zer HBY.out)) (by omega)).mono ?_
      rintro e w2 ⟨rfl, rfl⟩
      have HSU := Lib.hid (show Pk.sumOf xs = Crc.more 0 (nats (Pk.zer xs)) from rfl)
      rw [← HSU.out]
      have hS := sumOf_lt HBY.out
      clear HSU HZ HO6 HX6 HQ6 HU6 HIa hgw hg
      have HIr := Lib.hid ((HI.out.up HU.out).up hU.out)
      have HQr := Lib.hid ((hU.out.block _ (lt_of_blk HQ.out)).trans HQ.out)
      have HUr := Lib.hid (HU.out.trans hU.out)
      clear HU hU HQ
      obtain ⟨x0, h0⟩ : ∃ x, xs[8]? = some x := ⟨_, List.getElem?_eq_getElem (by rw [HM.out]; omega)⟩
      obtain ⟨x1, h1⟩ : ∃ x, xs[9]? = some x := ⟨_, List.getElem?_eq_getElem (by rw [HM.out]; omega)⟩
      obtain ⟨x2, h2⟩ : ∃ x, xs[10]? = some x := ⟨_, List.getElem?_eq_getElem (by rw [HM.out]; omega)⟩
      obtain ⟨x3, h3⟩ : ∃ x, xs[11]? = some x := ⟨_, List.getElem?_eq_getElem (by rw [HM.out]; omega)⟩
      have HIF := Lib.hid (sealP_iff (by rw [HM.out]; exact h12) h0 h1 h2 h3)
      have k0 := cell_ib HIr.out h0
      have k1 := cell_ib HIr.out h1
      have k2 := cell_ib HIr.out h2
      have k3 := cell_ib HIr.out h3
      clear h0 h1 h2 h3
      generalize hSS : Pk.sumOf xs = S at hS HIF ⊢
      have HSS := Lib.hid hSS
      clear hSS
      have HL4 := Lib.hid (le4_int S)
      rw [HL4.out] at HIF
      go_upto_region 11 with (fail)
      go_wp2_with fail
      go_loop [7] (fun i => ∃ j : Nat, j ≤ 4 ∧ i = .int .i64 (j : Int) ∧ Hid ([x0, x1, x2, x3].take j = [(S : Int) % 256, (S : Int) / 256 % 256, (S : Int) / 65536 % 256, (S : Int) / 16777216 % 256].take j)) (fun i => 4 - (intOf i).toNat)
      case atStart => exact ⟨0, by omega, rfl, Lib.hid rfl⟩
      case round =>
        obtain ⟨j, hj, rfl, HE⟩ := hrel
        obtain rfl | rfl | rfl | rfl | rfl : j = 0 ∨ j = 1 ∨ j = 2 ∨ j = 3 ∨ j = 4 := by omega
        · by_cases hx : x0 = (S : Int) % 256
          · have hd : (x0 != (S : Int) % 256) = false := by simp [hx]
            have HE2 := Lib.hid (show [x0, x1, x2, x3].take 1 = [(S : Int) % 256, (S : Int) / 256 % 256, (S : Int) / 65536 % 256, (S : Int) / 16777216 % 256].take 1 by
              have := HE.out
              simp only [List.take_succ_cons, List.take_zero, List.cons.injEq, and_true] at this ⊢
              exact hx)
            clear hx
            go_wp2_with fail
            go_round
            case rel => exact ⟨1, by omega, rfl, HE2⟩
            case measure => simp [intOf]
          · have hd : (x0 != (S : Int) % 256) = true := by simp [hx]
            have HNE := Lib.hid (show xs ≠ Pk.sealP xs from fun h => by
              have := HIF.out.1 h
              simp only [List.cons.injEq, and_true] at this
              exact hx this.1)
            clear hx
            have e0 : wr.cell? ⟨q, 0, none⟩ = some (.int .u16 0) := cell_of HQr.out rfl
            have e1 : wr.cell? ⟨q, 1, none⟩ = some (.int .u16 0) := cell_of HQr.out rfl
            have e2 : wr.cell? ⟨q, 2, none⟩ = some (.int .u32 0) := cell_of HQr.out rfl
            have e3 : wr.cell? ⟨q, 3, none⟩ = some (.slice none 0 0) := cell_of HQr.out rfl
            have f0 := frozen_at (j := 0) HQr.out
            have f1 := frozen_at (j := 1) HQr.out
            have f2 := frozen_at (j := 2) HQr.out
            have f3 := frozen_at (j := 3) HQr.out
            go_wp2_with fail
            have hs := set4 (a := .int .u16 0) (b := .int .u16 0) (c := .int .u32 0) (d := .slice none 0 0) HQr.out rfl
            refine bodyPost_ret (results_row_tmp (fn := Try.f8) (p := 2) (u := 3) (ty := 27) rfl _ _ q 27 _ (0, 0) _ rfl hs.1 Try.underlying27 rfl rfl) rfl ?_
            exact PGPost.no rfl (.inr (.inr (.inl ⟨by rw [HM.out]; exact h12, by rw [HM.out]; exact hn, HNE.out, rfl, rfl⟩))) (Below.out HUr.out hs.2 (fun k hk => by rw [hk, ← HQQ.out]; exact Nat.le_refl _) HUr.out.size)
        · by_cases hx : x1 = (S : Int) / 256 % 256
          · have hd : (x1 != (S : Int) / 256 % 256) = false := by simp [hx]
            have HE2 := Lib.hid (show [x0, x1, x2, x3].take 2 = [(S : Int) % 256, (S : Int) / 256 % 256, (S : Int) / 65536 % 256, (S : Int) / 16777216 % 256].take 2 by
              have := HE.out
              simp only [List.take_succ_cons, List.take_zero, List.cons.injEq, and_true] at this ⊢
              exact ⟨this, hx⟩)
            clear hx
            go_wp2_with fail
            go_round
            case rel => exact ⟨2, by omega, rfl, HE2⟩
            case measure => simp [intOf]
          · have hd : (x1 != (S : Int) / 256 % 256) = true := by simp [hx]
            have HNE := Lib.hid (show xs ≠ Pk.sealP xs from fun h => by
              have := HIF.out.1 h
              simp only [List.cons.injEq, and_true] at this
              exact hx this.2.1)
            clear hx
            have e0 : wr.cell? ⟨q, 0, none⟩ = some (.int .u16 0) := cell_of HQr.out rfl
            have e1 : wr.cell? ⟨q, 1, none⟩ = some (.int .u16 0) := cell_of HQr.out rfl
            have e2 : wr.cell? ⟨q, 2, none⟩ = some (.int .u32 0) := cell_of HQr.out rfl
            have e3 : wr.cell? ⟨q, 3, none⟩ = some (.slice none 0 0) := cell_of HQr.out rfl
            have f0 := frozen_at (j := 0) HQr.out
            have f1 := frozen_at (j := 1) HQr.out
            have f2 := frozen_at (j := 2) HQr.out
            have f3 := frozen_at (j := 3) HQr.out
            go_wp2_with fail
            have hs := set4 (a := .int .u16 0) (b := .int .u16 0) (c := .int .u32 0) (d := .slice none 0 0) HQr.out rfl
            refine bodyPost_ret (results_row_tmp (fn := Try.f8) (p := 2) (u := 3) (ty := 27) rfl _ _ q 27 _ (0, 0) _ rfl hs.1 Try.underlying27 rfl rfl) rfl ?_
            exact PGPost.no rfl (.inr (.inr (.inl ⟨by rw [HM.out]; exact h12, by rw [HM.out]; exact hn, HNE.out, rfl, rfl⟩))) (Below.out HUr.out hs.2 (fun k hk => by rw [hk, ← HQQ.out]; exact Nat.le_refl _) HUr.out.size)
        · by_cases hx : x2 = (S : Int) / 65536 % 256
          · have hd : (x2 != (S : Int) / 65536 % 256) = false := by simp [hx]
            have HE2 := Lib.hid (show [x0, x1, x2, x3].take 3 = [(S : Int) % 256, (S : Int) / 256 % 256, (S : Int) / 65536 % 256, (S : Int) / 16777216 % 256].take 3 by
              have := HE.out
              simp only [List.take_succ_cons, List.take_zero, List.cons.injEq, and_true] at this ⊢
              simp [this, hx])
            clear hx
            go_wp2_with fail
            go_round
            case rel => exact ⟨3, by omega, rfl, HE2⟩
            case measure => simp [intOf]
          · have hd : (x2 != (S : Int) / 65536 % 256) = true := by simp [hx]
            have HNE := Lib.hid (show xs ≠ Pk.sealP xs from fun h => by
              have := HIF.out.1 h
              simp only [List.cons.injEq, and_true] at this
              exact hx this.2.2.1)
            clear hx
            have e0 : wr.cell? ⟨q, 0, none⟩ = some (.int .u16 0) := cell_of HQr.out rfl
            have e1 : wr.cell? ⟨q, 1, none⟩ = some (.int .u16 0) := cell_of HQr.out rfl
            have e2 : wr.cell? ⟨q, 2, none⟩ = some (.int .u32 0) := cell_of HQr.out rfl
            have e3 : wr.cell? ⟨q, 3, none⟩ = some (.slice none 0 0) := cell_of HQr.out rfl
            have f0 := frozen_at (j := 0) HQr.out
            have f1 := frozen_at (j := 1) HQr.out
            have f2 := frozen_at (j := 2) HQr.out
            have f3 := frozen_at (j := 3) HQr.out
            go_wp2_with fail
            have hs := set4 (a := .int .u16 0) (b := .int .u16 0) (c := .int .u32 0) (d := .slice none 0 0) HQr.out rfl
            refine bodyPost_ret (results_row_tmp (fn := Try.f8) (p := 2) (u := 3) (ty := 27) rfl _ _ q 27 _ (0, 0) _ rfl hs.1 Try.underlying27 rfl rfl) rfl ?_
            exact PGPost.no rfl (.inr (.inr (.inl ⟨by rw [HM.out]; exact h12, by rw [HM.out]; exact hn, HNE.out, rfl, rfl⟩))) (Below.out HUr.out hs.2 (fun k hk => by rw [hk, ← HQQ.out]; exact Nat.le_refl _) HUr.out.size)
        · by_cases hx : x3 = (S : Int) / 16777216 % 256
          · have hd : (x3 != (S : Int) / 16777216 % 256) = false := by simp [hx]
            have HE2 := Lib.hid (show [x0, x1, x2, x3].take 4 = [(S : Int) % 256, (S : Int) / 256 % 256, (S : Int) / 65536 % 256, (S : Int) / 16777216 % 256].take 4 by
              have := HE.out
              simp only [List.take_succ_cons, List.take_zero, List.cons.injEq, and_true] at this ⊢
              simp [this, hx])
            clear hx
            go_wp2_with fail
            go_round
            case rel => exact ⟨4, by omega, rfl, HE2⟩
            case measure => simp [intOf]
          · have hd : (x3 != (S : Int) / 16777216 % 256) = true := by simp [hx]
            have HNE := Lib.hid (show xs ≠ Pk.sealP xs from fun h => by
              have := HIF.out.1 h
              simp only [List.cons.injEq, and_true] at this
              exact hx this.2.2.2)
            clear hx
            have e0 : wr.cell? ⟨q, 0, none⟩ = some (.int .u16 0) := cell_of HQr.out rfl
            have e1 : wr.cell? ⟨q, 1, none⟩ = some (.int .u16 0) := cell_of HQr.out rfl
            have e2 : wr.cell? ⟨q, 2, none⟩ = some (.int .u32 0) := cell_of HQr.out rfl
            have e3 : wr.cell? ⟨q, 3, none⟩ = some (.slice none 0 0) := cell_of HQr.out rfl
            have f0 := frozen_at (j := 0) HQr.out
            have f1 := frozen_at (j := 1) HQr.out
            have f2 := frozen_at (j := 2) HQr.out
            have f3 := frozen_at (j := 3) HQr.out
            go_wp2_with fail
            have hs := set4 (a := .int .u16 0) (b := .int .u16 0) (c := .int .u32 0) (d := .slice none 0 0) HQr.out rfl
            refine bodyPost_ret (results_row_tmp (fn := Try.f8) (p := 2) (u := 3) (ty := 27) rfl _ _ q 27 _ (0, 0) _ rfl hs.1 Try.underlying27 rfl rfl) rfl ?_
            exact PGPost.no rfl (.inr (.inr (.inl ⟨by rw [HM.out]; exact h12, by rw [HM.out]; exact hn, HNE.out, rfl, rfl⟩))) (Below.out HUr.out hs.2 (fun k hk => by rw [hk, ← HQQ.out]; exact Nat.le_refl _) HUr.out.size)
        · have HEQ := Lib.hid (show xs = Pk.sealP xs from HIF.out.2 HE.out)
          clear HE k0 k1 k2 k3 hS
          by_cases hc : c = 12
          · obtain rfl : N6 = 12 := by omega
            subst hc
            go_wp2_with fail
            refine (rget_any (some ⟨ga, go, none⟩) (12 - 12) (12 - 12) (xs.drop 12) wr (inB_drop HIr.out h12 (.inr rfl)) (by omega)).mono ?_
            rintro e w2 ⟨l, k, A2, n2, c2, rfl, hr, hL, hb, hn2, hu2⟩
            have HU2 := Lib.hid (HUr.out.trans hu2.out)
            have HQ2 := Lib.hid ((hu2.out.block _ (lt_of_blk HQr.out)).trans HQr.out)
            have HI2 := Lib.hid (HIr.out.up hu2.out)
            have HLT1 := Lib.hid (lt_of_blk HQr.out)
            clear hb hu2
            by_cases hk : k = 0
            · subst hk
              have hn2' : n2 ≤ 140737488351232 := by have := hn2.out; omega
              go_wp2_with fail
              refine (rnumI (some ⟨ga, go, none⟩) 12 12 0 2 xs w2 HI2.out (by omega) (by omega) (by omega) (by omega)).mono ?_
              rintro e w3 ⟨v0, rfl, hv0, b0, u3⟩
              have HU3 := Lib.hid (HU2.out.trans u3.out)
              have HQ3 := Lib.hid ((u3.out.block _ (lt_of_blk HQ2.out)).trans HQ2.out)
              have HI3 := Lib.hid (HI2.out.up u3.out)
              have HL3 := Lib.hid (hL.out.up u3.out)
              clear u3 HU2 HQ2 HI2 hL
              obtain ⟨b00, b01⟩ := b0.out
              have b01 : v0 < 65536 := b01
              go_wp2_with fail
              refine (rnumI (some ⟨ga, go, none⟩) 12 12 2 2 xs w3 HI3.out (by omega) (by omega) (by omega) (by omega)).mono ?_
              rintro e w4 ⟨v1, rfl, hv1, b1, u4⟩
              have HU4 := Lib.hid (HU3.out.trans u4.out)
              have HQ4 := Lib.hid ((u4.out.block _ (lt_of_blk HQ3.out)).trans HQ3.out)
              have HI4 := Lib.hid (HI3.out.up u4.out)
              have HL4' := Lib.hid (HL3.out.up u4.out)
              clear u4 HU3 HQ3 HI3 HL3
              obtain ⟨b10, b11⟩ := b1.out
              have b11 : v1 < 65536 := b11
              go_wp2_with fail
              refine (rnumI (some ⟨ga, go, none⟩) 12 12 4 4 xs w4 HI4.out (by omega) (by omega) (by omega) (by omega)).mono ?_
              rintro e w5 ⟨v2, rfl, hv2, b2, u5⟩
              have HU5 := Lib.hid (HU4.out.trans u5.out)
              have HQ5 := Lib.hid ((u5.out.block _ (lt_of_blk HQ4.out)).trans HQ4.out)
              have HL5 := Lib.hid (HL4'.out.up u5.out)
              clear u5 HU4 HQ4 HI4 HL4'
              obtain ⟨b20, b21⟩ := b2.out
              have b21 : v2 < 4294967296 := b21
              have HAT := Lib.hid (show Pk.at_ xs (l.map ChB.pure) = ChB.pkt l v0 v1 v2 by unfold Pk.at_ ChB.pkt; rw [hv0.out, hv1.out, hv2.out])
              have HOK := Lib.hid (show Pk.PktOk (ChB.pkt l v0 v1 v2) from ⟨⟨b00, b01⟩, ⟨b10, b11⟩, ⟨b20, b21⟩⟩)
              clear b0 b1 b2 hv0 hv1 hv2
              go_upto_region 20 with (fail)
              have HB6 := Lib.hid (new_at w5 (.cells #[.int .u16 v0, .int .u16 v1, .int .u32 v2, .slice A2 n2 c2] 27))
              have HUa := Lib.hid (up_alloc w5 (.cells #[.int .u16 v0, .int .u16 v1, .int .u32 v2, .slice A2 n2 c2] 27))
              generalize w5.alloc (.cells #[.int .u16 v0, .int .u16 v1, .int .u32 v2, .slice A2 n2 c2] 27) = w6 at HB6 HUa ⊢
              generalize w5.heap.size = z at HB6 ⊢
              have HU6 := Lib.hid (HU5.out.trans HUa.out)
              have HQ6 := Lib.hid ((HUa.out.block _ (lt_of_blk HQ5.out)).trans HQ5.out)
              have HL6 := Lib.hid (HL5.out.up HUa.out)
              clear HUa HL5
              have z0 : w6.cell? ⟨z, 0, none⟩ = some (.int .u16 v0) := cell_of HB6.out rfl
              have z1 : w6.cell? ⟨z, 1, none⟩ = some (.int .u16 v1) := cell_of HB6.out rfl
              have z2 : w6.cell? ⟨z, 2, none⟩ = some (.int .u32 v2) := cell_of HB6.out rfl
              have z3 : w6.cell? ⟨z, 3, none⟩ = some (.slice A2 n2 c2) := cell_of HB6.out rfl
              go_wp2_with fail
              refine (rsound_any A2 n2 c2 l v0 v1 v2 w6 HL6.out.inL hn2').mono ?_
              rintro e w7 ⟨rfl, hu7⟩
              have HU7 := Lib.hid (HU6.out.trans hu7.out)
              have HQ7 := Lib.hid ((hu7.out.block _ (lt_of_blk HQ6.out)).trans HQ6.out)
              have HB7 := Lib.hid ((hu7.out.block _ (lt_of_blk HB6.out)).trans HB6.out)
              have HL7 := Lib.hid (HL6.out.up hu7.out)
              clear hu7 z0 z1 z2 z3
              cases hso : Pk.soundB (ChB.pkt l v0 v1 v2)
              · have HSO := Lib.hid hso
                clear hso
                have e0 : w7.cell? ⟨q, 0, none⟩ = some (.int .u16 0) := cell_of HQ7.out rfl
                have e1 : w7.cell? ⟨q, 1, none⟩ = some (.int .u16 0) := cell_of HQ7.out rfl
                have e2 : w7.cell? ⟨q, 2, none⟩ = some (.int .u32 0) := cell_of HQ7.out rfl
                have e3 : w7.cell? ⟨q, 3, none⟩ = some (.slice none 0 0) := cell_of HQ7.out rfl
                have f0 := frozen_at (j := 0) HQ7.out
                have f1 := frozen_at (j := 1) HQ7.out
                have f2 := frozen_at (j := 2) HQ7.out
                have f3 := frozen_at (j := 3) HQ7.out
                go_wp2_with fail
                have hs := set4 (a := .int .u16 0) (b := .int .u16 0) (c := .int .u32 0) (d := .slice none 0 0) HQ7.out rfl
                refine bodyPost_ret (results_row_tmp (fn := Try.f8) (p := 2) (u := 3) (ty := 27) rfl _ _ q 27 _ (0, 0) _ rfl hs.1 Try.underlying27 rfl rfl) rfl ?_
                exact PGPost.no rfl (.inr (.inr (.inr ⟨by rw [HM.out]; exact h12, by rw [HM.out]; exact hn, HEQ.out, _, _, hr.out, .inr (.inr ⟨rfl, by rw [HAT.out]; exact HSO.out, rfl, rfl⟩)⟩))) (Below.out HU7.out hs.2 (fun k hk => by rw [hk, ← HQQ.out]; exact Nat.le_refl _) HU7.out.size)
              · have HSO := Lib.hid hso
                clear hso
                have z0 : w7.cell? ⟨z, 0, none⟩ = some (.int .u16 v0) := cell_of HB7.out rfl
                have z1 : w7.cell? ⟨z, 1, none⟩ = some (.int .u16 v1) := cell_of HB7.out rfl
                have z2 : w7.cell? ⟨z, 2, none⟩ = some (.int .u32 v2) := cell_of HB7.out rfl
                have z3 : w7.cell? ⟨z, 3, none⟩ = some (.slice A2 n2 c2) := cell_of HB7.out rfl
                have e0 : w7.cell? ⟨q, 0, none⟩ = some (.int .u16 0) := cell_of HQ7.out rfl
                have e1 : w7.cell? ⟨q, 1, none⟩ = some (.int .u16 0) := cell_of HQ7.out rfl
                have e2 : w7.cell? ⟨q, 2, none⟩ = some (.int .u32 0) := cell_of HQ7.out rfl
                have e3 : w7.cell? ⟨q, 3, none⟩ = some (.slice none 0 0) := cell_of HQ7.out rfl
                have f0 := frozen_at (j := 0) HQ7.out
                have f1 := frozen_at (j := 1) HQ7.out
                have f2 := frozen_at (j := 2) HQ7.out
                have f3 := frozen_at (j := 3) HQ7.out
                go_wp2_with fail
                have hs := set4 (a := .int .u16 v0) (b := .int .u16 v1) (c := .int .u32 v2) (d := .slice A2 n2 c2) HQ7.out rfl
                refine bodyPost_ret (results_row_tmp (fn := Try.f8) (p := 2) (u := 3) (ty := 27) rfl _ _ q 27 _ (0, 0) _ rfl hs.1 Try.underlying27 rfl rfl) rfl ?_
                exact ⟨ChB.pkt l v0 v1 v2, 0, A2, n2, c2, l, rfl, Lib.hid (.inr (.inr (.inr ⟨by rw [HM.out]; exact h12, by rw [HM.out]; exact hn, HEQ.out, _, _, hr.out, .inr (.inl ⟨rfl, by rw [HAT.out]; exact HSO.out, HAT.out.symm, rfl⟩)⟩))), Lib.hid ((HL7.out.outS hs.2 (fun k hk => by rw [hk]; exact HLT1.out)).weak (by rw [HQQ.out]; exact Nat.le_of_lt HLT1.out)), Lib.hid rfl, hn2, HOK, Lib.hid (Below.out HU7.out hs.2 (fun k hk => by rw [hk, ← HQQ.out]; exact Nat.le_refl _) HU7.out.size)⟩
            · have hd : (k == 0) = false := by rw [beq_eq_false_iff_ne]; exact hk
              have hd' : (k != 0) = true := by simp [hk]
              have HK := Lib.hid hk
              clear hk
              have HRR := Lib.hid hr.out
              clear hr
              have e0 : w2.cell? ⟨q, 0, none⟩ = some (.int .u16 0) := cell_of HQ2.out rfl
              have e1 : w2.cell? ⟨q, 1, none⟩ = some (.int .u16 0) := cell_of HQ2.out rfl
              have e2 : w2.cell? ⟨q, 2, none⟩ = some (.int .u32 0) := cell_of HQ2.out rfl
              have e3 : w2.cell? ⟨q, 3, none⟩ = some (.slice none 0 0) := cell_of HQ2.out rfl
              have f0 := frozen_at (j := 0) HQ2.out
              have f1 := frozen_at (j := 1) HQ2.out
              have f2 := frozen_at (j := 2) HQ2.out
              have f3 := frozen_at (j := 3) HQ2.out
              go_wp2_with fail
              have hs := set4 (a := .int .u16 0) (b := .int .u16 0) (c := .int .u32 0) (d := .slice none 0 0) HQ2.out rfl
              refine bodyPost_ret (results_row_tmp (fn := Try.f8) (p := 2) (u := 3) (ty := 27) rfl _ _ q 27 _ (0, 0) _ rfl hs.1 Try.underlying27 rfl rfl) rfl ?_
              exact PGPost.no rfl (.inr (.inr (.inr ⟨by rw [HM.out]; exact h12, by rw [HM.out]; exact hn, HEQ.out, _, _, HRR.out, .inl ⟨HK.out, rfl, rfl⟩⟩))) (Below.out HU2.out hs.2 (fun k hk => by rw [hk, ← HQQ.out]; exact Nat.le_refl _) HU2.out.size)
          · go_wp2_with fail
            refine (rget_any (some ⟨ga, go + 12, none⟩) (N6 - 12) (c - 12) (xs.drop 12) wr (inB_drop HIr.out h12 (.inl rfl)) (by omega)).mono ?_
            rintro e w2 ⟨l, k, A2, n2, c2, rfl, hr, hL, hb, hn2, hu2⟩
            have HU2 := Lib.hid (HUr.out.trans hu2.out)
            have HQ2 := Lib.hid ((hu2.out.block _ (lt_of_blk HQr.out)).trans HQr.out)
            have HI2 := Lib.hid (HIr.out.up hu2.out)
            have HLT1 := Lib.hid (lt_of_blk HQr.out)
            clear hb hu2
            by_cases hk : k = 0
            · subst hk
              have hn2' : n2 ≤ 140737488351232 := by have := hn2.out; omega
              go_wp2_with fail
              refine (rnumI (some ⟨ga, go, none⟩) N6 c 0 2 xs w2 HI2.out (by omega) (by omega) (by omega) (by omega)).mono ?_
              rintro e w3 ⟨v0, rfl, hv0, b0, u3⟩
              have HU3 := Lib.hid (HU2.out.trans u3.out)
              have HQ3 := Lib.hid ((u3.out.block _ (lt_of_blk HQ2.out)).trans HQ2.out)
              have HI3 := Lib.hid (HI2.out.up u3.out)
              have HL3 := Lib.hid (hL.out.up u3.out)
              clear u3 HU2 HQ2 HI2 hL
              obtain ⟨b00, b01⟩ := b0.out
              have b01 : v0 < 65536 := b01
              go_wp2_with fail
              refine (rnumI (some ⟨ga, go, none⟩) N6 c 2 2 xs w3 HI3.out (by omega) (by omega) (by omega) (by omega)).mono ?_
              rintro e w4 ⟨v1, rfl, hv1, b1, u4⟩
              have HU4 := Lib.hid (HU3.out.trans u4.out)
              have HQ4 := Lib.hid ((u4.out.block _ (lt_of_blk HQ3.out)).trans HQ3.out)
              have HI4 := Lib.hid (HI3.out.up u4.out)
              have HL4' := Lib.hid (HL3.out.up u4.out)
              clear u4 HU3 HQ3 HI3 HL3
              obtain ⟨b10, b11⟩ := b1.out
              have b11 : v1 < 65536 := b11
              go_wp2_with fail
              refine (rnumI (some ⟨ga, go, none⟩) N6 c 4 4 xs w4 HI4.out (by omega) (by omega) (by omega) (by omega)).mono ?_
              rintro e w5 ⟨v2, rfl, hv2, b2, u5⟩
              have HU5 := Lib.hid (HU4.out.trans u5.out)
              have HQ5 := Lib.hid ((u5.out.block _ (lt_of_blk HQ4.out)).trans HQ4.out)
              have HL5 := Lib.hid (HL4'.out.up u5.out)
              clear u5 HU4 HQ4 HI4 HL4'
              obtain ⟨b20, b21⟩ := b2.out
              have b21 : v2 < 4294967296 := b21
              have HAT := Lib.hid (show Pk.at_ xs (l.map ChB.pure) = ChB.pkt l v0 v1 v2 by unfold Pk.at_ ChB.pkt; rw [hv0.out, hv1.out, hv2.out])
              have HOK := Lib.hid (show Pk.PktOk (ChB.pkt l v0 v1 v2) from ⟨⟨b00, b01⟩, ⟨b10, b11⟩, ⟨b20, b21⟩⟩)
              clear b0 b1 b2 hv0 hv1 hv2
              go_upto_region 20 with (fail)
              have HB6 := Lib.hid (new_at w5 (.cells #[.int .u16 v0, .int .u16 v1, .int .u32 v2, .slice A2 n2 c2] 27))
              have HUa := Lib.hid (up_alloc w5 (.cells #[.int .u16 v0, .int .u16 v1, .int .u32 v2, .slice A2 n2 c2] 27))
              generalize w5.alloc (.cells #[.int .u16 v0, .int .u16 v1, .int .u32 v2, .slice A2 n2 c2] 27) = w6 at HB6 HUa ⊢
              generalize w5.heap.size = z at HB6 ⊢
              have HU6 := Lib.hid (HU5.out.trans HUa.out)
              have HQ6 := Lib.hid ((HUa.out.block _ (lt_of_blk HQ5.out)).trans HQ5.out)
              have HL6 := Lib.hid (HL5.out.up HUa.out)
              clear HUa HL5
              have z0 : w6.cell? ⟨z, 0, none⟩ = some (.int .u16 v0) := cell_of HB6.out rfl
              have z1 : w6.cell? ⟨z, 1, none⟩ = some (.int .u16 v1) := cell_of HB6.out rfl
              have z2 : w6.cell? ⟨z, 2, none⟩ = some (.int .u32 v2) := cell_of HB6.out rfl
              have z3 : w6.cell? ⟨z, 3, none⟩ = some (.slice A2 n2 c2) := cell_of HB6.out rfl
              go_wp2_with fail
              refine (rsound_any A2 n2 c2 l v0 v1 v2 w6 HL6.out.inL hn2').mono ?_
              rintro e w7 ⟨rfl, hu7⟩
              have HU7 := Lib.hid (HU6.out.trans hu7.out)
              have HQ7 := Lib.hid ((hu7.out.block _ (lt_of_blk HQ6.out)).trans HQ6.out)
              have HB7 := Lib.hid ((hu7.out.block _ (lt_of_blk HB6.out)).trans HB6.out)
              have HL7 := Lib.hid (HL6.out.up hu7.out)
              clear hu7 z0 z1 z2 z3
              cases hso : Pk.soundB (ChB.pkt l v0 v1 v2)
              · have HSO := Lib.hid hso
                clear hso
                have e0 : w7.cell? ⟨q, 0, none⟩ = some (.int .u16 0) := cell_of HQ7.out rfl
                have e1 : w7.cell? ⟨q, 1, none⟩ = some (.int .u16 0) := cell_of HQ7.out rfl
                have e2 : w7.cell? ⟨q, 2, none⟩ = some (.int .u32 0) := cell_of HQ7.out rfl
                have e3 : w7.cell? ⟨q, 3, none⟩ = some (.slice none 0 0) := cell_of HQ7.out rfl
                have f0 := frozen_at (j := 0) HQ7.out
                have f1 := frozen_at (j := 1) HQ7.out
                have f2 := frozen_at (j := 2) HQ7.out
                have f3 := frozen_at (j := 3) HQ7.out
                go_wp2_with fail
                have hs := set4 (a := .int .u16 0) (b := .int .u16 0) (c := .int .u32 0) (d := .slice none 0 0) HQ7.out rfl
                refine bodyPost_ret (results_row_tmp (fn := Try.f8) (p := 2) (u := 3) (ty := 27) rfl _ _ q 27 _ (0, 0) _ rfl hs.1 Try.underlying27 rfl rfl) rfl ?_
                exact PGPost.no rfl (.inr (.inr (.inr ⟨by rw [HM.out]; exact h12, by rw [HM.out]; exact hn, HEQ.out, _, _, hr.out, .inr (.inr ⟨rfl, by rw [HAT.out]; exact HSO.out, rfl, rfl⟩)⟩))) (Below.out HU7.out hs.2 (fun k hk => by rw [hk, ← HQQ.out]; exact Nat.le_refl _) HU7.out.size)
              · have HSO := Lib.hid hso
                clear hso
                have z0 : w7.cell? ⟨z, 0, none⟩ = some (.int .u16 v0) := cell_of HB7.out rfl
                have z1 : w7.cell? ⟨z, 1, none⟩ = some (.int .u16 v1) := cell_of HB7.out rfl
                have z2 : w7.cell? ⟨z, 2, none⟩ = some (.int .u32 v2) := cell_of HB7.out rfl
                have z3 : w7.cell? ⟨z, 3, none⟩ = some (.slice A2 n2 c2) := cell_of HB7.out rfl
                have e0 : w7.cell? ⟨q, 0, none⟩ = some (.int .u16 0) := cell_of HQ7.out rfl
                have e1 : w7.cell? ⟨q, 1, none⟩ = some (.int .u16 0) := cell_of HQ7.out rfl
                have e2 : w7.cell? ⟨q, 2, none⟩ = some (.int .u32 0) := cell_of HQ7.out rfl
                have e3 : w7.cell? ⟨q, 3, none⟩ = some (.slice none 0 0) := cell_of HQ7.out rfl
                have f0 := frozen_at (j := 0) HQ7.out
                have f1 := frozen_at (j := 1) HQ7.out
                have f2 := frozen_at (j := 2) HQ7.out
                have f3 := frozen_at (j := 3) HQ7.out
                go_wp2_with fail
                have hs := set4 (a := .int .u16 v0) (b := .int .u16 v1) (c := .int .u32 v2) (d := .slice A2 n2 c2) HQ7.out rfl
                refine bodyPost_ret (results_row_tmp (fn := Try.f8) (p := 2) (u := 3) (ty := 27) rfl _ _ q 27 _ (0, 0) _ rfl hs.1 Try.underlying27 rfl rfl) rfl ?_
                exact ⟨ChB.pkt l v0 v1 v2, 0, A2, n2, c2, l, rfl, Lib.hid (.inr (.inr (.inr ⟨by rw [HM.out]; exact h12, by rw [HM.out]; exact hn, HEQ.out, _, _, hr.out, .inr (.inl ⟨rfl, by rw [HAT.out]; exact HSO.out, HAT.out.symm, rfl⟩)⟩))), Lib.hid ((HL7.out.outS hs.2 (fun k hk => by rw [hk]; exact HLT1.out)).weak (by rw [HQQ.out]; exact Nat.le_of_lt HLT1.out)), Lib.hid rfl, hn2, HOK, Lib.hid (Below.out HU7.out hs.2 (fun k hk => by rw [hk, ← HQQ.out]; exact Nat.le_refl _) HU7.out.size)⟩
            · have hd : (k == 0) = false := by rw [beq_eq_false_iff_ne]; exact hk
              have hd' : (k != 0) = true := by simp [hk]
              have HK := Lib.hid hk
              clear hk
              have HRR := Lib.hid hr.out
              clear hr
              have e0 : w2.cell? ⟨q, 0, none⟩ = some (.int .u16 0) := cell_of HQ2.out rfl
              have e1 : w2.cell? ⟨q, 1, none⟩ = some (.int .u16 0) := cell_of HQ2.out rfl
              have e2 : w2.cell? ⟨q, 2, none⟩ = some (.int .u32 0) := cell_of HQ2.out rfl
              have e3 : w2.cell? ⟨q, 3, none⟩ = some (.slice none 0 0) := cell_of HQ2.out rfl
              have f0 := frozen_at (j := 0) HQ2.out
              have f1 := frozen_at (j := 1) HQ2.out
              have f2 := frozen_at (j := 2) HQ2.out
              have f3 := frozen_at (j := 3) HQ2.out
              go_wp2_with fail
              have hs := set4 (a := .int .u16 0) (b := .int .u16 0) (c := .int .u32 0) (d := .slice none 0 0) HQ2.out rfl
              refine bodyPost_ret (results_row_tmp (fn := Try.f8) (p := 2) (u := 3) (ty := 27) rfl _ _ q 27 _ (0, 0) _ rfl hs.1 Try.underlying27 rfl rfl) rfl ?_
              exact PGPost.no rfl (.inr (.inr (.inr ⟨by rw [HM.out]; exact h12, by rw [HM.out]; exact hn, HEQ.out, _, _, HRR.out, .inl ⟨HK.out, rfl, rfl⟩⟩))) (Below.out HU2.out hs.2 (fun k hk => by rw [hk, ← HQQ.out]; exact Nat.le_refl _) HU2.out.size)
end
theorem rgetp_any {xs : List Int} (A : Option Addr) (m c : Nat) (w : World) (hin : InB w A m c xs) (hm : m ≤ 140737488351232) : Calls Try.prog 8 #[.slice A m c] w (PGPost xs w) := by
  by_cases h1 : 4096 < m
  · exact rgetp_large A m c w hin.len h1 hm
  by_cases h2 : m < 12
  · exact rgetp_short A m c w hin.len h2
  obtain ⟨ga, go, rfl, -, -⟩ := hin.cells (by intro e; have := congrArg List.length e; rw [ints_length, hin.len] at this; simp at this; omega)
  exact rgetp_main ga go m c w hin (by omega) (by omega)
end Go.Proofs.Ytjdcglioppbfhaa
