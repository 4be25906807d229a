import Derived.Test.YthncpkjnalmpkaaMgI
namespace Go.Proofs.Ythncpkjnalmpkaa
open Go Go.RowKit Mg
set_option linter.unusedVariables false
set_option linter.unusedSimpArgs false
/-! front. -/
def FrP (B : Nat) (w : World) (ys : List Int) (e : Ending) (w' : World) : Prop := ∃ A N c, e = .returned (.slice A N c) ∧ Hid (N = ys.length) ∧ Hid (OwnI .u8 5 B w' A N c ys) ∧ Hid (Up w w')
theorem fput (B : Nat) (ys : List Int) (A : Option Addr) (m c s : Nat) (xs : List Int) (n : Int) (w : World) (h : InB w A m c xs) (hk : m ≤ 30) (hs1 : 1 ≤ s) (hs8 : s ≤ 8) (hys : ys = xs ++ be n s) (hB : B ≤ w.heap.size) :
    Calls Try.prog 43 #[.slice A m c, .int .u64 n, .int .i64 (s : Int)] w (FrP B w ys) :=
  (put_any A m c s xs n w h (by omega) hs1 hs8).mono fun e w' ⟨A', N, c', he, hN, hO, hu⟩ => ⟨A', N, c', he, Lib.hid (by rw [hys]; exact hN), Lib.hid (by rw [hys]; exact hO.base hB), Lib.hid hu⟩
set_option maxRecDepth 100000 in
set_option maxHeartbeats 8000000 in
theorem front_any (x : MsB) (L : Nat) (w : World) (h : MsOK x.pure) (hL : L ≤ 4096) : Calls Try.prog 31 #[msV x, .int .i64 (L : Int)] w (FrP w.heap.size w (hdM x.pure L)) := by
  have hc1 := h.code.1; have hc2 := h.code.2; have ha1 := h.app.1; have ha2 := h.app.2; have hh1 := h.hop.1; have hh2 := h.hop.2; have he1 := h.end_.1; have he2 := h.end_.2
  change 0 ≤ x.code at hc1; change x.code < _ at hc2; change 0 ≤ x.app at ha1; change x.app < _ at ha2
  change 0 ≤ x.hop at hh1; change x.hop < _ at hh2; change 0 ≤ x.end_ at he1; change x.end_ < _ at he2
  clear h
  have HF := Lib.hid (msFl_bd x.pure)
  have HU := Lib.hid (up_alloc w (msO x))
  have HC := Lib.hid (new_at w (msO x))
  obtain ⟨B, HB⟩ : ∃ B, Hid (w.heap.size = B) := ⟨_, Lib.hid rfl⟩
  rw [HB.out] at HC ⊢
  have HBa := Lib.hid (show B ≤ (w.alloc (msO x)).heap.size by rw [← HB.out]; exact HU.out.size)
  unfold msV
  go_enter Try.func31, Try.ntmps31
  go_upto_region 1 with (fail)
  change Code.wp _ _ _ _ (w.alloc (msO x))
  rw [HB.out]
  generalize w.alloc (msO x) = wa at HC HU HBa ⊢
  go_wp2_with fail
  refine (fput B [1] none 0 0 1 [] 1 wa (inB_nil _) (by omega) (by omega) (by omega) (by simp [be]) HBa.out).mono ?_
  rintro e w1 ⟨A1, N1, c1, rfl, hN1, hO1, hu1⟩
  have HU1 := Lib.hid (HU.out.trans hu1.out)
  have HC1 := Lib.hid (blk_up HC.out hu1.out)
  have HB1 := Lib.hid (show B ≤ w1.heap.size from Nat.le_trans HBa.out hu1.out.size)
  have HI1 := Lib.hid (own_inB hO1.out (byt_one (by decide) byt_nil))
  have m1 : N1 ≤ 1 := by have := hN1.out; simp at this; omega
  clear hN1 hO1 hu1
  go_wp2_with fail
  refine (fput B ([1] ++ be L 3) A1 N1 c1 3 [1] L w1 HI1.out (by omega) (by omega) (by omega) rfl HB1.out).mono ?_
  rintro e w2 ⟨A2, N2, c2, rfl, hN2, hO2, hu2⟩
  have HU2 := Lib.hid (HU1.out.trans hu2.out)
  have HC2 := Lib.hid (blk_up HC1.out hu2.out)
  have HB2 := Lib.hid (show B ≤ w2.heap.size from Nat.le_trans HB1.out hu2.out.size)
  have HI2 := Lib.hid (own_inB hO2.out ((byt_one (by decide) byt_nil).append (be_byt _ _)))
  have m2 : N2 ≤ 4 := by have := hN2.out; simp [be_length] at this; omega
  clear hN2 hO2 hu2 HU1 HC1 HB1 HI1
  have z0 : w2.cell? ⟨B, 0, none⟩ = some (.bool x.req) := cell_of HC2.out (j := 0) rfl
  have z1 : w2.cell? ⟨B, 1, none⟩ = some (.bool x.prox) := cell_of HC2.out (j := 1) rfl
  have z2 : w2.cell? ⟨B, 2, none⟩ = some (.bool x.fail) := cell_of HC2.out (j := 2) rfl
  have z3 : w2.cell? ⟨B, 3, none⟩ = some (.bool x.again) := cell_of HC2.out (j := 3) rfl
  have z4 : w2.cell? ⟨B, 4, none⟩ = some (.int .u32 x.code) := cell_of HC2.out (j := 4) rfl
  have z5 : w2.cell? ⟨B, 5, none⟩ = some (.int .u32 x.app) := cell_of HC2.out (j := 5) rfl
  have z6 : w2.cell? ⟨B, 6, none⟩ = some (.int .u32 x.hop) := cell_of HC2.out (j := 6) rfl
  have z7 : w2.cell? ⟨B, 7, none⟩ = some (.int .u32 x.end_) := cell_of HC2.out (j := 7) rfl
  have z8 : w2.cell? ⟨B, 8, none⟩ = some (.slice x.A x.n x.c) := cell_of HC2.out (j := 8) rfl
  obtain ⟨F, HFL⟩ : ∃ F : Int, Hid (msFl x.pure = F) := ⟨_, Lib.hid rfl⟩
  have f0 : 0 ≤ F := by have := HF.out.1; rw [HFL.out] at this; exact this
  have f1 : F ≤ 240 := by have := HF.out.2.1; rw [HFL.out] at this; exact this
  go_wp2_with (go_at_call 51; refine (raised_any x _).mono ?_; rintro e w2b ⟨rfl, hub⟩; rw [HFL.out])
  refine (fput B ([1] ++ be L 3 ++ [F]) A2 N2 c2 1 ([1] ++ be L 3) F w2b (HI2.out.up hub) (by omega) (by omega) (by omega) (by rw [be_one, Int.emod_eq_of_lt f0 (by omega)]) (Nat.le_trans HB2.out hub.size)).mono ?_
  rintro e w3 ⟨A3, N3, c3, rfl, hN3, hO3, hu3⟩
  have HU3 := Lib.hid (HU2.out.trans (hub.trans hu3.out))
  have HC3 := Lib.hid (blk_up HC2.out (hub.trans hu3.out))
  have HB3 := Lib.hid (show B ≤ w3.heap.size from Nat.le_trans HB2.out (Nat.le_trans hub.size hu3.out.size))
  have HI3 := Lib.hid (own_inB hO3.out (((byt_one (by decide) byt_nil).append (be_byt _ _)).append (byt_one (by omega) byt_nil)))
  have m3 : N3 ≤ 5 := by have := hN3.out; simp [be_length] at this; omega
  clear hN3 hO3 hu3 HU2 HC2 HB2 HI2 hub
  clear z0 z1 z2 z3 z4 z5 z6 z7 z8
  have z4 : w3.cell? ⟨B, 4, none⟩ = some (.int .u32 x.code) := cell_of HC3.out (j := 4) rfl
  go_wp2_with fail
  refine (fput B (preM x.pure L) A3 N3 c3 3 ([1] ++ be L 3 ++ [F]) x.code w3 HI3.out (by omega) (by omega) (by omega) (by unfold preM; rw [HFL.out]; rfl) HB3.out).mono ?_
  rintro e w4 ⟨A4, N4, c4, rfl, hN4, hO4, hu4⟩
  have HU4 := Lib.hid (HU3.out.trans hu4.out)
  have HC4 := Lib.hid (blk_up HC3.out hu4.out)
  have HB4 := Lib.hid (show B ≤ w4.heap.size from Nat.le_trans HB3.out hu4.out.size)
  have HO4 := hO4
  have HN4 := Lib.hid (show N4 = 8 + 4 * 0 by rw [hN4.out]; exact upM_length x.pure L 0)
  clear hN4 hO4 hu4 HU3 HC3 HB3 HI3 z4
  have z5 : w4.cell? ⟨B, 5, none⟩ = some (.int .u32 x.app) := cell_of HC4.out (j := 5) rfl
  have z6 : w4.cell? ⟨B, 6, none⟩ = some (.int .u32 x.hop) := cell_of HC4.out (j := 6) rfl
  have z7 : w4.cell? ⟨B, 7, none⟩ = some (.int .u32 x.end_) := cell_of HC4.out (j := 7) rfl
  go_upto_region 6 with (fail)
  obtain ⟨q, HQ⟩ : ∃ q, Hid (w4.heap.size = q) := ⟨_, Lib.hid rfl⟩
  have HUq := Lib.hid (up_alloc w4 (.cells #[.int .u32 x.app, .int .u32 x.hop, .int .u32 x.end_] 22))
  have HCq := Lib.hid (new_at w4 (.cells #[.int .u32 x.app, .int .u32 x.hop, .int .u32 x.end_] 22))
  have HOq := Lib.hid (own_up HO4.out HUq.out)
  rw [HQ.out] at HCq ⊢
  generalize w4.alloc (.cells #[.int .u32 x.app, .int .u32 x.hop, .int .u32 x.end_] 22) = wq at HUq HCq HOq ⊢
  have HBq := Lib.hid (show B ≤ wq.heap.size from Nat.le_trans HB4.out HUq.out.size)
  have HU5 := Lib.hid (HU4.out.trans HUq.out)
  clear z5 z6 z7 HC4 HUq HO4 HB4 HU4 HQ HF
  go_loopw [5, 31] (fun v i wr => ∃ j A N c, j ≤ 3 ∧ i = .int .i64 ((j : Nat) : Int) ∧ v = .slice A N c ∧ Hid (N = 8 + 4 * j) ∧ Hid (OwnI .u8 5 B wr A N c (upM x.pure L j)) ∧ Hid (Up wq wr)) (fun _ i _ => 3 - (intOf i).toNat)
  case atStart => exact ⟨0, A4, N4, c4, by omega, rfl, rfl, HN4, HOq, Lib.hid (Up.refl _)⟩
  case round =>
    obtain ⟨j, A, N, c, hj, rfl, rfl, hN, hO, hU⟩ := hrel
    have hN30 : N ≤ 20 := by have := hN.out; omega
    by_cases hlt : j < 3
    · have d1 : decide ((j : Int) < 3) = true := decide_eq_true (by omega)
      have cj : wr.cell? ⟨q, j, none⟩ = some (.int .u32 (fldM x.pure j)) := by
        have hb := blk_up HCq.out hU.out
        have : j = 0 ∨ j = 1 ∨ j = 2 := by omega
        rcases this with rfl | rfl | rfl <;> exact cell_of hb rfl
      have hf0 : 0 ≤ fldM x.pure j ∧ fldM x.pure j < 4294967296 := by
        have : j = 0 ∨ j = 1 ∨ j = 2 := by omega
        rcases this with rfl | rfl | rfl
        · exact ⟨ha1, ha2⟩
        · exact ⟨hh1, hh2⟩
        · exact ⟨he1, he2⟩
      obtain ⟨g0, g1⟩ := hf0
      have HG := Lib.hid (show upM x.pure L (j + 1) = upM x.pure L j ++ be (fldM x.pure j) 4 from rfl)
      generalize fldM x.pure j = G at cj g0 g1 HG
      have HI := Lib.hid (own_inB hO.out (upM_byt x.pure L j))
      go_wp2_with fail
      refine (fput B (upM x.pure L (j + 1)) A N c 4 (upM x.pure L j) G wr HI.out (by omega) (by omega) (by omega) HG.out (Nat.le_trans HBq.out hU.out.size)).mono ?_
      rintro e w6 ⟨A6, N6, c6, rfl, hN6, hO6, hu6⟩
      have HN6 := Lib.hid (show N6 = 8 + 4 * (j + 1) by rw [hN6.out, upM_length])
      have HU6 := Lib.hid (hU.out.trans hu6.out)
      clear hN6 hu6 cj HG HI hU hN
      go_wp2_with fail
      exact ⟨⟨j + 1, A6, N6, c6, by omega, rfl, rfl, HN6, hO6, HU6⟩, by simp [intOf]; omega⟩
    · obtain rfl : j = 3 := by omega
      have d1 : decide (((3 : Nat) : Int) < 3) = false := by decide
      go_wp2_with fail
      go_ret
      exact ⟨A, N, c, rfl, Lib.hid (by rw [hN.out, ← upM_3, upM_length]), Lib.hid (by rw [← upM_3]; exact hO.out), Lib.hid (HU5.out.trans hU.out)⟩
end Go.Proofs.Ythncpkjnalmpkaa
