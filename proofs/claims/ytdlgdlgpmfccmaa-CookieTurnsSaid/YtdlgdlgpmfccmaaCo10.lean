import Derived.Test.YtdlgdlgpmfccmaaCo9
import Derived.Test.YtdlgdlgpmfccmaaPk5
namespace Go.Proofs.Ytdlgdlgpmfccmaa
open Go Go.RowKit
set_option linter.unusedVariables false
set_option linter.unusedSimpArgs false
/-! The law CookieTurns. -/
theorem drop4 {l : List Int} (h : 4 ≤ l.length) : ∃ a b c d rest, l = a :: b :: c :: d :: rest := by
  match l, h with
  | a :: b :: c :: d :: rest, _ => exact ⟨a, b, c, d, rest, rfl⟩
theorem le4_int (S : Nat) : le4 S = [(S : Int) % 256, (S : Int) / 256 % 256, (S : Int) / 65536 % 256, (S : Int) / 16777216 % 256] := by unfold le4; simp
def setL : List Int → Nat → List Int → List Int
  | xs, _, [] => xs
  | xs, o, y :: ys => setL (xs.set o y) (o + 1) ys
theorem setL_length (ys : List Int) : ∀ (xs : List Int) (o : Nat), (setL xs o ys).length = xs.length := by
  induction ys with
  | nil => intro xs o; rfl
  | cons y ys ih => intro xs o; rw [setL, ih, List.length_set]
theorem setL_mid (ys : List Int) : ∀ (a b r : List Int), b.length = ys.length → setL (a ++ (b ++ r)) a.length ys = a ++ (ys ++ r) := by
  induction ys with
  | nil =>
    intro a b r h
    obtain rfl := List.eq_nil_of_length_eq_zero h
    rfl
  | cons y ys ih =>
    intro a b r h
    cases b with
    | nil => simp at h
    | cons x b =>
      rw [setL]
      have e : (a ++ (x :: b ++ r)).set a.length y = (a ++ [y]) ++ (b ++ r) := by simp
      have e2 : a.length + 1 = (a ++ [y]).length := by simp
      rw [e, e2, ih (a ++ [y]) b r (by simpa using h)]
      simp
theorem setL_cut (xs ys : List Int) (o : Nat) (h : o + ys.length ≤ xs.length) : setL xs o ys = xs.take o ++ (ys ++ xs.drop (o + ys.length)) := by
  have e : xs = xs.take o ++ ((xs.drop o).take ys.length ++ xs.drop (o + ys.length)) := by
    rw [← List.drop_drop, List.take_append_drop, List.take_append_drop]
  have h1 : (xs.take o).length = o := by simp; omega
  have := setL_mid ys (xs.take o) ((xs.drop o).take ys.length) (xs.drop (o + ys.length)) (by simp; omega)
  rw [← e, h1] at this
  exact this
theorem turn_mid (key : Int) (x : Cr) (i S : Nat) (p : List Int) (hi : i ≤ 32) (hp : p.length = 4) (hS : S < 4294967296) (h0 : S ≠ 0) (hx : Cr.enc key x = (Cr.enc key x).take i ++ (p ++ (Cr.enc key x).drop (i + 4))) (hl : ((Cr.enc key x).take i ++ (turn4 p S ++ (Cr.enc key x).drop (i + 4))).length = 40) :
    Cr.opn key ((Cr.enc key x).take i ++ (turn4 p S ++ (Cr.enc key x).drop (i + 4))) = (Cr.zero, 5) := by
  have hb := x.body_length
  have e1 : (Cr.enc key x).take i = x.body.take i := by unfold Cr.enc; rw [List.take_append_of_le_length (by omega)]
  have e2 : (Cr.enc key x).drop (i + 4) = x.body.drop (i + 4) ++ be (Cr.sum key x.body : Nat) 4 := by unfold Cr.enc; rw [List.drop_append_of_le_length (by omega)]
  have ht : (x.body.take i).length = i := by simp; omega
  have hd : (x.body.drop (i + 4)).length = 32 - i := by simp; omega
  have e3 : x.body = x.body.take i ++ (p ++ x.body.drop (i + 4)) := by
    have h1 := congrArg (List.take 36) hx
    rw [enc_take, e1, e2] at h1
    rw [← List.append_assoc p, ← List.append_assoc (x.body.take i), List.take_left' (by simp [hp]; omega)] at h1
    exact h1
  refine opn_sum hl ?_
  rw [e1, e2]
  have e4 : x.body.take i ++ (turn4 p S ++ (x.body.drop (i + 4) ++ be (Cr.sum key x.body : Nat) 4)) = (x.body.take i ++ (turn4 p S ++ x.body.drop (i + 4))) ++ (be (Cr.sum key x.body : Nat) 4 ++ []) := by simp
  have l1 : (x.body.take i ++ (turn4 p S ++ x.body.drop (i + 4))).length = 36 := by simp [turn4_length S hp]; omega
  rw [e4, nm_app _ _ _ _ 36 l1 (Nat.le_refl _), Nat.sub_self, nm_head _ _ _ (be_length _ _), List.take_left' l1]
  have hlt := Cr.sum_lt (key := key) x.byt_body
  rw [num_be' _ _ (by omega) (by omega)]
  intro e
  have e5 : Cr.sum key x.body = Cr.sum key (x.body.take i ++ (turn4 p S ++ x.body.drop (i + 4))) := by omega
  have h2 := turn4_sum (be key 8 ++ x.body.take i) p (x.body.drop (i + 4) ++ be key 8) S hp hS h0
  refine h2 ?_
  unfold Cr.sum at e5
  rw [e3] at e5
  have e6 : be key 8 ++ ((x.body.take i ++ (p ++ x.body.drop (i + 4))) ++ be key 8) = (be key 8 ++ x.body.take i) ++ (p ++ (x.body.drop (i + 4) ++ be key 8)) := by simp
  have e7 : be key 8 ++ ((x.body.take i ++ (turn4 p S ++ x.body.drop (i + 4))) ++ be key 8) = (be key 8 ++ x.body.take i) ++ (turn4 p S ++ (x.body.drop (i + 4) ++ be key 8)) := by simp
  rw [← e3, e7] at e5
  rw [← e6, ← e3]
  exact e5.symm
theorem turn_end (key : Int) (x : Cr) (S : Nat) (p : List Int) (hp : p.length = 4) (hb : Byt p) (hS : S < 4294967296) (h0 : S ≠ 0) (hx : Cr.enc key x = (Cr.enc key x).take 36 ++ (p ++ (Cr.enc key x).drop 40)) (hl : ((Cr.enc key x).take 36 ++ (turn4 p S ++ (Cr.enc key x).drop 40)).length = 40) :
    Cr.opn key ((Cr.enc key x).take 36 ++ (turn4 p S ++ (Cr.enc key x).drop 40)) = (Cr.zero, 5) := by
  have e0 : (Cr.enc key x).drop 40 = [] := List.drop_eq_nil_of_le (by rw [Cr.enc_length]; exact Nat.le_refl _)
  have e1 : p = be (Cr.sum key x.body : Nat) 4 := by
    rw [e0, enc_take, List.append_nil] at hx
    unfold Cr.enc at hx
    exact (List.append_cancel_left hx).symm
  refine opn_sum hl ?_
  rw [enc_take, e0, nm_app _ _ _ _ 36 x.body_length (Nat.le_refl _), Nat.sub_self, nm_head _ _ _ (turn4_length S hp), List.take_left' x.body_length]
  intro e
  have h1 := be_num (turn4 p S) (byt_turn4 hb)
  rw [turn4_length S hp, e, ← e1] at h1
  exact turn4_ne hp hb hS h0 h1.symm
theorem cut4 {xs : List Int} {i : Nat} {x0 x1 x2 x3 : Int} (hi : i + 4 ≤ xs.length) (h0 : xs[i]? = some x0) (h1 : xs[i + 1]? = some x1) (h2 : xs[i + 2]? = some x2) (h3 : xs[i + 3]? = some x3) : xs = xs.take i ++ ([x0, x1, x2, x3] ++ xs.drop (i + 4)) := by
  have e : (xs.drop i).take 4 = [x0, x1, x2, x3] := by
    obtain ⟨p, q, r, s, rest, hl⟩ := drop4 (l := xs.drop i) (by simp; omega)
    have gg (j : Nat) : xs[i + j]? = (xs.drop i)[j]? := by simp
    have g0 := gg 0; have g1 := gg 1; have g2 := gg 2; have g3 := gg 3
    rw [hl] at g0 g1 g2 g3
    simp only [List.getElem?_cons_zero, List.getElem?_cons_succ, Nat.add_zero] at g0 g1 g2 g3
    have i0 := h0.symm.trans g0
    have i1 := h1.symm.trans g1
    have i2 := h2.symm.trans g2
    have i3 := h3.symm.trans g3
    injection i0 with i0; injection i1 with i1; injection i2 with i2; injection i3 with i3
    subst i0 i1 i2 i3
    rw [hl]; rfl
  rw [← e, ← List.drop_drop, List.take_append_drop, List.take_append_drop]
set_option maxRecDepth 1000000 in
set_option maxHeartbeats 8000000 in
theorem law_turns (key : Int) (x : Cr) (a S : Nat) (w : World) (hx : x.Ok) (ha : a < 256) (hS : S < 4294967296) : Calls Try.prog 5 #[.int .u64 key, x.val, .int .u8 (a : Int), .int .u32 (S : Int)] w (RetB true w) := by
  have HX := Lib.hid hx
  have HV := Lib.hid (show Cr.val x = .agg #[.int .i64 x.t, .int .u32 x.a, .int .u32 x.b, .int .u32 x.c, .int .u32 x.d, .int .u32 x.e, .int .u32 x.f, .int .u32 x.g] from rfl)
  have HN := Lib.hid (show (w.alloc (.cells #[.int .i64 x.t, .int .u32 x.a, .int .u32 x.b, .int .u32 x.c, .int .u32 x.d, .int .u32 x.e, .int .u32 x.f, .int .u32 x.g] 25)).heap[w.heap.size]? = some (.cells #[.int .i64 x.t, .int .u32 x.a, .int .u32 x.b, .int .u32 x.c, .int .u32 x.d, .int .u32 x.e, .int .u32 x.f, .int .u32 x.g] 25 (0, 0)) from new_at w _)
  have HU := Lib.hid (up_alloc w (.cells #[.int .i64 x.t, .int .u32 x.a, .int .u32 x.b, .int .u32 x.c, .int .u32 x.d, .int .u32 x.e, .int .u32 x.f, .int .u32 x.g] 25))
  clear hx
  rw [HV.out]
  go_enter Try.func5, Try.ntmps5
  go_upto_region 1 with (fail)
  generalize w.alloc (.cells #[.int .i64 x.t, .int .u32 x.a, .int .u32 x.b, .int .u32 x.c, .int .u32 x.d, .int .u32 x.e, .int .u32 x.f, .int .u32 x.g] 25) = w0 at HN HU ⊢
  generalize hq : w.heap.size = q at HN ⊢
  have HQQ := Lib.hid hq
  clear hq
  have x0 : w0.cell? ⟨q, 0, none⟩ = some (.int .i64 x.t) := cell_of HN.out rfl
  have x1 : w0.cell? ⟨q, 1, none⟩ = some (.int .u32 x.a) := cell_of HN.out rfl
  have x2 : w0.cell? ⟨q, 2, none⟩ = some (.int .u32 x.b) := cell_of HN.out rfl
  have x3 : w0.cell? ⟨q, 3, none⟩ = some (.int .u32 x.c) := cell_of HN.out rfl
  have x4 : w0.cell? ⟨q, 4, none⟩ = some (.int .u32 x.d) := cell_of HN.out rfl
  have x5 : w0.cell? ⟨q, 5, none⟩ = some (.int .u32 x.e) := cell_of HN.out rfl
  have x6 : w0.cell? ⟨q, 6, none⟩ = some (.int .u32 x.f) := cell_of HN.out rfl
  have x7 : w0.cell? ⟨q, 7, none⟩ = some (.int .u32 x.g) := cell_of HN.out rfl
  go_wp2_with fail
  rw [← HV.out]
  refine (seal_any key x w0 HX.out).mono ?_
  rintro e w2 ⟨xs, k, A2, N2, c2, rfl, hr, hN2, hO2, hu2⟩
  have HU2 := Lib.hid (HU.out.trans hu2.out)
  have HO2 := Lib.hid (hO2.out.base HU.out.size)
  clear hu2 hO2 x0 x1 x2 x3 x4 x5 x6 x7 HU
  go_wp2_with fail
  refine (answers_ok w2).mono ?_
  rintro e w3 ⟨rfl, hu3⟩
  have HU3 := Lib.hid (HU2.out.trans hu3.out)
  have HO3 := Lib.hid (HO2.out.up hu3.out)
  clear hu3 HU2 HO2
  rcases hr.out with ⟨hf, hxs, rfl⟩ | ⟨hf, rfl, rfl⟩
  case inr =>
    clear hr hf hN2 HO3
    go_wp2_with fail
    refine (answers_ok w3).mono ?_
    rintro e w4 ⟨rfl, hu4⟩
    go_wp2_with fail
    go_ret
    exact ⟨rfl, Lib.hid (HU3.out.trans hu4.out)⟩
  case inl =>
    obtain rfl : N2 = 40 := by rw [hN2.out, hxs, Cr.enc_length]
    have HXS := Lib.hid hxs
    have HXL := Lib.hid (show xs.length = 40 from hN2.out.symm)
    have HBY := Lib.hid (show Byt xs from by rw [hxs]; exact Cr.byt_enc key x)
    clear hr hf hN2 hxs
    by_cases hS0 : S = 0
    · subst hS0
      go_wp2_with fail
      refine (answers_ok w3).mono ?_
      rintro e w4 ⟨rfl, hu4⟩
      go_wp2_with fail
      go_ret
      exact ⟨rfl, Lib.hid (HU3.out.trans hu4.out)⟩
    · have hd : ((S : Int) == 0) = false := by rw [beq_eq_false_iff_ne]; omega
      have HS0 := Lib.hid hS0
      clear hS0
      have hmod : (a : Int) % 34 = ((a % 34 : Nat) : Int) := by omega
      have ha0 : (a : Int) ≤ 255 := by omega
      go_upto_region 5 with (fail)
      rw [hmod]
      clear hmod ha0
      have hlt34 : a % 34 < 34 := by omega
      by_cases h33 : a % 34 = 33
      case pos =>
        rw [h33]
        clear h33 hlt34
        obtain ⟨gb, rfl, hgb, hgbw⟩ := HO3.out.at_ (by omega)
        have HGB := Lib.hid (show w.heap.size ≤ gb from hgb)
        have hcb := HO3.out.cap
        clear hgb hgbw
        obtain ⟨x0, h0⟩ : ∃ z, xs[36 + 0]? = some z := ⟨_, List.getElem?_eq_getElem (by rw [HXL.out]; omega)⟩
        have H0 := Lib.hid (show xs[36]? = some x0 from h0)
        have b0 := HBY.out x0 (List.mem_of_getElem? h0)
        obtain ⟨x1, h1⟩ : ∃ z, xs[36 + 1]? = some z := ⟨_, List.getElem?_eq_getElem (by rw [HXL.out]; omega)⟩
        have H1 := Lib.hid (show xs[37]? = some x1 from h1)
        have b1 := HBY.out x1 (List.mem_of_getElem? h1)
        obtain ⟨x2, h2⟩ : ∃ z, xs[36 + 2]? = some z := ⟨_, List.getElem?_eq_getElem (by rw [HXL.out]; omega)⟩
        have H2 := Lib.hid (show xs[38]? = some x2 from h2)
        have b2 := HBY.out x2 (List.mem_of_getElem? h2)
        obtain ⟨x3, h3⟩ : ∃ z, xs[36 + 3]? = some z := ⟨_, List.getElem?_eq_getElem (by rw [HXL.out]; omega)⟩
        have H3 := Lib.hid (show xs[39]? = some x3 from h3)
        have b3 := HBY.out x3 (List.mem_of_getElem? h3)
        have v0 := xorI_val (q := (S : Int) % 256) b0 (by omega)
        have v1 := xorI_val (q := (S : Int) / 256 % 256) b1 (by omega)
        have v2 := xorI_val (q := (S : Int) / 65536 % 256) b2 (by omega)
        have v3 := xorI_val (q := (S : Int) / 16777216 % 256) b3 (by omega)
        have HT4 := Lib.hid (show turn4 [x0, x1, x2, x3] S = [xorI x0 ((S : Int) % 256), xorI x1 ((S : Int) / 256 % 256), xorI x2 ((S : Int) / 65536 % 256), xorI x3 ((S : Int) / 16777216 % 256)] by unfold turn4; rw [le4_int]; rfl)
        generalize xorI x0 ((S : Int) % 256) = r0 at v0 HT4
        generalize xorI x1 ((S : Int) / 256 % 256) = r1 at v1 HT4
        generalize xorI x2 ((S : Int) / 65536 % 256) = r2 at v2 HT4
        generalize xorI x3 ((S : Int) / 16777216 % 256) = r3 at v3 HT4
        rw [show (S : Int) / 16777216 % 256 = (S : Int) / 16777216 by omega] at v3
        have HXC := Lib.hid (cut4 (xs := xs) (i := 36) (by rw [HXL.out]; omega) h0 h1 h2 h3)
        clear b0 b1 b2 b3 h0 h1 h2 h3
        go_wp2_with fail
        go_loopw [12] (fun i' wr => ∃ k : Nat, k ≤ 4 ∧ i' = .int .i64 (k : Int) ∧ Hid (OwnI .u8 5 w.heap.size wr (some ⟨gb, 0, none⟩) 40 c2 (setL xs 36 ([r0, r1, r2, r3].take k))) ∧ Hid (Up w wr)) (fun i' _ => 4 - (intOf i').toNat)
        case atStart => exact ⟨0, by omega, rfl, HO3, HU3⟩
        case round =>
          obtain ⟨k, hk, rfl, hO, hU⟩ := hrel
          obtain rfl | rfl | rfl | rfl | rfl : k = 0 ∨ k = 1 ∨ k = 2 ∨ k = 3 ∨ k = 4 := by omega
          · have hcell : wr.cell? ⟨gb, 36, none⟩ = some (.int .u8 x0) := hO.out.cellAt (j := 36) (by have := H0.out; simp [setL, this])
            have hfr : wr.frozen? ⟨gb, 36, none⟩ = false := hO.out.frozenAt (36)
            go_wp2_with fail
            go_roundw
            case rel => exact ⟨1, by omega, rfl, Lib.hid (hO.out.stored (36) r0), Lib.hid (Below.out hU.out (setCell_out wr gb (36) (.int .u8 r0)) (fun z hz => by rw [hz]; exact HGB.out) hU.out.size)⟩
            case measure => simp [intOf]
          · have hcell : wr.cell? ⟨gb, 37, none⟩ = some (.int .u8 x1) := hO.out.cellAt (j := 37) (by have := H1.out; simp [setL, this])
            have hfr : wr.frozen? ⟨gb, 37, none⟩ = false := hO.out.frozenAt (37)
            go_wp2_with fail
            go_roundw
            case rel => exact ⟨2, by omega, rfl, Lib.hid (hO.out.stored (37) r1), Lib.hid (Below.out hU.out (setCell_out wr gb (37) (.int .u8 r1)) (fun z hz => by rw [hz]; exact HGB.out) hU.out.size)⟩
            case measure => simp [intOf]
          · have hcell : wr.cell? ⟨gb, 38, none⟩ = some (.int .u8 x2) := hO.out.cellAt (j := 38) (by have := H2.out; simp [setL, this])
            have hfr : wr.frozen? ⟨gb, 38, none⟩ = false := hO.out.frozenAt (38)
            go_wp2_with fail
            go_roundw
            case rel => exact ⟨3, by omega, rfl, Lib.hid (hO.out.stored (38) r2), Lib.hid (Below.out hU.out (setCell_out wr gb (38) (.int .u8 r2)) (fun z hz => by rw [hz]; exact HGB.out) hU.out.size)⟩
            case measure => simp [intOf]
          · have hcell : wr.cell? ⟨gb, 39, none⟩ = some (.int .u8 x3) := hO.out.cellAt (j := 39) (by have := H3.out; simp [setL, this])
            have hfr : wr.frozen? ⟨gb, 39, none⟩ = false := hO.out.frozenAt (39)
            go_wp2_with fail
            go_roundw
            case rel => exact ⟨4, by omega, rfl, Lib.hid (hO.out.stored (39) r3), Lib.hid (Below.out hU.out (setCell_out wr gb (39) (.int .u8 r3)) (fun z hz => by rw [hz]; exact HGB.out) hU.out.size)⟩
            case measure => simp [intOf]
          · have HYS := Lib.hid (show setL xs 36 ([r0, r1, r2, r3].take 4) = xs.take 36 ++ (turn4 [x0, x1, x2, x3] S ++ xs.drop (40)) from by
              rw [HT4.out]
              exact setL_cut xs [r0, r1, r2, r3] 36 (by rw [HXL.out]; simp; try omega))
            have HBY2 := Lib.hid (show Byt (xs.take 36 ++ ([x0, x1, x2, x3] ++ xs.drop (40))) by rw [← HXC.out]; exact HBY.out)
            have HL2 := Lib.hid (show (xs.take 36 ++ (turn4 [x0, x1, x2, x3] S ++ xs.drop (40))).length = 40 by simp [turn4_length, HXL.out]; try omega)
            have HTO := Lib.hid (show Cr.opn key (xs.take 36 ++ (turn4 [x0, x1, x2, x3] S ++ xs.drop (40))) = (Cr.zero, 5) from by
              rw [HXS.out]
              exact turn_end key x S [x0, x1, x2, x3] rfl (byt_of_app (byt_of_app HBY2.out).2).1 hS HS0.out (by rw [← HXS.out]; exact HXC.out) (by rw [← HXS.out]; exact HL2.out))
            have HB2 := Lib.hid (show Byt (xs.take 36 ++ (turn4 [x0, x1, x2, x3] S ++ xs.drop (40))) from (byt_of_app HBY2.out).1.append ((byt_turn4 (byt_of_app (byt_of_app HBY2.out).2).1).append (byt_of_app (byt_of_app HBY2.out).2).2))
            have HO2 := Lib.hid (show OwnI .u8 5 w.heap.size wr (some ⟨gb, 0, none⟩) 40 c2 (xs.take 36 ++ (turn4 [x0, x1, x2, x3] S ++ xs.drop (40))) by rw [← HYS.out]; exact hO.out)
            generalize xs.take 36 ++ (turn4 [x0, x1, x2, x3] S ++ xs.drop (40)) = ys at HTO HL2 HB2 HO2
            clear v0 v1 v2 v3
            go_wp2_with fail
            refine (open_any key (some ⟨gb, 0, none⟩) 40 c2 ys wr (own_inB HO2.out HB2.out) (by omega)).mono ?_
            rintro e w7 ⟨he, hu7⟩
            rw [HTO.out] at he
            have HU7 := Lib.hid (hU.out.trans hu7.out)
            clear hu7
            simp only [Cr.val, Cr.cells, Cr.zero] at he
            subst he
            go_upto_region 12 with (fail)
            have HB8 := Lib.hid (new_at w7 (.cells #[.int .i64 0, .int .u32 0, .int .u32 0, .int .u32 0, .int .u32 0, .int .u32 0, .int .u32 0, .int .u32 0] 25))
            have HU8 := Lib.hid (HU7.out.trans (up_alloc w7 (.cells #[.int .i64 0, .int .u32 0, .int .u32 0, .int .u32 0, .int .u32 0, .int .u32 0, .int .u32 0, .int .u32 0] 25)))
            generalize w7.alloc (.cells #[.int .i64 0, .int .u32 0, .int .u32 0, .int .u32 0, .int .u32 0, .int .u32 0, .int .u32 0, .int .u32 0] 25) = w8 at HB8 HU8 ⊢
            generalize w7.heap.size = zz at HB8 ⊢
            have y0 : w8.cell? ⟨zz, 0, none⟩ = some (.int .i64 0) := cell_of HB8.out rfl
            have y1 : w8.cell? ⟨zz, 1, none⟩ = some (.int .u32 0) := cell_of HB8.out rfl
            have y2 : w8.cell? ⟨zz, 2, none⟩ = some (.int .u32 0) := cell_of HB8.out rfl
            have y3 : w8.cell? ⟨zz, 3, none⟩ = some (.int .u32 0) := cell_of HB8.out rfl
            have y4 : w8.cell? ⟨zz, 4, none⟩ = some (.int .u32 0) := cell_of HB8.out rfl
            have y5 : w8.cell? ⟨zz, 5, none⟩ = some (.int .u32 0) := cell_of HB8.out rfl
            have y6 : w8.cell? ⟨zz, 6, none⟩ = some (.int .u32 0) := cell_of HB8.out rfl
            have y7 : w8.cell? ⟨zz, 7, none⟩ = some (.int .u32 0) := cell_of HB8.out rfl
            go_wp2_with fail
            go_ret
            exact ⟨by simp, HU8⟩
      case neg =>
        have hi32 : a % 34 ≤ 32 := by omega
        generalize a % 34 = i at hi32 h33 ⊢
        have dz : ((i : Int) == 33) = false := by rw [beq_eq_false_iff_ne]; omega
        clear h33 hlt34
        obtain ⟨gb, rfl, hgb, hgbw⟩ := HO3.out.at_ (by omega)
        have HGB := Lib.hid (show w.heap.size ≤ gb from hgb)
        have hcb := HO3.out.cap
        clear hgb hgbw
        obtain ⟨x0, h0⟩ : ∃ z, xs[i + 0]? = some z := ⟨_, List.getElem?_eq_getElem (by rw [HXL.out]; omega)⟩
        have H0 := Lib.hid (show xs[i]? = some x0 from h0)
        have b0 := HBY.out x0 (List.mem_of_getElem? h0)
        obtain ⟨x1, h1⟩ : ∃ z, xs[i + 1]? = some z := ⟨_, List.getElem?_eq_getElem (by rw [HXL.out]; omega)⟩
        have H1 := Lib.hid (show xs[i + 1]? = some x1 from h1)
        have b1 := HBY.out x1 (List.mem_of_getElem? h1)
        obtain ⟨x2, h2⟩ : ∃ z, xs[i + 2]? = some z := ⟨_, List.getElem?_eq_getElem (by rw [HXL.out]; omega)⟩
        have H2 := Lib.hid (show xs[i + 2]? = some x2 from h2)
        have b2 := HBY.out x2 (List.mem_of_getElem? h2)
        obtain ⟨x3, h3⟩ : ∃ z, xs[i + 3]? = some z := ⟨_, List.getElem?_eq_getElem (by rw [HXL.out]; omega)⟩
        have H3 := Lib.hid (show xs[i + 3]? = some x3 from h3)
        have b3 := HBY.out x3 (List.mem_of_getElem? h3)
        have v0 := xorI_val (q := (S : Int) % 256) b0 (by omega)
        have v1 := xorI_val (q := (S : Int) / 256 % 256) b1 (by omega)
        have v2 := xorI_val (q := (S : Int) / 65536 % 256) b2 (by omega)
        have v3 := xorI_val (q := (S : Int) / 16777216 % 256) b3 (by omega)
        have HT4 := Lib.hid (show turn4 [x0, x1, x2, x3] S = [xorI x0 ((S : Int) % 256), xorI x1 ((S : Int) / 256 % 256), xorI x2 ((S : Int) / 65536 % 256), xorI x3 ((S : Int) / 16777216 % 256)] by unfold turn4; rw [le4_int]; rfl)
        generalize xorI x0 ((S : Int) % 256) = r0 at v0 HT4
        generalize xorI x1 ((S : Int) / 256 % 256) = r1 at v1 HT4
        generalize xorI x2 ((S : Int) / 65536 % 256) = r2 at v2 HT4
        generalize xorI x3 ((S : Int) / 16777216 % 256) = r3 at v3 HT4
        rw [show (S : Int) / 16777216 % 256 = (S : Int) / 16777216 by omega] at v3
        have HXC := Lib.hid (cut4 (xs := xs) (i := i) (by rw [HXL.out]; omega) h0 h1 h2 h3)
        clear b0 b1 b2 b3 h0 h1 h2 h3
        go_wp2_with fail
        go_loopw [12] (fun i' wr => ∃ k : Nat, k ≤ 4 ∧ i' = .int .i64 (k : Int) ∧ Hid (OwnI .u8 5 w.heap.size wr (some ⟨gb, 0, none⟩) 40 c2 (setL xs i ([r0, r1, r2, r3].take k))) ∧ Hid (Up w wr)) (fun i' _ => 4 - (intOf i').toNat)
        case atStart => exact ⟨0, by omega, rfl, HO3, HU3⟩
        case round =>
          obtain ⟨k, hk, rfl, hO, hU⟩ := hrel
          obtain rfl | rfl | rfl | rfl | rfl : k = 0 ∨ k = 1 ∨ k = 2 ∨ k = 3 ∨ k = 4 := by omega
          · have hcell : wr.cell? ⟨gb, i, none⟩ = some (.int .u8 x0) := hO.out.cellAt (j := i) (by have := H0.out; simp [setL, this])
            have hfr : wr.frozen? ⟨gb, i, none⟩ = false := hO.out.frozenAt (i)
            go_wp2_with fail
            go_roundw
            case rel => exact ⟨1, by omega, rfl, Lib.hid (hO.out.stored (i) r0), Lib.hid (Below.out hU.out (setCell_out wr gb (i) (.int .u8 r0)) (fun z hz => by rw [hz]; exact HGB.out) hU.out.size)⟩
            case measure => simp [intOf]
          · have hcell : wr.cell? ⟨gb, i + 1, none⟩ = some (.int .u8 x1) := hO.out.cellAt (j := i + 1) (by have := H1.out; simp [setL, this])
            have hfr : wr.frozen? ⟨gb, i + 1, none⟩ = false := hO.out.frozenAt (i + 1)
            go_wp2_with fail
            go_roundw
            case rel => exact ⟨2, by omega, rfl, Lib.hid (hO.out.stored (i + 1) r1), Lib.hid (Below.out hU.out (setCell_out wr gb (i + 1) (.int .u8 r1)) (fun z hz => by rw [hz]; exact HGB.out) hU.out.size)⟩
            case measure => simp [intOf]
          · have hcell : wr.cell? ⟨gb, i + 2, none⟩ = some (.int .u8 x2) := hO.out.cellAt (j := i + 2) (by have := H2.out; simp [setL, this])
            have hfr : wr.frozen? ⟨gb, i + 2, none⟩ = false := hO.out.frozenAt (i + 2)
            go_wp2_with fail
            go_roundw
            case rel => exact ⟨3, by omega, rfl, Lib.hid (hO.out.stored (i + 2) r2), Lib.hid (Below.out hU.out (setCell_out wr gb (i + 2) (.int .u8 r2)) (fun z hz => by rw [hz]; exact HGB.out) hU.out.size)⟩
            case measure => simp [intOf]
          · have hcell : wr.cell? ⟨gb, i + 3, none⟩ = some (.int .u8 x3) := hO.out.cellAt (j := i + 3) (by have := H3.out; simp [setL, this])
            have hfr : wr.frozen? ⟨gb, i + 3, none⟩ = false := hO.out.frozenAt (i + 3)
            go_wp2_with fail
            go_roundw
            case rel => exact ⟨4, by omega, rfl, Lib.hid (hO.out.stored (i + 3) r3), Lib.hid (Below.out hU.out (setCell_out wr gb (i + 3) (.int .u8 r3)) (fun z hz => by rw [hz]; exact HGB.out) hU.out.size)⟩
            case measure => simp [intOf]
          · have HYS := Lib.hid (show setL xs i ([r0, r1, r2, r3].take 4) = xs.take i ++ (turn4 [x0, x1, x2, x3] S ++ xs.drop (i + 4)) from by
              rw [HT4.out]
              exact setL_cut xs [r0, r1, r2, r3] i (by rw [HXL.out]; simp; try omega))
            have HBY2 := Lib.hid (show Byt (xs.take i ++ ([x0, x1, x2, x3] ++ xs.drop (i + 4))) by rw [← HXC.out]; exact HBY.out)
            have HL2 := Lib.hid (show (xs.take i ++ (turn4 [x0, x1, x2, x3] S ++ xs.drop (i + 4))).length = 40 by simp [turn4_length, HXL.out]; try omega)
            have HTO := Lib.hid (show Cr.opn key (xs.take i ++ (turn4 [x0, x1, x2, x3] S ++ xs.drop (i + 4))) = (Cr.zero, 5) from by
              rw [HXS.out]
              exact turn_mid key x i S [x0, x1, x2, x3] hi32 rfl hS HS0.out (by rw [← HXS.out]; exact HXC.out) (by rw [← HXS.out]; exact HL2.out))
            have HB2 := Lib.hid (show Byt (xs.take i ++ (turn4 [x0, x1, x2, x3] S ++ xs.drop (i + 4))) from (byt_of_app HBY2.out).1.append ((byt_turn4 (byt_of_app (byt_of_app HBY2.out).2).1).append (byt_of_app (byt_of_app HBY2.out).2).2))
            have HO2 := Lib.hid (show OwnI .u8 5 w.heap.size wr (some ⟨gb, 0, none⟩) 40 c2 (xs.take i ++ (turn4 [x0, x1, x2, x3] S ++ xs.drop (i + 4))) by rw [← HYS.out]; exact hO.out)
            generalize xs.take i ++ (turn4 [x0, x1, x2, x3] S ++ xs.drop (i + 4)) = ys at HTO HL2 HB2 HO2
            clear v0 v1 v2 v3
            go_wp2_with fail
            refine (open_any key (some ⟨gb, 0, none⟩) 40 c2 ys wr (own_inB HO2.out HB2.out) (by omega)).mono ?_
            rintro e w7 ⟨he, hu7⟩
            rw [HTO.out] at he
            have HU7 := Lib.hid (hU.out.trans hu7.out)
            clear hu7
            simp only [Cr.val, Cr.cells, Cr.zero] at he
            subst he
            go_upto_region 12 with (fail)
            have HB8 := Lib.hid (new_at w7 (.cells #[.int .i64 0, .int .u32 0, .int .u32 0, .int .u32 0, .int .u32 0, .int .u32 0, .int .u32 0, .int .u32 0] 25))
            have HU8 := Lib.hid (HU7.out.trans (up_alloc w7 (.cells #[.int .i64 0, .int .u32 0, .int .u32 0, .int .u32 0, .int .u32 0, .int .u32 0, .int .u32 0, .int .u32 0] 25)))
            generalize w7.alloc (.cells #[.int .i64 0, .int .u32 0, .int .u32 0, .int .u32 0, .int .u32 0, .int .u32 0, .int .u32 0, .int .u32 0] 25) = w8 at HB8 HU8 ⊢
            generalize w7.heap.size = zz at HB8 ⊢
            have y0 : w8.cell? ⟨zz, 0, none⟩ = some (.int .i64 0) := cell_of HB8.out rfl
            have y1 : w8.cell? ⟨zz, 1, none⟩ = some (.int .u32 0) := cell_of HB8.out rfl
            have y2 : w8.cell? ⟨zz, 2, none⟩ = some (.int .u32 0) := cell_of HB8.out rfl
            have y3 : w8.cell? ⟨zz, 3, none⟩ = some (.int .u32 0) := cell_of HB8.out rfl
            have y4 : w8.cell? ⟨zz, 4, none⟩ = some (.int .u32 0) := cell_of HB8.out rfl
            have y5 : w8.cell? ⟨zz, 5, none⟩ = some (.int .u32 0) := cell_of HB8.out rfl
            have y6 : w8.cell? ⟨zz, 6, none⟩ = some (.int .u32 0) := cell_of HB8.out rfl
            have y7 : w8.cell? ⟨zz, 7, none⟩ = some (.int .u32 0) := cell_of HB8.out rfl
            go_wp2_with fail
            go_ret
            exact ⟨by simp, HU8⟩
end Go.Proofs.Ytdlgdlgpmfccmaa
