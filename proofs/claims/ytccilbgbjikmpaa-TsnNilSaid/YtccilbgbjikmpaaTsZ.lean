import Derived.Test.YtccilbgbjikmpaaTsC
import Derived.Test.YtccilbgbjikmpaaTsL1
import Derived.Test.YtccilbgbjikmpaaTsX
import Derived.Test.YtccilbgbjikmpaaCk39
namespace Go.Proofs.Ytccilbgbjikmpaa
open Go Go.RowKit
set_option linter.unusedVariables false
set_option linter.unusedSimpArgs false
/-! The law TsnNil. -/
theorem zeroD_eq : decide (Ck.zeroD = Ck.zeroD) = true := by simp
/-- A write elsewhere leaves the track. -/
theorem TAt.write {w : World} {pb : Nat} {mo : Option Nat} {C : Nat} {A : List Nat} (h : TAt w pb mo none 0 C A []) {q j : Nat} {v : Value} {cs : Array Value} {E : TypeId} (hq : w.heap[q]? = some (.cells cs E (0, 0))) (hE : E ≠ 50) :
    TAt (w.setCell ⟨q, j, none⟩ v) pb mo none 0 C A [] := h.keep fun k hk => (setCell_out w q j v).block k (h.lt k hk) (fun e => by
  rcases hk with hk | hk | hk
  · rw [← e, hk, h.top] at hq; injection hq with hq; injection hq with _ hq; exact hE hq.symm
  · subst hk
    obtain ⟨E2, ⟨clk, h1, _⟩, _⟩ := h.map
    rw [← e, h1] at hq; cases hq
  · cases hk)
/-- The stretches of one number. -/
theorem good_one {G : List (Int × Int)} {a : Int} (h : Ts.Good G [a]) : G = [(a, a)] := by
  have h1 := h.fl
  have h2 := h.len
  match G, h1, h2, h.ok with
  | [], h1, _, _ => simp [Ts.flat] at h1
  | [(x, y)], h1, _, ho =>
    have ho := ho (x, y) (by simp)
    simp only at ho
    have hl := congrArg List.length h1
    simp only [Ts.flat, List.flatMap_cons, List.flatMap_nil, List.append_nil, run1_len, List.length_singleton] at hl
    have hxy : y = x := by omega
    subst hxy
    rw [Ts.flat, List.flatMap_cons, List.flatMap_nil, List.append_nil, Ts.run1_one] at h1
    simp at h1
    rw [h1]
  | _ :: _ :: _, _, h2, _ => simp at h2
theorem blk_ownG {w : World} {base : Nat} {E : TypeId} {s n c g : Nat} {xs : List Value} (h : w.ownsRow base E s (.slice (some ⟨g, 0, none⟩) n c) n xs) : ∃ cs, w.heap[g]? = some (.cells cs E (0, 0)) := by
  rcases h.2 with ⟨h2, _⟩ | ⟨g', cap, cur, hv, _, hh, _⟩
  · cases h2
  · injection hv with hv; injection hv with hv; injection hv with hv; subst hv; exact ⟨cur, hh⟩
theorem eq43 (W : World) : (binOp .eql 43 (.agg #[.int .u16 3, .int .u16 3]) (.agg #[.int .u16 3, .int .u16 3])).run Try.prog W = .ok (.bool true) W := by kernel_rfl
set_option maxRecDepth 100000 in
set_option maxHeartbeats 4000000 in
theorem law_nil (f x : Int) (w : World) (hf : 0 ≤ f ∧ f < 4294967296) (hx : 0 ≤ x ∧ x < 4294967296) : Calls Try.prog 6 #[.int .u32 f, .int .u32 x] w (RetB true w) := by
  obtain ⟨hf0, hf1⟩ := hf
  obtain ⟨F, hF⟩ : ∃ F : Nat, F = f.toNat + 4294967296 := ⟨_, rfl⟩
  have HF := Lib.hid hF
  obtain ⟨x2, hx2⟩ : ∃ x2, IntKind.u32.wrap (f + 2) = x2 := ⟨_, rfl⟩
  have HX2 := Lib.hid (show x2 = key (F + 2) by rw [← hx2, IntKind.wrap_u32']; unfold key; omega)
  have HFM := Lib.hid (show IntKind.u32.wrap (f - 1) = key (F - 1) by rw [IntKind.wrap_u32']; unfold key; omega)
  have HSD := Lib.hid (fun W => (show Calls Try.prog 14 #[.agg #[.int .u32 0, .int .u32 0, .slice none 0 0, .slice none 0 0], .agg #[.int .u32 0, .int .u32 0, .slice none 0 0, .slice none 0 0]] W (RetB true W) from by
    have h := sameD Ck.zeroD Ck.zeroD none none none none 0 0 0 0 0 0 0 0 W ⟨Cells.nil _ _, fun _ h => absurd h (by simp [Ck.zeroD]), Nat.le_refl _, rfl⟩ ⟨Cells.nil _ _, fun _ h => absurd h (by simp [Ck.zeroD]), Nat.le_refl _, rfl⟩ ⟨Cells.nil _ _, fun _ h => absurd h (by simp [Ck.zeroD]), Nat.le_refl _, rfl⟩ ⟨Cells.nil _ _, fun _ h => absurd h (by simp [Ck.zeroD]), Nat.le_refl _, rfl⟩ (by omega) (by omega) (by omega) (by omega)
    rw [zeroD_eq] at h
    exact h))
  clear hF
  go_enter Try.func6, Try.ntmps6
  go_wp2_with fail
  refine (answers_ok w).mono ?_
  rintro e w1 ⟨rfl, hu1⟩
  go_wp2_with fail
  refine (got_nil x w1).mono ?_
  rintro e w' ⟨rfl, rfl⟩
  go_wp2_with fail
  refine (cum_nil w1).mono ?_
  rintro e w' ⟨rfl, rfl⟩
  go_wp2_with fail
  refine (ahead_nil w1).mono ?_
  rintro e w' ⟨rfl, rfl⟩
  go_wp2_with fail
  refine (tell_nil 3 w1).mono ?_
  rintro e w2 ⟨rfl, hu2⟩
  have HU2 := Lib.hid (show Up w w2 from hu1.out.trans hu2)
  clear hu1 hu2
  unfold heV
  go_wp2_with fail
  refine (HSD.out w2).mono ?_
  rintro e w3 ⟨rfl, hu3⟩
  have HU3 := Lib.hid (show Up w w3 from HU2.out.trans hu3.out)
  clear hu3 HU2 HSD
  go_wp2_with fail
  refine (new_t f w3 hf0 hf1).mono ?_
  rintro e w4 ⟨pb, rfl, hT, hu⟩
  rw [show f.toNat + 4294967295 = F - 1 by have := HF.out; omega] at hT
  obtain ⟨Bz, hBz⟩ : ∃ Bz, Bz = w3.heap.size := ⟨_, rfl⟩
  rw [← hBz] at hT
  have HT4 := Lib.hid hT
  have HBZ := Lib.hid hBz
  have HU4 := Lib.hid (show Up w w4 from HU3.out.trans hu)
  have HZ4 := Lib.hid (show Bz ≤ w4.heap.size by rw [hBz]; exact hu.size)
  clear hT hu hBz
  go_wp2_with fail
  have HKB := Lib.hid (show 0 ≤ x2 ∧ x2 < 4294967296 by rw [HX2.out]; exact key_bd _)
  refine (got_t Bz pb (F - 1) [] [] x2 w4 HT4.out HKB.out HZ4.out).mono ?_
  rintro e w5 ⟨r, C1, A1, d1, rfl, hg, hT, hb⟩
  rw [HX2.out] at hg
  obtain ⟨rfl, hi, rfl⟩ := GotR.fresh (F := F) (R := []) (X := F + 2) (by
    have h0 := Ts.Inv.start (C := F - 1)
    rwa [show F - 1 + 1 = F by have := HF.out; omega] at h0) (by simp) (by omega) (by omega) hg
  have hc := hi.fix (Y := F) (by omega) (fun y h1 h2 => by omega) (by simp)
  have hA1 : A1 = [F + 2] := by
    have hm : ∀ y, y ∈ A1 ↔ y ∈ [F + 2] := fun y => by rw [hi.up]; simp; omega
    exact List.perm_singleton.1 ((List.perm_ext_iff_of_nodup hT.ok.nd (by simp)).2 hm)
  obtain rfl : C1 = F - 1 := by omega
  subst hA1
  have HT5 := Lib.hid hT
  have HB5 := Lib.hid hb
  have HI5 := Lib.hid hi
  have HZ5 := Lib.hid (Nat.le_trans HZ4.out hb.size)
  clear hg hT hb hi hc
  go_wp2_with fail
  refine (got_t Bz pb (F - 1) [F + 2] [] x2 w5 HT5.out HKB.out HZ5.out).mono ?_
  rintro e w6 ⟨r, C2, A2, d2, rfl, hg, hT, hb⟩
  rw [HX2.out] at hg
  obtain ⟨rfl, rfl, rfl, rfl⟩ := GotR.again HI5.out HT5.out.ok (by simp) (by omega) hg
  have HT6 := Lib.hid hT
  have HU6 := Lib.hid (show Up w w6 from by
    have h1 := HB5.out.trans hb
    exact ⟨h1.os.trans HU4.out.os, h1.tape.trans HU4.out.tape, h1.output.trans HU4.out.output, Nat.le_trans HU4.out.size h1.size, fun q hq => by
      rw [h1.block q (by have := HBZ.out; have := HU3.out.size; omega)]; exact HU4.out.block q hq⟩)
  have HZ6 := Lib.hid (Nat.le_trans HZ5.out hb.size)
  clear hg hT hb HT5 HT4 HB5 HU4 HI5
  go_wp2_with fail
  refine (ahead_t Bz pb (F - 1) [F + 2] _ w6 HT6.out).mono ?_
  rintro e w7 ⟨L, n, B, cB, rfl, hn, hL, hrow, hu⟩
  obtain rfl : L = [F + 2] := List.perm_singleton.1 hL.1
  obtain rfl : n = 1 := hn
  obtain ⟨ga, rfl⟩ := row_at hrow (by omega)
  have hgaz := (row_lt hrow (k := ga) rfl)
  obtain ⟨mo, D, cD, hTA, hOk, hTS⟩ := HT6.out
  have HTA := Lib.hid (hTA.up hu)
  have HOk := Lib.hid hOk
  have HTZ := Lib.hid (fun k (hk : TS pb mo D k) => hTA.lt k hk)
  have HTS := Lib.hid hTS
  have HR7 := Lib.hid hrow
  have HU7 := Lib.hid (show Up w w7 from HU6.out.trans hu)
  have HZ7 := Lib.hid hgaz
  clear hL hrow hu hTA hOk hTS hgaz HT6 HU6
  go_wp2_with fail
  refine (tell_any pb mo D cD (F - 1) [F + 2] _ 1 w7 HTA.out HOk.out (by simp)).mono ?_
  rintro e w8 ⟨L2, G, n2, m2, P, cP, rfl, y1, y2, y3, y4, y5, y6, y7, y8⟩
  obtain rfl : L2 = [F + 2] := List.perm_singleton.1 y4.1
  have hG := good_one (a := 3) (by
    have h : [F + 2].map (dI (F - 1)) = [3] := by simp [dI]; have := HF.out; omega
    rw [← h]; exact y3)
  subst hG
  obtain rfl : n2 = 1 := y1
  obtain rfl : m2 = 1 := y2
  obtain ⟨gp, rfl⟩ := row_at y5 (by omega)
  obtain ⟨gd, rfl⟩ := row_at y6 (by omega)
  have hgp := (row_lt y5 (k := gp) rfl)
  have hgd : gd < w6.heap.size := HTZ.out gd (.inr (.inr rfl))
  have hpb : pb < w6.heap.size := HTZ.out pb (.inl rfl)
  have hr8 : OwnI .u32 22 w6.heap.size w8 (some ⟨ga, 0, none⟩) 1 cB [key (F + 2)] := own_blk HR7.out fun g hg => by
    rw [ownBlock_slice] at hg
    have h1 := HZ7.out
    have h2 : ga = g := by simpa using hg
    exact y8.block g (by omega) (by omega)
  have hu78 : w7.heap.size ≤ w8.heap.size := y8.size
  have HU8 := Lib.hid (show Up w w8 from HU7.out.out_ y8 (fun k hk => by
    rw [hk]
    have h1 := HTS.out pb (.inl rfl)
    have h2 := HBZ.out
    have h3 := HU3.out.size
    omega))
  have HR8 := Lib.hid hr8
  have HP8 := Lib.hid y5
  have HD8 := Lib.hid y6
  have HT8 := Lib.hid y7
  have HGP := Lib.hid hgp
  clear hr8 y3 y4 y5 y6 y7 y8 hgp HR7 HTA HU7
  unfold heV
  go_upto_region 10 with (fail)
  obtain ⟨w9, hw9⟩ : ∃ w9, w9 = w8.alloc (.cells #[.int .u32 (key (F - 1)), .int .u32 1, .slice (some ⟨gp, 0, none⟩) 1 cP, .slice (some ⟨gd, 0, none⟩) 1 cD] 35) := ⟨_, rfl⟩
  have hu9 := up_alloc w8 (.cells #[.int .u32 (key (F - 1)), .int .u32 1, .slice (some ⟨gp, 0, none⟩) 1 cP, .slice (some ⟨gd, 0, none⟩) 1 cD] 35)
  have hq9 := new_at w8 (.cells #[.int .u32 (key (F - 1)), .int .u32 1, .slice (some ⟨gp, 0, none⟩) 1 cP, .slice (some ⟨gd, 0, none⟩) 1 cD] 35)
  rw [← hw9] at hu9 hq9 ⊢
  obtain ⟨hb, hhb⟩ : ∃ hb, hb = w8.heap.size := ⟨_, rfl⟩
  rw [← hhb] at hq9 ⊢
  clear hw9
  have hz1 := HZ7.out
  have hz2 := HGP.out
  have hz3 := HZ6.out
  have hz4 := HBZ.out
  have hz5 := HU3.out.size
  have hgdB := HTS.out gd (.inr (.inr rfl))
  have hrA := OwnI.base (own_up HR8.out hu9) (Nat.zero_le _)
  have hrP := own_up HP8.out hu9
  have hrD := own_up HD8.out hu9
  have hT9 := HT8.out.up hu9
  obtain ⟨csA, hA9⟩ := blk_ownG hrA
  obtain ⟨csP, hP9⟩ := blk_ownG hrP
  obtain ⟨csD, hD9⟩ := blk_ownG hrD
  have cA := OwnI.cellAt hrA (j := 0) (x := key (F + 2)) rfl
  have fA := OwnI.frozenAt hrA 0
  have cP0 := row_cell hrP (j := 0) (v := .int .u16 3) rfl
  have fP0 := World.ownsRow.frozenAt hrP 0
  have cD0 := OwnI.cellAt hrD (j := 0) (x := key (F + 2)) rfl
  have fD0 := OwnI.frozenAt hrD 0
  have q2 := cell_of hq9 (j := 2) rfl
  have q3 := cell_of hq9 (j := 3) rfl
  obtain ⟨w10, hw10⟩ : ∃ w10, w9.setCell ⟨ga, 0, none⟩ (.int .u32 x) = w10 := ⟨_, rfl⟩
  have ho10 := setCell_out w9 ga 0 (.int .u32 x)
  have hT10 := TAt.write (j := 0) (v := .int .u32 x) hT9 hA9 (by decide)
  rw [hw10] at ho10 hT10
  have hP10 := ho10.blk hP9 (by omega)
  have hD10 := ho10.blk hD9 (by omega)
  have hq10 := ho10.blk hq9 (by omega)
  have cP1 := cell_out cP0 ho10 (by show ¬ gp = ga; omega)
  have fP1 := frozen_at (j := 0) hP10
  obtain ⟨w11, hw11⟩ : ∃ w11, w10.setCell ⟨gp, 0, none⟩ (.int .u16 9) = w11 := ⟨_, rfl⟩
  have ho11 := setCell_out w10 gp 0 (.int .u16 9)
  have hT11 := TAt.write (j := 0) (v := .int .u16 9) hT10 hP10 (by decide)
  rw [hw11] at ho11 hT11
  have hD11 := ho11.blk hD10 (by omega)
  have hq11 := ho11.blk hq10 (by omega)
  have cD1 := cell_out (cell_out cD0 ho10 (by show ¬ gd = ga; omega)) ho11 (by show ¬ gd = gp; omega)
  have fD1 := frozen_at (j := 0) hD11
  obtain ⟨w12, hw12⟩ : ∃ w12, w11.setCell ⟨gd, 0, none⟩ (.int .u32 x) = w12 := ⟨_, rfl⟩
  have ho12 := setCell_out w11 gd 0 (.int .u32 x)
  have hT12 := TAt.write (j := 0) (v := .int .u32 x) hT11 hD11 (by decide)
  rw [hw12] at ho12 hT12
  have HU12 := Lib.hid (show Up w w12 from (((HU8.out.trans hu9).out_ ho10 (fun k hk => by rw [hk]; omega)).out_ ho11 (fun k hk => by rw [hk]; omega)).out_ ho12 (fun k hk => by rw [hk]; omega))
  have HT12 := Lib.hid hT12
  have r2 := cell_of hq10 (j := 2) rfl
  have s3 := cell_of hq11 (j := 3) rfl
  have HW10 := Lib.hid hw10
  have HW11 := Lib.hid hw11
  have HW12 := Lib.hid hw12
  have R2 := Lib.hid r2
  have S3 := Lib.hid s3
  have CP1 := Lib.hid cP1
  have FP1 := Lib.hid fP1
  have CD1 := Lib.hid cD1
  have FD1 := Lib.hid fD1
  clear hu9 hq9 hz1 hz2 hz3 hz4 hz5 hgdB hrA hrP hrD hT9 hA9 hP9 hD9 cP0 fP0 cD0 fD0 hw10 ho10 hT10 hP10 hD10 hq10 cP1 fP1 hw11 ho11 hT11 hD11 hq11 cD1 fD1 hw12 ho12 hT12 r2 s3 hhb hgd hpb hu78
  go_upto_region 13 with (fail)
  rw [HW10.out]
  clear cA fA q2 q3
  have r2 := R2.out
  have cP1 := CP1.out
  have fP1 := FP1.out
  go_upto_region 14 with (fail)
  rw [HW11.out]
  clear r2 cP1 fP1
  have s3 := S3.out
  have cD1 := CD1.out
  have fD1 := FD1.out
  go_upto_region 15 with (fail)
  rw [HW12.out]
  clear s3 cD1 fD1
  go_wp2_with fail
  refine (ahead_any pb mo none 0 (F - 1) [F + 2] [] w12 HT12.out HOk.out.near HOk.out.nd).mono ?_
  rintro e w13 ⟨L3, n3, B3, c3, rfl, hn, hL, hrow, hu⟩
  obtain rfl : L3 = [F + 2] := List.perm_singleton.1 hL.1
  obtain rfl : n3 = 1 := hn
  obtain ⟨gb, rfl⟩ := row_at hrow (by omega)
  have HR13 := Lib.hid hrow
  have HT13 := Lib.hid (HT12.out.up hu)
  have HU13 := Lib.hid (show Up w w13 from HU12.out.trans hu)
  have HL12 := Lib.hid (HT12.out.lt pb (.inl rfl))
  clear hL hrow hu
  go_wp2_with fail
  refine (tell_any pb mo none 0 (F - 1) [F + 2] [] 1 w13 HT13.out HOk.out (by simp)).mono ?_
  rintro e w14 ⟨L4, G4, n4, m4, P4, c4, rfl, y1, y2, y3, y4, y5, y6, y7, y8⟩
  obtain rfl : L4 = [F + 2] := List.perm_singleton.1 y4.1
  have hG := good_one (a := 3) (by
    have h : [F + 2].map (dI (F - 1)) = [3] := by simp [dI]; have := HF.out; omega
    rw [← h]; exact y3)
  subst hG
  obtain rfl : n4 = 1 := y1
  obtain rfl : m4 = 0 := y2
  obtain ⟨g4, rfl⟩ := row_at y5 (by omega)
  have hgb := (row_lt HR13.out (k := gb) rfl)
  have hr14 : OwnI .u32 22 w12.heap.size w14 (some ⟨gb, 0, none⟩) 1 c3 [key (F + 2)] := own_blk HR13.out fun g hg => by
    rw [ownBlock_slice] at hg
    have h1 := HL12.out
    have h2 : gb = g := by simpa using hg
    exact y8.block g (by omega) (by omega)
  have HU14 := Lib.hid (show Up w w14 from HU13.out.out_ y8 (fun k hk => by
    rw [hk]
    have h1 := HTS.out pb (.inl rfl)
    have h2 := HBZ.out
    have h3 := HU3.out.size
    omega))
  have HR14 := Lib.hid hr14
  have HP14 := Lib.hid y5
  have HT14 := Lib.hid y7
  clear hr14 y3 y4 y5 y6 y7 y8 hgb
  unfold heV
  go_upto_region 16 with (fail)
  obtain ⟨w15, hw15⟩ : ∃ w15, w15 = w14.alloc (.cells #[.int .u32 (key (F - 1)), .int .u32 1, .slice (some ⟨g4, 0, none⟩) 1 c4, .slice none 0 0] 35) := ⟨_, rfl⟩
  have hu15 := up_alloc w14 (.cells #[.int .u32 (key (F - 1)), .int .u32 1, .slice (some ⟨g4, 0, none⟩) 1 c4, .slice none 0 0] 35)
  have hq15 := new_at w14 (.cells #[.int .u32 (key (F - 1)), .int .u32 1, .slice (some ⟨g4, 0, none⟩) 1 c4, .slice none 0 0] 35)
  rw [← hw15] at hu15 hq15 ⊢
  obtain ⟨h4, hh4⟩ : ∃ h4, h4 = w14.heap.size := ⟨_, rfl⟩
  rw [← hh4] at hq15 ⊢
  have q2 := cell_of hq15 (j := 2) rfl
  have q3 := cell_of hq15 (j := 3) rfl
  have cb := OwnI.cellAt (own_up HR14.out hu15) (j := 0) (x := key (F + 2)) rfl
  rw [← HX2.out] at cb
  have p0 := row_cell (own_up HP14.out hu15) (j := 0) (v := .int .u16 3) rfl
  have p1 := row_cell (own_up HP14.out hu15) (j := 1) (v := .int .u16 3) rfl
  have HT15 := Lib.hid (HT14.out.up hu15)
  have HU15 := Lib.hid (show Up w w15 from HU14.out.trans hu15)
  have heq := eq43
  have hfm := HFM.out
  obtain ⟨kf, hkf⟩ : ∃ kf, kf = key (F - 1) := ⟨_, rfl⟩
  rw [← hkf] at hfm
  have HKF := Lib.hid hkf
  clear hu15 hq15 hw15 hh4 hkf
  go_wp2_with fail
  refine (cum_any pb mo none 0 (F - 1) [F + 2] [] w15 HT15.out).mono ?_
  rintro e w' ⟨rfl, rfl⟩
  rw [← HKF.out]
  go_wp2_with fail
  go_ret
  exact ⟨by simp, HU15⟩
end Go.Proofs.Ytccilbgbjikmpaa
