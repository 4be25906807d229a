import Derived.Test.YtdlgdlgpmfccmaaCo0
namespace Go.Proofs.Ytdlgdlgpmfccmaa
open Go Go.RowKit
set_option linter.unusedVariables false
set_option linter.unusedSimpArgs false
/-! cookie.Seal. -/
namespace Cr
def nums (x : Cr) : List Int := [x.a, x.b, x.c, x.d, x.e, x.f, x.g]
/-- The first bytes: the time and j numbers. -/
def pre (x : Cr) : Nat → List Int
  | 0 => be x.t 8
  | j + 1 => pre x j ++ be (x.nums.getD j 0) 4
theorem pre_length (x : Cr) (j : Nat) : (x.pre j).length = 8 + 4 * j := by
  induction j with
  | zero => simp [pre, be_length]
  | succ j ih => simp [pre, be_length, ih]; omega
theorem byt_pre (x : Cr) (j : Nat) : Byt (x.pre j) := by
  induction j with
  | zero => exact be_byt _ _
  | succ j ih => exact ih.append (be_byt _ _)
theorem pre_body (x : Cr) : x.pre 7 = x.body := rfl
end Cr
def SealRes (key : Int) (x : Cr) (ys : List Int) (k : Int) : Prop := (x.fit ∧ ys = Cr.enc key x ∧ k = 0) ∨ (¬ x.fit ∧ ys = [] ∧ k = 1)
def SealPost (key : Int) (x : Cr) (w : World) (e : Ending) (w' : World) : Prop := ∃ ys k A N c, e = .returned (.tuple #[.slice A N c, .int .i64 k]) ∧ Hid (SealRes key x ys k) ∧ Hid (N = ys.length) ∧ Hid (OwnI .u8 5 w.heap.size w' A N c ys) ∧ Hid (Up w w')
set_option maxRecDepth 100000 in
set_option maxHeartbeats 4000000 in
theorem seal_any (key : Int) (x : Cr) (w : World) (hx : x.Ok) : Calls Try.prog 7 #[.int .u64 key, x.val] w (SealPost key x w) := by
  have HX := Lib.hid hx
  have HN := Lib.hid (show CrAt (w.alloc (.cells #[.int .i64 x.t, .int .u32 x.a, .int .u32 x.b, .int .u32 x.c, .int .u32 x.d, .int .u32 x.e, .int .u32 x.f, .int .u32 x.g] 25)) w.heap.size x from crAt_new w x)
  have HU := Lib.hid (up_alloc w (.cells #[.int .i64 x.t, .int .u32 x.a, .int .u32 x.b, .int .u32 x.c, .int .u32 x.d, .int .u32 x.e, .int .u32 x.f, .int .u32 x.g] 25))
  have HV := Lib.hid (show Cr.val x = .agg #[.int .i64 x.t, .int .u32 x.a, .int .u32 x.b, .int .u32 x.c, .int .u32 x.d, .int .u32 x.e, .int .u32 x.f, .int .u32 x.g] from rfl)
  clear hx
  rw [HV.out]
  go_enter Try.func7, Try.ntmps7
  go_upto_region 1 with (fail)
  generalize hwa : w.alloc (.cells #[.int .i64 x.t, .int .u32 x.a, .int .u32 x.b, .int .u32 x.c, .int .u32 x.d, .int .u32 x.e, .int .u32 x.f, .int .u32 x.g] 25) = wa at HN HU ⊢
  generalize hqq : w.heap.size = q at HN ⊢
  have HQ := Lib.hid hqq
  clear hwa hqq
  have HC := Lib.hid (show wa.heap[q]? = some (.cells #[.int .i64 x.t, .int .u32 x.a, .int .u32 x.b, .int .u32 x.c, .int .u32 x.d, .int .u32 x.e, .int .u32 x.f, .int .u32 x.g] 25 (0, 0)) from HN.out)
  have c0 : wa.cell? ⟨q, 0, none⟩ = some (.int .i64 x.t) := cell_of HC.out rfl
  have c1 : wa.cell? ⟨q, 1, none⟩ = some (.int .u32 x.a) := cell_of HC.out rfl
  have c2 : wa.cell? ⟨q, 2, none⟩ = some (.int .u32 x.b) := cell_of HC.out rfl
  have c3 : wa.cell? ⟨q, 3, none⟩ = some (.int .u32 x.c) := cell_of HC.out rfl
  have c4 : wa.cell? ⟨q, 4, none⟩ = some (.int .u32 x.d) := cell_of HC.out rfl
  have c5 : wa.cell? ⟨q, 5, none⟩ = some (.int .u32 x.e) := cell_of HC.out rfl
  have c6 : wa.cell? ⟨q, 6, none⟩ = some (.int .u32 x.f) := cell_of HC.out rfl
  have c7 : wa.cell? ⟨q, 7, none⟩ = some (.int .u32 x.g) := cell_of HC.out rfl
  go_wp2_with fail
  rw [← HV.out]
  refine (may_any x wa).mono ?_
  rintro e w1 ⟨rfl, hu1⟩
  have HU1 := Lib.hid (HU.out.trans hu1.out)
  have HN1 := Lib.hid (HN.out.up hu1.out)
  clear hu1 c0 c1 c2 c3 c4 c5 c6 c7 HC
  have c0 : w1.cell? ⟨q, 0, none⟩ = some (.int .i64 x.t) := cell_of HN1.out rfl
  by_cases hf : x.fit
  case neg =>
    have HF := Lib.hid hf
    rw [decide_eq_false hf]
    clear hf
    go_wp2_with fail
    go_ret2
    exact ⟨[], 1, none, 0, 0, rfl, Lib.hid (.inr ⟨HF.out, rfl, rfl⟩), Lib.hid rfl, Lib.hid (ownI_nil _ _ _ _), HU1⟩
  have HF := Lib.hid hf
  rw [decide_eq_true hf]
  have t0 := hf.1.1
  have t1 := hf.1.2
  clear hf
  go_wp2_with fail
  refine (put_any none 0 0 8 [] x.t w1 (inB_nil w1) (by omega) (by omega) (by omega)).mono ?_
  rintro e w2 ⟨A2, N2, d2, rfl, hN2, hO2, hu2⟩
  obtain rfl : N2 = 8 := by rw [hN2]; simp [be_length]
  rw [List.nil_append] at hO2
  have HO2 := Lib.hid (hO2.base HU1.out.size)
  have HU2 := Lib.hid (HU1.out.trans hu2)
  have HN2 := Lib.hid (HN1.out.up hu2)
  clear hO2 hu2 hN2 c0 t0 t1
  go_wp2_with fail
  refine (behind_any q w2).mono ?_
  rintro e w3 ⟨rfl, hu3⟩
  unfold ptr
  have HO3 := Lib.hid (HO2.out.up hu3.out)
  have HU3 := Lib.hid (HU2.out.trans hu3.out)
  have HN3 := Lib.hid (HN2.out.up hu3.out)
  clear hu3
  go_wp2_with fail
  go_loopw [6, 17] (fun v i wr => ∃ (j : Nat) (A : Option Addr) (N d : Nat), j ≤ 7 ∧ i = .int .i64 j ∧ v = .slice A N d ∧ Hid (N = 8 + 4 * j) ∧ Hid (OwnI .u8 5 w.heap.size wr A N d (x.pre j)) ∧ Hid (Up w wr) ∧ Hid (CrAt wr q x)) (fun _ i _ => 7 - (intOf i).toNat)
  case atStart => exact ⟨0, A2, 8, d2, Nat.zero_le _, rfl, rfl, Lib.hid rfl, HO3, HU3, HN3⟩
  case round =>
    obtain ⟨j, A, N, d, hj, rfl, rfl, hN, hO, hU, hC⟩ := hrel
    by_cases hlt : j < 7
    · obtain rfl | rfl | rfl | rfl | rfl | rfl | rfl : j = 0 ∨ j = 1 ∨ j = 2 ∨ j = 3 ∨ j = 4 ∨ j = 5 ∨ j = 6 := by omega
      · have hc : wr.cell? ⟨q, 1, none⟩ = some (.int .u32 x.a) := cell_of hC.out rfl
        have b0 := HX.out.a.1
        have b1 := HX.out.a.2
        obtain rfl : N = 8 := hN.out
        have hix : ∀ w, (Instr.index 42 (.agg #[.pointer (some ⟨q, 1, none⟩), .pointer (some ⟨q, 2, none⟩), .pointer (some ⟨q, 3, none⟩), .pointer (some ⟨q, 4, none⟩), .pointer (some ⟨q, 5, none⟩), .pointer (some ⟨q, 6, none⟩), .pointer (some ⟨q, 7, none⟩)]) (.int .i64 0)).run Try.prog w = .ok (.pointer (some ⟨q, 1, none⟩)) w := fun w => index_arr _ rfl 0 _ rfl _ rfl w
        go_wp2_with fail
        refine (put_any A 8 d 4 (x.pre 0) x.a wr (own_inB hO.out (x.byt_pre 0)) (by omega) (by omega) (by omega)).mono ?_
        rintro e w5 ⟨A5, N5, d5, rfl, hN5, hO5, hu5⟩
        obtain rfl : N5 = 12 := by rw [hN5]; simp [be_length, Cr.pre_length]
        have HO5 := Lib.hid (show OwnI .u8 5 w.heap.size w5 A5 12 d5 (x.pre 1) from hO5.base hU.out.size)
        have HU5 := Lib.hid (hU.out.trans hu5)
        have HC5 := Lib.hid (hC.out.up hu5)
        clear hO5 hu5 hN5 hc b0 b1
        go_wp2_with fail
        go_roundw
        case rel => exact ⟨1, A5, 12, d5, by omega, rfl, rfl, Lib.hid rfl, HO5, HU5, HC5⟩
        case measure => simp [intOf]
      · have hc : wr.cell? ⟨q, 2, none⟩ = some (.int .u32 x.b) := cell_of hC.out rfl
        have b0 := HX.out.b.1
        have b1 := HX.out.b.2
        obtain rfl : N = 12 := hN.out
        have hix : ∀ w, (Instr.index 42 (.agg #[.pointer (some ⟨q, 1, none⟩), .pointer (some ⟨q, 2, none⟩), .pointer (some ⟨q, 3, none⟩), .pointer (some ⟨q, 4, none⟩), .pointer (some ⟨q, 5, none⟩), .pointer (some ⟨q, 6, none⟩), .pointer (some ⟨q, 7, none⟩)]) (.int .i64 1)).run Try.prog w = .ok (.pointer (some ⟨q, 2, none⟩)) w := fun w => index_arr _ rfl 1 _ rfl _ rfl w
        go_wp2_with fail
        refine (put_any A 12 d 4 (x.pre 1) x.b wr (own_inB hO.out (x.byt_pre 1)) (by omega) (by omega) (by omega)).mono ?_
        rintro e w5 ⟨A5, N5, d5, rfl, hN5, hO5, hu5⟩
        obtain rfl : N5 = 16 := by rw [hN5]; simp [be_length, Cr.pre_length]
        have HO5 := Lib.hid (show OwnI .u8 5 w.heap.size w5 A5 16 d5 (x.pre 2) from hO5.base hU.out.size)
        have HU5 := Lib.hid (hU.out.trans hu5)
        have HC5 := Lib.hid (hC.out.up hu5)
        clear hO5 hu5 hN5 hc b0 b1
        go_wp2_with fail
        go_roundw
        case rel => exact ⟨2, A5, 16, d5, by omega, rfl, rfl, Lib.hid rfl, HO5, HU5, HC5⟩
        case measure => simp [intOf]
      · have hc : wr.cell? ⟨q, 3, none⟩ = some (.int .u32 x.c) := cell_of hC.out rfl
        have b0 := HX.out.c.1
        have b1 := HX.out.c.2
        obtain rfl : N = 16 := hN.out
        have hix : ∀ w, (Instr.index 42 (.agg #[.pointer (some ⟨q, 1, none⟩), .pointer (some ⟨q, 2, none⟩), .pointer (some ⟨q, 3, none⟩), .pointer (some ⟨q, 4, none⟩), .pointer (some ⟨q, 5, none⟩), .pointer (some ⟨q, 6, none⟩), .pointer (some ⟨q, 7, none⟩)]) (.int .i64 2)).run Try.prog w = .ok (.pointer (some ⟨q, 3, none⟩)) w := fun w => index_arr _ rfl 2 _ rfl _ rfl w
        go_wp2_with fail
        refine (put_any A 16 d 4 (x.pre 2) x.c wr (own_inB hO.out (x.byt_pre 2)) (by omega) (by omega) (by omega)).mono ?_
        rintro e w5 ⟨A5, N5, d5, rfl, hN5, hO5, hu5⟩
        obtain rfl : N5 = 20 := by rw [hN5]; simp [be_length, Cr.pre_length]
        have HO5 := Lib.hid (show OwnI .u8 5 w.heap.size w5 A5 20 d5 (x.pre 3) from hO5.base hU.out.size)
        have HU5 := Lib.hid (hU.out.trans hu5)
        have HC5 := Lib.hid (hC.out.up hu5)
        clear hO5 hu5 hN5 hc b0 b1
        go_wp2_with fail
        go_roundw
        case rel => exact ⟨3, A5, 20, d5, by omega, rfl, rfl, Lib.hid rfl, HO5, HU5, HC5⟩
        case measure => simp [intOf]
      · have hc : wr.cell? ⟨q, 4, none⟩ = some (.int .u32 x.d) := cell_of hC.out rfl
        have b0 := HX.out.d.1
        have b1 := HX.out.d.2
        obtain rfl : N = 20 := hN.out
        have hix : ∀ w, (Instr.index 42 (.agg #[.pointer (some ⟨q, 1, none⟩), .pointer (some ⟨q, 2, none⟩), .pointer (some ⟨q, 3, none⟩), .pointer (some ⟨q, 4, none⟩), .pointer (some ⟨q, 5, none⟩), .pointer (some ⟨q, 6, none⟩), .pointer (some ⟨q, 7, none⟩)]) (.int .i64 3)).run Try.prog w = .ok (.pointer (some ⟨q, 4, none⟩)) w := fun w => index_arr _ rfl 3 _ rfl _ rfl w
        go_wp2_with fail
        refine (put_any A 20 d 4 (x.pre 3) x.d wr (own_inB hO.out (x.byt_pre 3)) (by omega) (by omega) (by omega)).mono ?_
        rintro e w5 ⟨A5, N5, d5, rfl, hN5, hO5, hu5⟩
        obtain rfl : N5 = 24 := by rw [hN5]; simp [be_length, Cr.pre_length]
        have HO5 := Lib.hid (show OwnI .u8 5 w.heap.size w5 A5 24 d5 (x.pre 4) from hO5.base hU.out.size)
        have HU5 := Lib.hid (hU.out.trans hu5)
        have HC5 := Lib.hid (hC.out.up hu5)
        clear hO5 hu5 hN5 hc b0 b1
        go_wp2_with fail
        go_roundw
        case rel => exact ⟨4, A5, 24, d5, by omega, rfl, rfl, Lib.hid rfl, HO5, HU5, HC5⟩
        case measure => simp [intOf]
      · have hc : wr.cell? ⟨q, 5, none⟩ = some (.int .u32 x.e) := cell_of hC.out rfl
        have b0 := HX.out.e.1
        have b1 := HX.out.e.2
        obtain rfl : N = 24 := hN.out
        have hix : ∀ w, (Instr.index 42 (.agg #[.pointer (some ⟨q, 1, none⟩), .pointer (some ⟨q, 2, none⟩), .pointer (some ⟨q, 3, none⟩), .pointer (some ⟨q, 4, none⟩), .pointer (some ⟨q, 5, none⟩), .pointer (some ⟨q, 6, none⟩), .pointer (some ⟨q, 7, none⟩)]) (.int .i64 4)).run Try.prog w = .ok (.pointer (some ⟨q, 5, none⟩)) w := fun w => index_arr _ rfl 4 _ rfl _ rfl w
        go_wp2_with fail
        refine (put_any A 24 d 4 (x.pre 4) x.e wr (own_inB hO.out (x.byt_pre 4)) (by omega) (by omega) (by omega)).mono ?_
        rintro e w5 ⟨A5, N5, d5, rfl, hN5, hO5, hu5⟩
        obtain rfl : N5 = 28 := by rw [hN5]; simp [be_length, Cr.pre_length]
        have HO5 := Lib.hid (show OwnI .u8 5 w.heap.size w5 A5 28 d5 (x.pre 5) from hO5.base hU.out.size)
        have HU5 := Lib.hid (hU.out.trans hu5)
        have HC5 := Lib.hid (hC.out.up hu5)
        clear hO5 hu5 hN5 hc b0 b1
        go_wp2_with fail
        go_roundw
        case rel => exact ⟨5, A5, 28, d5, by omega, rfl, rfl, Lib.hid rfl, HO5, HU5, HC5⟩
        case measure => simp [intOf]
      · have hc : wr.cell? ⟨q, 6, none⟩ = some (.int .u32 x.f) := cell_of hC.out rfl
        have b0 := HX.out.f.1
        have b1 := HX.out.f.2
        obtain rfl : N = 28 := hN.out
        have hix : ∀ w, (Instr.index 42 (.agg #[.pointer (some ⟨q, 1, none⟩), .pointer (some ⟨q, 2, none⟩), .pointer (some ⟨q, 3, none⟩), .pointer (some ⟨q, 4, none⟩), .pointer (some ⟨q, 5, none⟩), .pointer (some ⟨q, 6, none⟩), .pointer (some ⟨q, 7, none⟩)]) (.int .i64 5)).run Try.prog w = .ok (.pointer (some ⟨q, 6, none⟩)) w := fun w => index_arr _ rfl 5 _ rfl _ rfl w
        go_wp2_with fail
        refine (put_any A 28 d 4 (x.pre 5) x.f wr (own_inB hO.out (x.byt_pre 5)) (by omega) (by omega) (by omega)).mono ?_
        rintro e w5 ⟨A5, N5, d5, rfl, hN5, hO5, hu5⟩
        obtain rfl : N5 = 32 := by rw [hN5]; simp [be_length, Cr.pre_length]
        have HO5 := Lib.hid (show OwnI .u8 5 w.heap.size w5 A5 32 d5 (x.pre 6) from hO5.base hU.out.size)
        have HU5 := Lib.hid (hU.out.trans hu5)
        have HC5 := Lib.hid (hC.out.up hu5)
        clear hO5 hu5 hN5 hc b0 b1
        go_wp2_with fail
        go_roundw
        case rel => exact ⟨6, A5, 32, d5, by omega, rfl, rfl, Lib.hid rfl, HO5, HU5, HC5⟩
        case measure => simp [intOf]
      · have hc : wr.cell? ⟨q, 7, none⟩ = some (.int .u32 x.g) := cell_of hC.out rfl
        have b0 := HX.out.g.1
        have b1 := HX.out.g.2
        obtain rfl : N = 32 := hN.out
        have hix : ∀ w, (Instr.index 42 (.agg #[.pointer (some ⟨q, 1, none⟩), .pointer (some ⟨q, 2, none⟩), .pointer (some ⟨q, 3, none⟩), .pointer (some ⟨q, 4, none⟩), .pointer (some ⟨q, 5, none⟩), .pointer (some ⟨q, 6, none⟩), .pointer (some ⟨q, 7, none⟩)]) (.int .i64 6)).run Try.prog w = .ok (.pointer (some ⟨q, 7, none⟩)) w := fun w => index_arr _ rfl 6 _ rfl _ rfl w
        go_wp2_with fail
        refine (put_any A 32 d 4 (x.pre 6) x.g wr (own_inB hO.out (x.byt_pre 6)) (by omega) (by omega) (by omega)).mono ?_
        rintro e w5 ⟨A5, N5, d5, rfl, hN5, hO5, hu5⟩
        obtain rfl : N5 = 36 := by rw [hN5]; simp [be_length, Cr.pre_length]
        have HO5 := Lib.hid (show OwnI .u8 5 w.heap.size w5 A5 36 d5 (x.pre 7) from hO5.base hU.out.size)
        have HU5 := Lib.hid (hU.out.trans hu5)
        have HC5 := Lib.hid (hC.out.up hu5)
        clear hO5 hu5 hN5 hc b0 b1
        go_wp2_with fail
        go_roundw
        case rel => exact ⟨7, A5, 36, d5, by omega, rfl, rfl, Lib.hid rfl, HO5, HU5, HC5⟩
        case measure => simp [intOf]
    · obtain rfl : j = 7 := by omega
      obtain rfl : N = 36 := hN.out
      have HB := Lib.hid (show InB wr A 36 d x.body from own_inB hO.out (x.byt_pre 7))
      go_wp2_with fail
      refine (csum_any key A 36 d x.body wr HB.out (by omega)).mono ?_
      rintro e w5 ⟨rfl, hu5⟩
      have HU5 := Lib.hid (hU.out.trans hu5)
      have HB5 := Lib.hid (HB.out.up hu5)
      clear hu5
      go_wp2_with fail
      refine (put_any A 36 d 4 x.body _ w5 HB5.out (by omega) (by omega) (by omega)).mono ?_
      rintro e w6 ⟨A6, N6, d6, rfl, hN6, hO6, hu6⟩
      have HU6 := Lib.hid (HU5.out.trans hu6)
      have HO6 := Lib.hid (hO6.base HU5.out.size)
      have HN6 := Lib.hid hN6
      clear hO6 hu6 hN6
      go_wp2_with fail
      go_ret2
      exact ⟨Cr.enc key x, 0, A6, N6, d6, rfl, Lib.hid (.inl ⟨HF.out, rfl, rfl⟩), HN6, HO6, HU6⟩
end Go.Proofs.Ytdlgdlgpmfccmaa
