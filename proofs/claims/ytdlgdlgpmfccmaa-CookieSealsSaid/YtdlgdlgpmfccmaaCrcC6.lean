import Derived.Test.YtdlgdlgpmfccmaaCrcR
namespace Go.Proofs.Ytdlgdlgpmfccmaa
open Go Go.RowKit
set_option linter.unusedVariables false
/-- The maps that a call keeps. -/
structure Maps (w0 w : World) (g h a b : Nat) : Prop where
  up : Up w0 w
  m1 : w.heap[g]? = some (.cells (arr (Crc.col a)) 57 (0, 0))
  m2 : w.heap[h]? = some (.cells (arr (Crc.col b)) 57 (0, 0))
theorem Maps.up' {w0 w w' : World} {g h a b : Nat} (m : Maps w0 w g h a b) (hu : Up w w') : Maps w0 w' g h a b :=
  ⟨m.up.trans hu, (hu.block _ (Array.getElem?_eq_some_iff.1 m.m1).1).trans m.m1, (hu.block _ (Array.getElem?_eq_some_iff.1 m.m2).1).trans m.m2⟩
def slLen : Value → Nat | .slice _ m _ => m | _ => 0
theorem byt_drop {xs : List Int} (h : Byt xs) (n : Nat) : Byt (xs.drop n) := fun x hx => h x (List.mem_of_mem_drop hx)
/-- Four bytes of a slice, and what is behind them. -/
theorem inB_four {w : World} {A : Option Addr} {m c : Nat} {xs : List Int} (h : InB w A m c xs) (h4 : 4 ≤ m) : ∃ (b o x0 x1 x2 x3 : Nat), A = some ⟨b, o, none⟩ ∧ x0 < 256 ∧ x1 < 256 ∧ x2 < 256 ∧ x3 < 256 ∧
    w.cell? ⟨b, o, none⟩ = some (.int .u8 (x0 : Int)) ∧ w.cell? ⟨b, o + 1, none⟩ = some (.int .u8 (x1 : Int)) ∧ w.cell? ⟨b, o + 2, none⟩ = some (.int .u8 (x2 : Int)) ∧ w.cell? ⟨b, o + 3, none⟩ = some (.int .u8 (x3 : Int)) ∧
    nats xs = x0 :: x1 :: x2 :: x3 :: nats (xs.drop 4) ∧ ∀ A', (A' = some ⟨b, o + 4, none⟩ ∨ c = 4) → InB w A' (m - 4) (c - 4) (xs.drop 4) := by
  have hl := h.len
  obtain ⟨b, o, rfl, hlt, hc⟩ := h.cells (by intro e; have := congrArg List.length e; rw [ints_length, List.length_nil] at this; omega)
  match xs, hl, h, hc with
  | y0 :: y1 :: y2 :: y3 :: l, hl, h, hc =>
    have b0 := h.byt y0 (by simp)
    have b1 := h.byt y1 (by simp)
    have b2 := h.byt y2 (by simp)
    have b3 := h.byt y3 (by simp)
    obtain ⟨x0, rfl⟩ := Int.eq_ofNat_of_zero_le b0.1
    obtain ⟨x1, rfl⟩ := Int.eq_ofNat_of_zero_le b1.1
    obtain ⟨x2, rfl⟩ := Int.eq_ofNat_of_zero_le b2.1
    obtain ⟨x3, rfl⟩ := Int.eq_ofNat_of_zero_le b3.1
    have hcap := h.cap
    refine ⟨b, o, x0, x1, x2, x3, rfl, by omega, by omega, by omega, by omega, hc 0 _ rfl, hc 1 _ rfl, hc 2 _ rfl, hc 3 _ rfl, by simp [nats], fun A' hA' => ⟨fun hne => ?_, byt_drop h.byt 4, by omega, by simp at hl ⊢; omega⟩⟩
    rcases hA' with rfl | hc4
    · exact ⟨b, o + 4, rfl, hlt, fun j u hu => by
        have := hc (j + 4) u (by simpa [ints] using hu)
        rwa [show o + 4 + j = o + (j + 4) by omega]⟩
    · exfalso
      simp [ints] at hne hl
      have : l.length = 0 := by omega
      exact hne (List.eq_nil_of_length_eq_zero this)
  | [], hl, h, hc => simp at hl; omega
  | [_], hl, h, hc => simp at hl; omega
  | [_, _], hl, h, hc => simp at hl; omega
  | [_, _, _], hl, h, hc => simp at hl; omega
theorem inv_c {s : Nat} (hs : s < 4294967296) : bits .xor .u32 IntKind.u32.max (s : Int) = ((Crc.inv s : Nat) : Int) := by
  refine (xor_c 4294967295 s IntKind.u32.max s (by omega) hs rfl rfl).trans ?_
  unfold Crc.inv
  rw [Nat.xor_comm]
set_option maxHeartbeats 1000000 in
theorem more_c : CMore := by
  intro A n cap xs s w hs hin hl
  have HIN := Lib.hid hin
  clear hin
  have hi : ((Crc.inv s : Nat) : Int) = 4294967295 - (s : Int) := by rw [Crc.inv_sub hs]; omega
  have hil := Crc.inv_lt hs
  have HI := Lib.hid hi
  clear hi
  go_enter Try.func24, Try.ntmps24
  go_wp2_with fail
  refine (through_c 32 _ (by omega) (by omega)).mono ?_
  rintro e w1 ⟨rfl, u1⟩
  have U1 := Lib.hid u1
  clear u1
  go_wp2_with fail
  refine (through_c 8 _ (by omega) (by omega)).mono ?_
  rintro e w2 ⟨rfl, u2⟩
  have U2 := Lib.hid (U1.out.trans u2)
  clear u2 U1
  go_wp2_with (first
   | (refine wpList_store_row rfl 57 (.tmp 6) (.tmp 12) rfl w2.heap.size (arr (Crc.col 32)) rfl rfl 57 _ (heap_alloc2_old _ _ _) (by rw [arr_size]; kernel_rfl) (by rw [arr_size]; rfl) (arr_one _) ?_)
   | (refine wpList_store_row rfl 57 (.tmp 7) (.tmp 13) rfl (w2.heap.size + 1) (arr (Crc.col 8)) rfl rfl 57 _ ((setRow_other _ _ _ _ (by omega)).trans (heap_alloc2_new _ _ _)) (by rw [arr_size]; kernel_rfl) (by rw [arr_size]; rfl) (arr_one _) ?_))
  have hM : Maps w (((w2.alloc (.cells (arr fun _ => 0) 57)).alloc (.cells (arr fun _ => 0) 57)).setRow w2.heap.size (arr (Crc.col 32)) |>.setRow (w2.heap.size + 1) (arr (Crc.col 8))) w2.heap.size (w2.heap.size + 1) 32 8 := by
    have hs := U2.out.size
    refine ⟨below_setRow (below_setRow ((U2.out.alloc hs _).alloc (by simp; omega) _) hs _) (by omega) _, ?_, ?_⟩
    · rw [setRow_other _ _ _ _ (by omega)]
      exact setRow_heap _ _ _ _ _ _ (heap_alloc2_old _ _ _)
    · exact setRow_heap _ _ _ _ _ _ ((setRow_other _ _ _ _ (by omega)).trans (heap_alloc2_new _ _ _))
  simp only [arr_zero]
  generalize (((w2.alloc (.cells (arr fun _ => 0) 57)).alloc (.cells (arr fun _ => 0) 57)).setRow w2.heap.size (arr (Crc.col 32)) |>.setRow (w2.heap.size + 1) (arr (Crc.col 8))) = w3 at hM ⊢
  generalize w2.heap.size = g at hM ⊢
  have HM := Lib.hid hM
  clear hM
  go_simp
  rw [inv_c hs]
  clear HI
  go_loopw [1, 5] (fun b r wr => ∃ (d m q : Nat) (A' : Option Addr) (c' : Nat), m + d = n ∧ b = .slice A' m c' ∧ r = .int .u32 (q : Int) ∧ q < 4294967296 ∧ Hid (InB wr A' m c' (xs.drop d)) ∧ Hid (Crc.reg q (nats (xs.drop d)) = Crc.reg (Crc.inv s) (nats xs)) ∧ Hid (Maps w wr g (g + 1) 32 8)) (fun b _ _ => slLen b)
  case atStart => exact ⟨0, n, _, A, cap, by omega, rfl, rfl, hil, HIN.out.up HM.out.up, rfl, HM.out⟩
  case round =>
    obtain ⟨d, m, q, A', c', hmd, rfl, rfl, hq, HB, HQ, HW⟩ := hrel
    by_cases h4 : 4 ≤ m
    · obtain ⟨b, o, x0, x1, x2, x3, rfl, k0, k1, k2, k3, cl0, cl1, cl2, cl3, hnx, hrest⟩ := inB_four HB.out h4
      have hf := Crc.four_lt k0 k1 k2 k3
      have hxl : q ^^^ Crc.four x0 x1 x2 x3 < 4294967296 := Nat.xor_lt_two_pow (n := 32) (by omega) (by omega)
      have hx := xor_c q (Crc.four x0 x1 x2 x3) _ _ hq hf rfl rfl
      have h4r := Crc.four_reg q x0 x1 x2 x3 k0 k1 k2
      have HQ2 : Hid (Crc.reg (Crc.shN 32 (q ^^^ Crc.four x0 x1 x2 x3)) (nats (xs.drop (d + 4))) = Crc.reg (Crc.inv s) (nats xs)) := by
        rw [h4r, ← HQ.out, hnx, List.drop_drop]
        exact (Crc.reg_append _ [x0, x1, x2, x3] _).symm
      have HL := Lib.hid (lowest_c b o m c' x0 x1 x2 x3 wr k0 k1 k2 k3 h4 cl0 cl1 cl2 cl3)
      have HR := Lib.hid hrest
      have hcap := HB.out.cap
      clear hnx hrest h4r cl0 cl1 cl2 cl3 HQ hf
      go_wp2_with fail
      refine HL.out.mono ?_
      rintro e w4 ⟨rfl, rfl⟩
      go_wp2_with fail
      refine (of_c 32 _ g wr hxl HW.out.m1).mono ?_
      rintro e w5 ⟨rfl, u5⟩
      have HB5 := Lib.hid fun A' hA' => (HR.out A' hA').up u5
      have HW5 := Lib.hid (HW.out.up' u5)
      have hq5 : Crc.shN 32 (q ^^^ Crc.four x0 x1 x2 x3) < 4294967296 := Crc.shN_lt hxl
      clear u5 HR HB HW hx HL
      by_cases hc4 : c' = 4
      · have HB6 := Lib.hid (HB5.out (some ⟨b, o, none⟩) (.inr hc4))
        have hm4 : m = 4 := by omega
        clear HB5
        subst hm4
        subst hc4
        go_wp2_with fail
        go_roundw
        case rel => exact ⟨d + 4, 0, _, some ⟨b, o, none⟩, 0, by omega, rfl, rfl, hq5, Lib.hid (by have := HB6.out; rw [List.drop_drop] at this; exact this), HQ2, HW5⟩
        case measure => simp [slLen]
      · have HB6 := Lib.hid (HB5.out (some ⟨b, o + 4, none⟩) (.inl rfl))
        clear HB5
        go_wp2_with fail
        go_roundw
        case rel => exact ⟨d + 4, m - 4, _, some ⟨b, o + 4, none⟩, c' - 4, by omega, rfl, rfl, hq5, Lib.hid (by have := HB6.out; rw [List.drop_drop] at this; exact this), HQ2, HW5⟩
        case measure => simp [slLen]; omega
    · have hm3 : m ≤ 3 := by omega
      have hlen := HB.out.len
      generalize xs.drop d = ys at HB HQ hlen
      have hA : m = 0 ∨ ∃ b o, A' = some ⟨b, o, none⟩ ∧ b < wr.heap.size ∧ ∀ j u, (ints .u8 ys)[j]? = some u → wr.cell? ⟨b, o + j, none⟩ = some u := by
        by_cases h0 : m = 0
        · exact .inl h0
        · exact .inr (HB.out.cells (by intro e; have := congrArg List.length e; rw [ints_length, List.length_nil] at this; omega))
      have hbyt := Lib.hid HB.out.byt
      have HLEN := Lib.hid hlen
      clear h4 hlen
      have fin : ∀ r0 : Nat, r0 < 4294967296 → r0 = Crc.reg q (nats ys) → Hid (bits .xor .u32 IntKind.u32.max (r0 : Int) = ((Crc.more s (nats xs) : Nat) : Int)) := fun r0 hr0 e => by
        show _ = _
        rw [inv_c hr0, e, HQ.out]
        rfl
      rcases hA with h0 | ⟨b, o, rfl, hlt, hc⟩
      · subst h0
        obtain rfl : ys = [] := List.eq_nil_of_length_eq_zero HLEN.out
        have HF := fin q hq rfl
        clear fin HQ HLEN
        go_wp2_with fail
        go_loopw [5, 26] (fun r i w9 => r = .int .u32 (q : Int) ∧ i = .int .i64 0 ∧ Up w w9) (fun _ _ _ => 0)
        case atStart => exact ⟨rfl, rfl, HW.out.up⟩
        case round =>
          obtain ⟨rfl, rfl, hu⟩ := hrel
          go_wp2_with fail
          go_ret
          exact ⟨ret_i HF.out, hu⟩
      · have HC := Lib.hid fun (W : World) (hu : Up wr W) j u (h : (ints .u8 ys)[j]? = some u) => (hu.cell (p := ⟨b, o + j, none⟩) hlt).trans (hc j u h)
        have HFIN := Lib.hid fin
        have hmp := HB.out.cap
        clear hc fin HQ HB
        obtain ⟨wo, rfl⟩ : ∃ wo : World, wo = wr := ⟨_, rfl⟩
        go_wp2_with fail
        go_loopw [5, 26] (fun r i w9 => ∃ k q9 : Nat, k ≤ m ∧ r = .int .u32 (q9 : Int) ∧ q9 < 4294967296 ∧ i = .int .i64 k ∧ Hid (q9 = Crc.reg q (nats (ys.take k))) ∧ Hid (Up wo w9)) (fun _ i _ => m - (intOf i).toNat)
        case atStart => exact ⟨0, q, Nat.zero_le _, rfl, hq, rfl, rfl, Up.refl _⟩
        case round =>
          obtain ⟨k, q9, hk, rfl, hq9, rfl, HQ9, HU9⟩ := hrel
          by_cases hlt : k < m
          · obtain ⟨x, hx⟩ : ∃ x, ys[k]? = some x := ⟨ys[k]'(by have := HLEN.out; omega), by simp [HLEN.out, hlt]⟩
            have hxb := hbyt.out x (List.mem_of_getElem? hx)
            obtain ⟨x, rfl⟩ := Int.eq_ofNat_of_zero_le hxb.1
            have hx8 : x < 256 := by omega
            have hcell : wr.cell? ⟨b, o + k, none⟩ = some (.int .u8 x) := HC.out wr HU9.out k _ (by simp [ints, hx])
            have HN := Lib.hid (nats_take hx)
            have hxx := xor_c q9 x _ _ hq9 (by omega) rfl rfl
            have hxl : q9 ^^^ x < 4294967296 := Nat.xor_lt_two_pow (n := 32) (by omega) (by omega)
            clear hx hxb
            go_wp2_with fail
            refine (of_c 8 _ (g + 1) wr hxl (HW.out.up' HU9.out).m2).mono ?_
            rintro e w5 ⟨rfl, u5⟩
            have U5 := Lib.hid (HU9.out.trans u5)
            clear u5 hxx hcell
            go_wp2_with fail
            go_roundw
            case rel => exact ⟨k + 1, _, by omega, rfl, Crc.shN_lt hxl, by go_num, Lib.hid (by rw [HN.out, Crc.reg_snoc, ← HQ9.out]; rfl), U5⟩
            case measure => simp [intOf]; omega
          · obtain rfl : k = m := by omega
            have HF := HFIN.out q9 hq9 (by rw [HQ9.out, List.take_of_length_le (by have := HLEN.out; omega)])
            go_wp2_with fail
            go_ret
            exact ⟨ret_i HF.out, HW.out.up.trans HU9.out⟩
end Go.Proofs.Ytdlgdlgpmfccmaa
namespace Go.Proofs.Ytdlgdlgpmfccmaa
open Go Go.RowKit
set_option linter.unusedVariables false
theorem sum_c : CSum := by
  intro A n cap xs w hin hl
  have HIN := Lib.hid hin
  have HM := Lib.hid more_c
  clear hin
  go_enter Try.func25, Try.ntmps25
  go_wp2_with fail
  refine (HM.out A n cap xs 0 w (by omega) HIN.out hl).mono ?_
  rintro e w1 ⟨rfl, u1⟩
  have U1 := Lib.hid u1
  clear u1
  go_wp2_with fail
  go_ret
  exact ⟨rfl, U1.out⟩
/-- The map of the call's own. -/
structure Map1 (w0 w : World) (g a : Nat) : Prop where
  up : Up w0 w
  low : w0.heap.size ≤ g
  m1 : w.heap[g]? = some (.cells (arr (Crc.col a)) 57 (0, 0))
theorem Map1.up' {w0 w w' : World} {g a : Nat} (m : Map1 w0 w g a) (hu : Up w w') : Map1 w0 w' g a :=
  ⟨m.up.trans hu, m.low, (hu.block _ (Array.getElem?_eq_some_iff.1 m.m1).1).trans m.m1⟩
end Go.Proofs.Ytdlgdlgpmfccmaa
