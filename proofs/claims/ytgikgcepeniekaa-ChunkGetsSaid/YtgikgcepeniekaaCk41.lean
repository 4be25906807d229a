import Derived.Test.YtgikgcepeniekaaCk22
import Derived.Test.YtgikgcepeniekaaCk12
namespace Go.Proofs.Ytgikgcepeniekaa
open Go Go.RowKit
set_option linter.unusedVariables false
set_option linter.unusedSimpArgs false
/-! The reference's Put. -/
theorem putPost_no {l : List Ck.Chk} {w w' : World} {e : Ending} (h : e = .returned (.tuple #[.slice none 0 0, .int .i64 4])) (hn : ¬ (l.length ≤ 32 ∧ (encL l).length ≤ 4096)) (hu : Up w w') : PutPost l w e w' :=
  ⟨[], 4, none, 0, 0, h, Lib.hid (.inr ⟨rfl, rfl, hn⟩), Lib.hid rfl, Lib.hid (ownI_nil _ _ _ _), Lib.hid hu⟩
set_option maxRecDepth 100000 in
theorem rput_large (A : Option Addr) (n cap : Nat) (l : List ChB) (w : World) (hl : l.length = n) (hn : 32 < n) (hn2 : n ≤ 140737488351232) : Calls Try.prog 12 #[.slice A n cap] w (PutPost (l.map ChB.pure) w) := by
  have HL := Lib.hid hl
  clear hl
  have d1 : decide (32 < (n : Int)) = true := by simp; omega
  go_enter Try.func12, Try.ntmps12
  go_wp2_with fail
  go_ret2
  exact putPost_no rfl (fun h => by have h1 := h.1; rw [List.length_map, HL.out] at h1; omega) (Up.refl _)
set_option maxRecDepth 100000 in
set_option maxHeartbeats 2000000 in
theorem rput_small (A : Option Addr) (n cap : Nat) (l : List ChB) (w : World) (h : InL w A n cap l) (hn : n ≤ 32) : Calls Try.prog 12 #[.slice A n cap] w (PutPost (l.map ChB.pure) w) := by
  have H := Lib.hid h
  have HBL := Lib.hid (show bytL (l.map ChB.pure) from fun c hc => by
    obtain ⟨x, hx, rfl⟩ := List.mem_map.1 hc
    exact ⟨(h.ch x hx).ty, (h.ch x hx).fl, (h.ch x hx).inb.byt⟩)
  have hcap := h.cap
  have HLT := Lib.hid (show (l.map ChB.pure).length = n by simp [h.len])
  clear h
  have d1 : decide (32 < (n : Int)) = false := by simp; omega
  go_enter Try.func12, Try.ntmps12
  go_wp2_with fail
  go_loopw [4, 5] (fun v i wr => ∃ (k : Nat) (A1 : Option Addr) (N1 c1 : Nat), k ≤ n ∧ i = .int .i64 (k : Int) ∧ v = .slice A1 N1 c1 ∧ N1 ≤ 4096 ∧ Hid (OwnI .u8 5 w.heap.size wr A1 N1 c1 (encL ((l.map ChB.pure).take k))) ∧ Hid (Up w wr)) (fun _ i _ => n - (intOf i).toNat)
  case atStart => exact ⟨0, none, 0, 0, Nat.zero_le _, rfl, rfl, by omega, Lib.hid (by simpa [encL] using ownI_nil .u8 5 w.heap.size w), Lib.hid (Up.refl _)⟩
  case round =>
    obtain ⟨k, A1, N1, c1, hk, rfl, rfl, hN1, hO, hu⟩ := hrel
    by_cases hlt : k < n
    · obtain ⟨x, ga, o, hx, rfl, k0, k1, k2, hci⟩ := (H.out.up hu.out).at_ hlt
      have HX := Lib.hid (encL_step hx)
      have HC := Lib.hid (H.out.ch x (List.mem_of_getElem? hx))
      have hxn := hci.n
      have hp := padN_lt x.n
      clear hx hci
      by_cases hbig : 4096 < x.n
      · have d2 : decide (4096 < (x.n : Int)) = true := by simp; omega
        have HNO := Lib.hid (show ¬ ((l.map ChB.pure).length ≤ 32 ∧ (encL (l.map ChB.pure)).length ≤ 4096) from fun h => by
          have h1 := encL_take_le (l.map ChB.pure) (k + 1)
          rw [HX.out, List.length_append, encC_length] at h1
          have h2 : x.pure.bs.length = x.n := HC.out.inb.len
          omega)
        go_wp2_with fail
        go_ret2
        exact putPost_no rfl HNO.out (hu.out.trans (up_alloc _ _))
      · have d2 : decide (4096 < (x.n : Int)) = false := by simp; omega
        have HCB := Lib.hid (new_at wr (.cells #[.int .u8 x.ty, .int .u8 x.fl, .slice x.A x.n x.c] 41))
        have HOa := Lib.hid (show OwnI .u8 5 w.heap.size _ A1 N1 c1 (encL ((l.map ChB.pure).take k)) from own_up hO.out (up_alloc wr (.cells #[.int .u8 x.ty, .int .u8 x.fl, .slice x.A x.n x.c] 41)))
        have HUa := Lib.hid (hu.out.trans (up_alloc wr (.cells #[.int .u8 x.ty, .int .u8 x.fl, .slice x.A x.n x.c] 41)))
        have HPB := Lib.hid (show ∀ q, blk? A1 = some q → q ≠ wr.heap.size from fun q hq e => by have := (row_lt hO.out hq).2; omega)
        go_upto_region 8 with (fail)
        generalize wr.alloc (.cells #[.int .u8 x.ty, .int .u8 x.fl, .slice x.A x.n x.c] 41) = wa at HCB HOa HUa ⊢
        generalize wr.heap.size = pb at HCB HPB ⊢
        clear k0 k1 k2 hO hu
        have z0 := cell_of HCB.out (j := 0) rfl
        have z1 := cell_of HCB.out (j := 1) rfl
        have z2 := cell_of HCB.out (j := 2) rfl
        have HUb := Lib.hid (up_alloc wa (.cells #[.int .u8 x.ty, .int .u8 x.fl] 5))
        have HOb := Lib.hid (show OwnI .u8 5 w.heap.size _ A1 N1 c1 (encL ((l.map ChB.pure).take k)) from own_up HOa.out HUb.out)
        have HCL := Lib.hid (show Cells (wa.alloc (.cells #[.int .u8 x.ty, .int .u8 x.fl] 5)) (some ⟨wa.heap.size, 0, none⟩) (ints .u8 [x.ty, x.fl]) from fun _ => ⟨wa.heap.size, 0, rfl, lt_of_blk (new_at wa _), fun j u hu => cell_of (new_at wa _) (by rw [Nat.zero_add]; simpa [ints] using hu)⟩)
        have HWA := Lib.hid (show w.heap.size ≤ wa.heap.size from HUa.out.size)
        go_upto_region 11 with (at_builtin; refine wpList_appendG rfl (.tmp 24) (.tmp 29) 23 rfl w.heap.size 5 (.int .u8 0) 1 1 Try.underlying23 info5 rfl (by decide) A1 N1 c1 (ints .u8 (encL ((l.map ChB.pure).take k))) rfl HOb.out (some ⟨wa.heap.size, 0, none⟩) 2 2 (ints .u8 [x.ty, x.fl]) rfl (by simp [ints]) HCL.out (ints_one .u8 _) (by omega) (by omega) (by have := HUb.out.size; have := HWA.out; omega) ?_; intro A2 N2 c2 w2 HN2 HR2 HX2 HK2)
        have HC2 := Lib.hid (HX2.out.blk ((HUb.out.block _ (lt_of_blk HCB.out)).trans HCB.out) (fun e => HPB.out _ e rfl))
        have HO2 := Lib.hid (show OwnI .u8 5 w.heap.size w2 A2 N2 c2 (encL ((l.map ChB.pure).take k) ++ [x.ty, x.fl]) by unfold OwnI; rw [ints_append]; exact HR2.out)
        have HU2 := Lib.hid (show Up w w2 from Below.out (HUa.out.trans HUb.out) HX2.out (fun q hq => (row_lt HOb.out hq).1) (HUa.out.trans HUb.out).size)
        have n2 : N2 ≤ 4098 := by have := HN2.out; omega
        have HB2 := Lib.hid (show Byt (encL ((l.map ChB.pure).take k) ++ [x.ty, x.fl]) from (byt_encL (fun c hc => HBL.out c (List.mem_of_mem_take hc))).append (by
          intro y hy
          simp only [List.mem_cons, List.mem_nil_iff, or_false] at hy
          rcases hy with rfl | rfl
          · exact HC.out.ty
          · exact HC.out.fl))
        clear z0 z1 z2 HR2 HX2 HK2 HOa HOb HUa HUb HCL HCB
        have z2 := cell_of HC2.out (j := 2) rfl
        go_wp2_with fail
        refine (rput' A2 N2 c2 2 _ (4 + (x.n : Int)) w2 (own_inB HO2.out HB2.out) (by omega) (by omega) (by omega)).mono ?_
        rintro e w3 ⟨A3, N3, c3, rfl, hN3, hO3, hI3, hu3⟩
        have HC3 := Lib.hid ((hu3.out.block _ (lt_of_blk HC2.out)).trans HC2.out)
        have HU3 := Lib.hid (HU2.out.trans hu3.out)
        have n3 : N3 ≤ 4100 := by have := hN3.out; omega
        have HV2 := Lib.hid HU2.out.size
        have HO3 := Lib.hid (hO3.out.base HV2.out)
        clear z2 hO3 hu3
        have z2 := cell_of HC3.out (j := 2) rfl
        go_wp2_with fail
        refine (refpadded_any x.A x.n x.c x.bs w3 (HC.out.inb.up HU3.out) (by omega)).mono ?_
        rintro e w4 ⟨A4, N4, c4, rfl, hN4, hO4, hu4⟩
        have n4 : N4 ≤ 4100 := by have := hN4.out; rw [padL_length, HC.out.inb.len] at this; omega
        have HO3' := Lib.hid (show OwnI .u8 5 w.heap.size w4 A3 N3 c3 _ from own_up HO3.out hu4.out)
        have HU4 := Lib.hid (HU3.out.trans hu4.out)
        clear z2
        go_upto_region 13 with (at_builtin; refine wpList_appendG rfl (.tmp 38) (.tmp 41) 23 rfl w.heap.size 5 (.int .u8 0) 1 1 Try.underlying23 info5 rfl (by decide) A3 N3 c3 _ rfl HO3'.out A4 N4 c4 (ints .u8 (padL x.bs)) rfl (by rw [ints_length, ← hN4.out, Nat.mul_one]) hO4.out.cells (ints_one .u8 _) (by omega) (by omega) HU4.out.size ?_; intro A5 N5 c5 w5 HN5 HR5 HX5 HK5)
        have HU5 := Lib.hid (show Up w w5 from Below.out HU4.out HX5.out (fun q hq => (row_lt HO3'.out hq).1) HU4.out.size)
        have HO5 := Lib.hid (show OwnI .u8 5 w.heap.size w5 A5 N5 c5 (encL ((l.map ChB.pure).take (k + 1))) by
          have e1 : encL ((l.map ChB.pure).take (k + 1)) = (encL ((l.map ChB.pure).take k) ++ [x.ty, x.fl] ++ be (4 + (x.n : Int)) 2) ++ padL x.bs := by
            rw [HX.out]
            have e3 : x.pure.bs.length = x.n := HC.out.inb.len
            unfold encC
            rw [e3]
            simp [ChB.pure]
          unfold OwnI
          rw [e1, ints_append]; exact HR5.out)
        have n5 : N5 ≤ 100000 := by have := HN5.out; omega
        clear HR5 HX5 HK5 HO3' HO3 HO2 hO4 hI3 HU2 HU3 HU4
        by_cases hb : 4096 < N5
        · have d3 : decide (4096 < (N5 : Int)) = true := by simp; omega
          have HNO := Lib.hid (show ¬ ((l.map ChB.pure).length ≤ 32 ∧ (encL (l.map ChB.pure)).length ≤ 4096) from fun h => by
            have h1 := encL_take_le (l.map ChB.pure) (k + 1)
            have h2 := HO5.out.len
            omega)
          go_wp2_with fail
          go_ret2
          exact putPost_no rfl HNO.out HU5.out
        · have d3 : decide (4096 < (N5 : Int)) = false := by simp; omega
          go_wp2_with fail
          go_roundw
          case rel => exact ⟨k + 1, A5, N5, c5, by omega, by go_num, rfl, by omega, HO5, HU5⟩
          case measure => simp [intOf]; omega
    · obtain rfl : k = n := by omega
      have e1 : (l.map ChB.pure).take k = l.map ChB.pure := List.take_of_length_le (by rw [HLT.out]; exact Nat.le_refl _)
      rw [e1] at hO
      clear e1
      go_wp2_with fail
      go_ret2
      exact ⟨_, 0, A1, N1, c1, rfl, Lib.hid (.inl ⟨rfl, rfl, by rw [HLT.out]; exact hn, by rw [hO.out.len]; exact hN1⟩), Lib.hid hO.out.len.symm, hO, hu⟩
theorem rput_any' (A : Option Addr) (n cap : Nat) (l : List ChB) (w : World) (h : InL w A n cap l) (hn : n ≤ 140737488351232) : Calls Try.prog 12 #[.slice A n cap] w (PutPost (l.map ChB.pure) w) := by
  by_cases h32 : 32 < n
  · exact rput_large A n cap l w h.len h32 hn
  · exact rput_small A n cap l w h (by omega)
end Go.Proofs.Ytgikgcepeniekaa
