import Derived.Test.YthncpkjnalmpkaaAvP2
namespace Go.Proofs.Ythncpkjnalmpkaa
open Go Go.RowKit
set_option linter.unusedVariables false
set_option linter.unusedSimpArgs false
/-! The program's Put. -/
theorem make_cap (n : Nat) (hn : n ≤ 100000) (W : World) : (Instr.makeSlice 26 (.int .i64 0) (.int .i64 (n : Int))).run Try.prog W =
    .ok (.slice (some ⟨W.heap.size, 0, none⟩) 0 n) (W.alloc (.cells (Array.replicate n (.int .u8 0)) 5)) := by
  rw [← List.toArray_replicate]
  obtain ⟨i0, hi, hz0, hz1, hz2⟩ := info_parts winfo5
  have h := run_make (P := Try.prog) W 26 5 i0 (.int .u8 0) Try.underlying26 hi hz0 .i64 .i64 0 n (by omega) (by omega) (by rw [hz2]; omega) (by omega)
  have e : madeCells (Value.int .u8 0).cells (n * 1) = (List.replicate n (.int .u8 0)).toArray := by
    apply Array.toList_inj.1
    show (madeCells #[Value.int .u8 0] (n * 1)).toList = _
    rw [toList_madeCells_one]; simp
  rw [hz1] at h
  simp only [Int.toNat_natCast] at h
  rw [e] at h
  exact h
theorem own_made (w : World) (n : Nat) (hn : n ≤ 100000) : OwnI .u8 5 w.heap.size (w.alloc (.cells (Array.replicate n (.int .u8 0)) 5)) (some ⟨w.heap.size, 0, none⟩) 0 n [] :=
  ⟨rfl, .inr ⟨w.heap.size, n, _, rfl, Nat.le_refl _, new_at _ _, Nat.zero_le _, by unfold maxLen; omega, by simp, by simp [ints]⟩⟩
/-- The bytes of the first k. -/
def szL (l : List Av.Avp) (k : Nat) : Nat := (encAs (l.take k)).length
theorem szL_succ {l : List Av.Avp} {k : Nat} {a : Av.Avp} (h : l[k]? = some a) : szL l (k + 1) = szL l k + (avLen a + padN (avLen a)) := by
  unfold szL; rw [encAs_take_succ h, List.length_append, encA_length]
theorem szL_le (l : List Av.Avp) (k : Nat) : szL l k ≤ (encAs l).length := encAs_take_le l k
theorem szL_all {l : List Av.Avp} {k : Nat} (h : l.length ≤ k) : szL l k = (encAs l).length := by unfold szL; rw [List.take_of_length_le h]
set_option maxRecDepth 100000 in
set_option maxHeartbeats 2000000 in
theorem put_large (A : Option Addr) (n cap : Nat) (l : List AvB) (w : World) (hl : l.length = n) (h : 64 < n) (hn : n ≤ 140737488351232) : Calls Try.prog 30 #[.slice A n cap] w (PutPost (l.map AvB.pure) w) := by
  have HL := Lib.hid hl
  clear hl
  have d1 : decide (64 < (n : Int)) = true := by simp; omega
  go_enter Try.func30, Try.ntmps30
  go_wp2_with fail
  go_ret2
  exact putPost_no rfl (fun e => by have := e.1; simp [HL.out] at this; omega) (Up.refl _)
set_option maxRecDepth 100000 in
set_option maxHeartbeats 4000000 in
theorem put_small (A : Option Addr) (n cap : Nat) (l : List AvB) (w : World) (h : InL w A n cap l) (h64 : n ≤ 64) : Calls Try.prog 30 #[.slice A n cap] w (PutPost (l.map AvB.pure) w) := by
  have H := Lib.hid h
  have HLT := Lib.hid (show (l.map AvB.pure).length = n by simp [h.len])
  have hcap := h.cap
  clear h
  have d1 : decide (64 < (n : Int)) = false := by simp; omega
  go_enter Try.func30, Try.ntmps30
  go_wp2_with fail
  go_loopw [4, 16] (fun v i wr => ∃ k s : Nat, k ≤ n ∧ s ≤ 4096 ∧ i = .int .i64 (k : Int) ∧ v = .int .i64 (s : Int) ∧ Hid (s = szL (l.map AvB.pure) k) ∧ Hid (Up w wr)) (fun _ i _ => n - (intOf i).toNat)
  case atStart => exact ⟨0, 0, Nat.zero_le _, by omega, rfl, rfl, Lib.hid rfl, Lib.hid (Up.refl _)⟩
  case round =>
    obtain ⟨k, s, hk, hs, rfl, rfl, hsz, hu⟩ := hrel
    by_cases hlt : k < n
    · have e1 : decide ((k : Int) < (n : Int)) = true := by simp; omega
      obtain ⟨x, g, o, hx, rfl, k0, k1, k2, k3, k4, hxi⟩ := (H.out.up hu.out).at_ hlt
      have HXE := Lib.hid (szL_succ (l := l.map AvB.pure) (k := k) (a := x.pure) (by simp [hx]))
      have HXI := Lib.hid hxi
      have hlx := hxi.n
      clear hx hxi
      have HCB := Lib.hid (new_at wr (.cells #[.int .u32 x.code, .int .u32 x.vendor, .bool x.must, .bool x.prot, .slice x.A x.n x.c] 56))
      have HUa := Lib.hid (up_alloc wr (.cells #[.int .u32 x.code, .int .u32 x.vendor, .bool x.must, .bool x.prot, .slice x.A x.n x.c] 56))
      go_upto_region 7 with (fail)
      generalize wr.alloc (.cells #[.int .u32 x.code, .int .u32 x.vendor, .bool x.must, .bool x.prot, .slice x.A x.n x.c] 56) = wa at HCB HUa ⊢
      generalize wr.heap.size = pb at HCB ⊢
      clear k0 k1 k2 k3 k4
      have y0 := cell_of HCB.out (j := 0) rfl
      have y1 := cell_of HCB.out (j := 1) rfl
      have y2 := cell_of HCB.out (j := 2) rfl
      have y3 := cell_of HCB.out (j := 3) rfl
      have y4 := cell_of HCB.out (j := 4) rfl
      have HAL := Lib.hid (show avLen x.pure ≤ 12 + x.n by have := HXI.out.inb.len; unfold avLen avHead AvB.pure; simp only; split <;> omega)
      go_wp2_with fail
      refine (length_any x wa HXI.out.inb.len hlx).mono ?_
      rintro e wb ⟨rfl, hub⟩
      have UB := Lib.hid ((hu.out.trans HUa.out).trans hub)
      clear hub y0 y1 y2 y3 y4
      generalize avLen x.pure = N at HXE HAL ⊢
      have hN : N ≤ 140737488351244 := by have := HAL.out; omega
      go_wp2_with fail
      refine (pad_any N wb (by omega)).mono ?_
      rintro e wc ⟨rfl, rfl⟩
      have hp := padN_lt N
      generalize padN N = q at HXE hp ⊢
      by_cases hbig : s + (N + q) ≤ 4096
      · have e2 : decide (4096 < (s : Int) + ((N : Int) + (q : Int))) = false := by simp; omega
        go_wp2_with fail
        go_roundw
        case rel => exact ⟨k + 1, s + (N + q), by omega, hbig, by go_num, by go_num, Lib.hid (by rw [HXE.out, hsz.out]), UB⟩
        case measure => simp [intOf]; omega
      · have e2 : decide (4096 < (s : Int) + ((N : Int) + (q : Int))) = true := by simp; omega
        have HNO := Lib.hid (show ¬ ((encAs (l.map AvB.pure)).length ≤ 4096) by have h1 := szL_le (l.map AvB.pure) (k + 1); have h2 := HXE.out; have h3 := hsz.out; omega)
        go_wp2_with fail
        go_ret2
        exact putPost_no rfl (fun e => HNO.out e.2) UB.out
    · obtain rfl : k = n := by omega
      have e1 : decide ((k : Int) < (k : Int)) = false := by simp
      have HSA := Lib.hid (show s = (encAs (l.map AvB.pure)).length by rw [hsz.out]; exact szL_all (by rw [HLT.out]; exact Nat.le_refl _))
      clear hsz
      have hmk := make_cap s (by omega) wr
      have HOM := Lib.hid (own_made wr s (by omega))
      have HUM := Lib.hid (up_alloc wr (.cells (Array.replicate s (.int .u8 0)) 5))
      have HB0 := Lib.hid (show Below w.heap.size w (wr.alloc (.cells (Array.replicate s (.int .u8 0)) 5)) from hu.out.trans HUM.out)
      have HO0 := Lib.hid (HOM.out.base (B' := w.heap.size) hu.out.size)
      have HU0 := hu
      clear HUM HOM hu HLT
      go_wp2_with fail
      clear hmk
      generalize wr.alloc (.cells (Array.replicate s (.int .u8 0)) 5) = w5 at HB0 HO0 ⊢
      generalize wr.heap.size = g5 at HO0 ⊢
      clear HU0
      go_loopw [8, 35] (fun v i wr => ∃ (j N1 : Nat) (A1 : Option Addr) (c1 : Nat), j ≤ k ∧ N1 ≤ s ∧ i = .int .i64 (j : Int) ∧ v = .slice A1 N1 c1 ∧ Hid (N1 = szL (l.map AvB.pure) j) ∧ Hid (OwnI .u8 5 w.heap.size wr A1 N1 c1 (encAs ((l.map AvB.pure).take j))) ∧ Hid (Below w.heap.size w wr)) (fun _ i _ => k - (intOf i).toNat)
      case atStart => exact ⟨0, 0, _, _, Nat.zero_le _, Nat.zero_le _, rfl, rfl, Lib.hid rfl, HO0, HB0⟩
      case round =>
        obtain ⟨j, N1, A1, c1, hj, hN1, rfl, rfl, hsz, hO, hB⟩ := hrel
        by_cases hlt : j < k
        · have e1 : decide ((j : Int) < (k : Int)) = true := by simp; omega
          obtain ⟨x, g, o, hx, rfl, k0, k1, k2, k3, k4, hxi⟩ := (H.out.up hB.out).at_ hlt
          have HXE := Lib.hid (szL_succ (l := l.map AvB.pure) (k := j) (a := x.pure) (by simp [hx]))
          have HXT := Lib.hid (encAs_take_succ (l := l.map AvB.pure) (k := j) (a := x.pure) (by simp [hx]))
          have HXI := Lib.hid hxi
          have HXL := Lib.hid (szL_le (l.map AvB.pure) (j + 1))
          clear hx hxi
          have HCB := Lib.hid (new_at wr (.cells #[.int .u32 x.code, .int .u32 x.vendor, .bool x.must, .bool x.prot, .slice x.A x.n x.c] 56))
          have HUa := Lib.hid (up_alloc wr (.cells #[.int .u32 x.code, .int .u32 x.vendor, .bool x.must, .bool x.prot, .slice x.A x.n x.c] 56))
          go_upto_region 16 with (fail)
          generalize wr.alloc (.cells #[.int .u32 x.code, .int .u32 x.vendor, .bool x.must, .bool x.prot, .slice x.A x.n x.c] 56) = wa at HCB HUa ⊢
          generalize wr.heap.size = pb at HCB ⊢
          clear k0 k1 k2 k3 k4
          have y0 := cell_of HCB.out (j := 0) rfl
          have y1 := cell_of HCB.out (j := 1) rfl
          have y2 := cell_of HCB.out (j := 2) rfl
          have y3 := cell_of HCB.out (j := 3) rfl
          have y4 := cell_of HCB.out (j := 4) rfl
          have HO1 := Lib.hid (own_up hO.out HUa.out)
          have HB1 := Lib.hid (show Below w.heap.size w wa from (show Up w wr from hB.out).trans HUa.out)
          have HNL := Lib.hid (show avLen x.pure ≤ 4096 by have h1 := HXE.out; have h2 := HXL.out; have h3 := HSA.out; omega)
          have HXI1 := Lib.hid (HXI.out.up HUa.out)
          go_wp2_with fail
          refine (whole_any x wa HXI1.out HNL.out).mono ?_
          rintro e wb ⟨A9, N9, c9, rfl, hN9, hO9, hu9⟩
          have HOb := Lib.hid (show OwnI .u8 5 w.heap.size wb A1 N1 c1 (encAs ((l.map AvB.pure).take j)) from own_up HO1.out hu9.out)
          have HBb := Lib.hid (show Below w.heap.size w wb from (show Up w wa from HB1.out).trans hu9.out)
          have HL9 := Lib.hid hO9.out.len
          have HC9 := Lib.hid hO9.out.cells
          have HSb := Lib.hid HBb.out.size
          have hN9' : N9 ≤ 4200 := by have h1 := hN9.out; rw [encA_length] at h1; have := padN_lt (avLen x.pure); have := HNL.out; omega
          have HN9 := Lib.hid (show N9 = avLen x.pure + padN (avLen x.pure) by rw [hN9.out, encA_length])
          clear y0 y1 y2 y3 y4 hO hB HO1 HB1 hO9 hu9 HCB HUa
          go_wp2_with (at_builtin; refine wpList_appendI rfl (.tmp 39) (.tmp 41) 26 rfl .u8 w.heap.size 5 1 Try.underlying26 info5 A1 N1 c1 _ rfl HOb.out A9 N9 c9 _ rfl HL9.out HC9.out (by omega) (by omega) HSb.out HBb.out ?_; intro A' N' c' w' HN HW HB hsz')
          have hNs : N' ≤ s := by have h1 := HN.out; have h2 := HN9.out; have h3 := HXE.out; have h4 := HXL.out; have h5 := HSA.out; have h6 := hsz.out; omega
          go_roundw
          case rel => exact ⟨j + 1, N', A', c', by omega, hNs, by go_num, rfl, Lib.hid (by rw [HN.out, HXE.out, hsz.out, HN9.out]), Lib.hid (by rw [HXT.out]; exact HW.out), HB⟩
          case measure => simp [intOf]; omega
        · obtain rfl : j = k := by omega
          have e1 : decide ((j : Int) < (j : Int)) = false := by simp
          have HTA := Lib.hid (show (l.map AvB.pure).take j = l.map AvB.pure from List.take_of_length_le (by simp [H.out.len]))
          have HSS := Lib.hid (show N1 = (encAs (l.map AvB.pure)).length by rw [hsz.out]; exact szL_all (by simp [H.out.len]))
          go_wp2_with fail
          go_ret2
          have hO2 := hO.out
          rw [HTA.out] at hO2
          exact ⟨encAs (l.map AvB.pure), 0, A1, N1, c1, rfl, Lib.hid (.inl ⟨rfl, rfl, by simp [H.out.len]; omega, by have := HSS.out; omega⟩), Lib.hid HSS.out, Lib.hid hO2, Lib.hid hB.out⟩
theorem put_any' (A : Option Addr) (n cap : Nat) (l : List AvB) (w : World) (h : InL w A n cap l) (hn : n ≤ 140737488351232) : Calls Try.prog 30 #[.slice A n cap] w (PutPost (l.map AvB.pure) w) := by
  by_cases h64 : 64 < n
  · exact put_large A n cap l w h.len h64 hn
  · exact put_small A n cap l w h (by omega)
end Go.Proofs.Ythncpkjnalmpkaa
