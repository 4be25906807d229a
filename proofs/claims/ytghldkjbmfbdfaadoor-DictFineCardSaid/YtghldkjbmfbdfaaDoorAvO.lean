import Derived.Test.YtghldkjbmfbdfaaDoorAvR
import Derived.Test.YtghldkjbmfbdfaaDoorCk1
import Derived.Deep.DeepCutAuto
namespace Go.Proofs.YtghldkjbmfbdfaaDoor
open Go Go.RowKit
set_option linter.unusedVariables false
set_option linter.unusedSimpArgs false
/-! The laws' own copies. -/
theorem OwnI.base' {k : IntKind} {E : TypeId} {B B' : Nat} {w : World} {A : Option Addr} {N c : Nat} {xs : List Int} (h : OwnI k E B w A N c xs) (hb : B' ≤ B) : OwnI k E B' w A N c xs := by
  refine ⟨h.1, ?_⟩
  rcases h.2 with h2 | ⟨g, cap, cur, h1, h2, h3⟩
  · exact .inl h2
  · exact .inr ⟨g, cap, cur, h1, Nat.le_trans hb h2, h3⟩
def OwnPost (l : List Av.Avp) (w : World) (e : Ending) (w' : World) : Prop := ∃ A n c out, e = .returned (.slice A n c) ∧ Hid (GL w.heap.size w' A n c out) ∧ Hid (out.map AvB.pure = l.take 200) ∧ Hid (n ≤ 200) ∧ Hid (Up w w')
theorem avCells (w : World) (x : AvB) : Cells (w.alloc (.cells #[.int .u32 x.code, .int .u32 x.vendor, .bool x.must, .bool x.prot, .slice x.A x.n x.c] 38)) (some ⟨w.heap.size, 0, none⟩) (rowa [x]) := fun _ => ⟨w.heap.size, 0, rfl, lt_of_blk (new_at w _), fun j u hu => cell_of (new_at w _) (by rw [Nat.zero_add]; simpa [rowa, avc, avcL] using hu)⟩
set_option maxRecDepth 100000 in
set_option maxHeartbeats 4000000 in
theorem own_any (A : Option Addr) (n cap : Nat) (l : List AvB) (w : World) (h : InL w A n cap l) (hn : n ≤ 140737488351232) : Calls Tryd.prog 17 #[.slice A n cap] w (OwnPost (l.map AvB.pure) w) := by
  have H := Lib.hid h
  have HLT := Lib.hid (show (l.map AvB.pure).length = n by simp [h.len])
  have hcap := h.cap
  clear h
  go_enter Tryd.func17, Tryd.ntmps17
  go_wp2_with fail
  go_loopw [3, 4] (fun v i wr => ∃ (k : Nat) (A1 : Option Addr) (c1 : Nat) (out : List AvB), k ≤ n ∧ k ≤ 200 ∧ i = .int .i64 (k : Int) ∧ v = .slice A1 k c1 ∧ Hid (GL w.heap.size wr A1 k c1 out) ∧ Hid (out.map AvB.pure = (l.map AvB.pure).take k) ∧ Hid (Up w wr)) (fun _ i _ => 200 - (intOf i).toNat)
  case atStart => exact ⟨0, none, 0, [], Nat.zero_le _, Nat.zero_le _, rfl, rfl, Lib.hid (gl_nil _ _), Lib.hid rfl, Lib.hid (Up.refl _)⟩
  case round =>
    obtain ⟨k, A1, c1, out, hk, hk1, rfl, rfl, hL, hE, hu⟩ := hrel
    by_cases hlt : k < n ∧ k < 200
    · obtain ⟨hkn, hk100⟩ := hlt
      have d1 : decide ((k : Int) < (n : Int)) = true := by simp; omega
      have d2 : decide ((k : Int) < 200) = true := by simp; omega
      obtain ⟨x, ga, o, hx, rfl, k0, k1, k2, k3, k4, hci⟩ := (H.out.up hu.out).at_ hkn
      have HXE := Lib.hid (show (l.map AvB.pure).take (k + 1) = (l.map AvB.pure).take k ++ [x.pure] by
        have h2 : (l.map AvB.pure)[k]? = some x.pure := by simp [hx]
        obtain ⟨hl, he⟩ := List.getElem?_eq_some_iff.1 h2
        rw [List.take_succ_eq_append_getElem hl, he])
      have HC := Lib.hid hci
      have hxn := hci.n
      clear hx hci
      have HCB := Lib.hid (new_at wr (.cells #[.int .u32 x.code, .int .u32 x.vendor, .bool x.must, .bool x.prot, .slice x.A x.n x.c] 38))
      have HUa := Lib.hid (up_alloc wr (.cells #[.int .u32 x.code, .int .u32 x.vendor, .bool x.must, .bool x.prot, .slice x.A x.n x.c] 38))
      have HPB := Lib.hid (lt_of_blk HCB.out)
      go_upto_region 6 with (fail)
      generalize wr.alloc (.cells #[.int .u32 x.code, .int .u32 x.vendor, .bool x.must, .bool x.prot, .slice x.A x.n x.c] 38) = wa at HCB HUa HPB ⊢
      generalize hpb : wr.heap.size = pb at HCB HPB ⊢
      have HPE := Lib.hid hpb
      clear k0 k1 k2 k3 k4 hpb
      have z4 := cell_of HCB.out (j := 4) rfl
      have HIN := Lib.hid (HC.out.inb.up HUa.out)
      have hpw : pb < wa.heap.size := HPB.out
      go_upto_region 7 with (at_builtin; refine wpList_appendI rfl (.tmp 20) (.tmp 22) 22 rfl .u8 wa.heap.size 5 1 Tryd.underlying22 info5 (some ⟨wa.heap.size, 0, none⟩) 0 0 [] rfl (ownI_new _ _ _) x.A x.n x.c x.bs rfl HIN.out.len (HIN.out.cells.alloc _) (by omega) (by omega) (by simp) ((Below.refl _ _).alloc (Nat.le_refl _) _) ?_; intro A6 N6 c6 w6 HN6 HW6 HB6 hsz6; have hc6 := (HB6.out.block _ HPB.out).trans HCB.out; have z6 := cell_of hc6 (j := 4) rfl; have y6 := frozen_at (j := 4) hc6)
      have hst := setCell_out w6 pb 4 (.slice A6 N6 c6)
      have HC7 := Lib.hid (show (w6.setCell ⟨pb, 4, none⟩ (.slice A6 N6 c6)).heap[pb]? = some (.cells #[.int .u32 x.code, .int .u32 x.vendor, .bool x.must, .bool x.prot, .slice A6 N6 c6] 38 (0, 0)) from (setCell_at (j := 4) (.slice A6 N6 c6) hc6).trans rfl)
      have HO6 := Lib.hid (show OwnI .u8 5 wa.heap.size w6 A6 N6 c6 x.bs by have := HW6.out; rw [List.nil_append] at this; exact this)
      have HO7 := Lib.hid (show OwnI .u8 5 wa.heap.size (w6.setCell ⟨pb, 4, none⟩ (.slice A6 N6 c6)) A6 N6 c6 x.bs from hst.own HO6.out (fun q hq e => by have h1 := (row_lt HO6.out (by rwa [ownBlock_slice] at hq)).1; have e1 : q = pb := e; omega))
      have HU7 := Lib.hid (show Up wr (w6.setCell ⟨pb, 4, none⟩ (.slice A6 N6 c6)) from Below.out (HUa.out.trans HB6.out) hst (fun q hq => by rw [hq, ← HPE.out]; exact Nat.le_refl _) (HUa.out.trans HB6.out).size)
      have HN7 := Lib.hid (show N6 ≤ 140737488351232 by have := HN6.out; omega)
      have HWA := Lib.hid (show w.heap.size ≤ wa.heap.size by have := hu.out.size; have := HUa.out.size; omega)
      have HRW := Lib.hid (show wr.heap.size ≤ wa.heap.size from HUa.out.size)
      clear z4 z6 y6 hc6 HCB
      generalize w6.setCell ⟨pb, 4, none⟩ (.slice A6 N6 c6) = w7 at hst HC7 HO7 HU7 ⊢
      have HL7 := Lib.hid (hL.out.up HU7.out)
      have HXC := Lib.hid (show OwnA w.heap.size w7 ⟨x.code, x.vendor, x.must, x.prot, A6, N6, c6, x.bs⟩ from ⟨HO7.out.base' HWA.out, HC.out.ok, HN7.out⟩)
      have HXA := Lib.hid (show ∀ q, blk? A6 = some q → blk? A1 ≠ some q from fun q hq e => by have h1 := (row_lt HO7.out hq).1; have h2 := (hL.out.lt e).2; have := HRW.out; omega)
      have y0 := cell_of HC7.out (j := 0) rfl
      have y1 := cell_of HC7.out (j := 1) rfl
      have y2 := cell_of HC7.out (j := 2) rfl
      have y3 := cell_of HC7.out (j := 3) rfl
      have y4 := cell_of HC7.out (j := 4) rfl
      have HCL := Lib.hid (avCells w7 ⟨x.code, x.vendor, x.must, x.prot, A6, N6, c6, x.bs⟩)
      have HUA := Lib.hid (up_alloc w7 (.cells #[.int .u32 x.code, .int .u32 x.vendor, .bool x.must, .bool x.prot, .slice A6 N6 c6] 38))
      have HSz := Lib.hid (show w.heap.size ≤ (w7.alloc (.cells #[.int .u32 x.code, .int .u32 x.vendor, .bool x.must, .bool x.prot, .slice A6 N6 c6] 38)).heap.size from (Up.trans (Up.trans hu.out HU7.out) HUA.out).size)
      clear hst HO6 HW6 HB6
      go_wp2_with (at_builtin; refine wpList_appendG rfl (.tmp 25) (.tmp 27) 29 rfl w.heap.size 38 (.agg #[.int .u32 0, .int .u32 0, .bool false, .bool false, .slice none 0 0]) 5 40 Tryd.underlying29 info38 rfl (by decide) A1 k c1 (rowa out) rfl (HL7.out.up HUA.out).row (some ⟨w7.heap.size, 0, none⟩) 1 1 (rowa [⟨x.code, x.vendor, x.must, x.prot, A6, N6, c6, x.bs⟩]) rfl (by simp [rowa, avc, avcL]) HCL.out (rowa_one _) (by omega) (by omega) HSz.out ?_; intro A' N' c' w' HN HW HO HB)
      have HV := Lib.hid (show Up w _ from Up.trans (Up.trans hu.out HU7.out) HUA.out)
      have HL9 := Lib.hid ((HL7.out.up HUA.out).push (HXC.out.up HUA.out) HXA.out HN.out HW.out HO.out HB.out)
      have HV9 := Lib.hid (show Up w w' from Below.out HV.out HO.out (fun q hq => ((HL7.out.up HUA.out).lt hq).1) HV.out.size)
      have hNk : N' = k + 1 := HN.out
      subst hNk
      go_roundw
      case rel => exact ⟨k + 1, A', c', out ++ [⟨x.code, x.vendor, x.must, x.prot, A6, N6, c6, x.bs⟩], by omega, by omega, by go_num, rfl, HL9, Lib.hid (by rw [HXE.out, List.map_append, hE.out]; rfl), HV9⟩
      case measure => simp [intOf]; omega
    · have HTK := Lib.hid (show (l.map AvB.pure).take k = (l.map AvB.pure).take 200 by
        by_cases h : k = 200
        · rw [h]
        · have h2 : k = n := by omega
          rw [List.take_of_length_le (by rw [HLT.out]; omega), List.take_of_length_le (by rw [HLT.out]; omega)])
      by_cases h : k < n
      · have d1 : decide ((k : Int) < (n : Int)) = true := by simp; omega
        have d2 : decide ((k : Int) < 200) = false := by simp; omega
        go_wp2_with fail
        go_ret
        exact ⟨A1, k, c1, out, rfl, hL, Lib.hid (by rw [hE.out, HTK.out]), Lib.hid hk1, hu⟩
      · have d1 : decide ((k : Int) < (n : Int)) = false := by simp; omega
        go_wp2_with fail
        go_ret
        exact ⟨A1, k, c1, out, rfl, hL, Lib.hid (by rw [hE.out, HTK.out]), Lib.hid hk1, hu⟩
end Go.Proofs.YtghldkjbmfbdfaaDoor
