import Derived.Test.YtghldkjbmfbdfaaDoorDcJ1
import Derived.Test.YtghldkjbmfbdfaaDoorDc8
namespace Go.Proofs.YtghldkjbmfbdfaaDoor
open Go Go.RowKit Dc
set_option linter.unusedVariables false
set_option linter.unusedSimpArgs false
/-! The law DictJudges. -/
set_option maxRecDepth 100000 in
set_option maxHeartbeats 4000000 in
theorem law_judges (A B : Option Addr) (m c n d : Nat) (rs : List Ru) (l : List AvB) (w : World) (h0 : InR w A m c rs) (h1 : InL w B n d l) (hT : Tab w) (u0 : m ≤ 140737488351232) (u1 : n ≤ 140737488351232) :
    Calls Tryd.prog 4 #[.slice A m c, .slice B n d] w (RetB true w) := by
  have H0 := Lib.hid h0
  have H1 := Lib.hid h1
  have HT := Lib.hid hT
  clear h0 h1 hT
  go_enter Tryd.func4, Tryd.ntmps4
  go_wp2_with fail
  refine (answers_any w HT.out).mono ?_
  rintro e1 w1 ⟨rfl, hu⟩
  have HU1 := Lib.hid hu
  clear hu
  go_wp2_with fail
  refine (light_any A m c B n d w1).mono ?_
  rintro e1 w' ⟨rfl, hw⟩
  obtain rfl := hw.symm
  by_cases hli : m ≤ 80 ∧ n ≤ 150
  · rw [decide_eq_true hli]
    obtain ⟨hm80, hn150⟩ := hli
    have HLr := Lib.hid H0.out.len
    have HOr := Lib.hid H0.out.ok
    have HE1 := Lib.hid (show (l.map AvB.pure).take 200 = l.map AvB.pure from List.take_of_length_le (by rw [List.length_map, H1.out.len]; omega))
    have HUa := Lib.hid (HU1.out.trans (up_alloc w1 (.cells #[] 40)))
    have HCa := Lib.hid (H0.out.up HUa.out).cells
    have HZa := Lib.hid (show w1.heap.size ≤ (w1.alloc (.cells #[] 40)).heap.size from (up_alloc w1 (.cells #[] 40)).size)
    have HRn := Lib.hid (row40_new w1)
    go_wp2_with (at_builtin; refine wpList_appendG rfl (.tmp 21) (.tmp 22) 28 rfl w1.heap.size 40 (.agg #[.int .u32 0, .int .u32 0, .int .i64 0, .bool false, .int .i64 0, .int .i64 0]) 6 40 Tryd.underlying28 info40 rfl (by decide) (some ⟨w1.heap.size, 0, none⟩) 0 0 [] rfl HRn.out A m c (rowr rs) rfl (by rw [rowr_length, HLr.out]) HCa.out (rowr_one _) (by omega) (by omega) HZa.out ?_; intro A3 N3 c3 w3 HN HW HO HB)
    obtain rfl : m = N3 := by have := HN.out; omega
    have HS3 := Lib.hid (show Up w1 w3 from Below.out (up_alloc w1 (.cells #[] 40)) HO.out (fun q hq => by have h1 : w1.heap.size = q := Option.some.inj hq; omega) (up_alloc w1 (.cells #[] 40)).size)
    have HU3 := Lib.hid (Up.trans HU1.out HS3.out)
    have HR3 := Lib.hid (own_inR (by have h1 := HW.out; rw [List.nil_append] at h1; exact h1) HLr.out HOr.out)
    clear HUa HCa HZa HRn HN HW HO HB HS3
    refine (own_any B n d l w3 (H1.out.up HU3.out) u1).mono ?_
    rintro e1 w4 ⟨A4, n4, c4, out4, rfl, hG4, hM4, hl4, hU4⟩
    rw [HE1.out] at hM4
    have HU4 := Lib.hid (HU3.out.trans hU4.out)
    have HR4 := Lib.hid (HR3.out.up hU4.out)
    clear HR3 hU4
    go_wp2_with fail
    have hj := judge_any A3 m c3 rs A4 n4 c4 out4 w4 HR4.out hG4.out.inL (HT.out.up HU4.out) u0 (by have := hl4.out; omega)
    rw [hM4.out] at hj
    refine Calls.mono hj ?_
    rintro e1 w5 ⟨A5, n5, c5, out5, rfl, hG5, hM5, hl5, hU5⟩
    have HU5 := Lib.hid (HU4.out.trans hU5.out)
    clear hj hU5 HR4 hG4 hM4 hl4
    go_wp2_with fail
    refine (rjudge_any A m c rs B n d l w5 (H0.out.up HU5.out) (H1.out.up HU5.out) u0 u1).mono ?_
    rintro e1 w6 ⟨A6, n6, c6, out6, rfl, hG6, hM6, hl6, hU6⟩
    have HU6 := Lib.hid (HU5.out.trans hU6.out)
    have HG5 := Lib.hid (hG5.out.inL.up hU6.out)
    clear hU6 hG5
    have HD := Lib.hid (show decide (out5.map AvB.pure = out6.map AvB.pure) = true by rw [hM5.out, hM6.out]; simp)
    clear hM5 hM6
    generalize (judge rs (l.map AvB.pure)).1 = J1
    generalize (judge rs (l.map AvB.pure)).2.2 = J2
    have HUa := Lib.hid (HU6.out.trans (up_alloc w6 (.cells #[] 40)))
    have HCa := Lib.hid (H0.out.up HUa.out).cells
    have HZa := Lib.hid (show w6.heap.size ≤ (w6.alloc (.cells #[] 40)).heap.size from (up_alloc w6 (.cells #[] 40)).size)
    have HRn := Lib.hid (row40_new w6)
    go_wp2_with (at_builtin; refine wpList_appendG rfl (.tmp 37) (.tmp 38) 28 rfl w6.heap.size 40 (.agg #[.int .u32 0, .int .u32 0, .int .i64 0, .bool false, .int .i64 0, .int .i64 0]) 6 40 Tryd.underlying28 info40 rfl (by decide) (some ⟨w6.heap.size, 0, none⟩) 0 0 [] rfl HRn.out A m c (rowr rs) rfl (by rw [rowr_length, HLr.out]) HCa.out (rowr_one _) (by omega) (by omega) HZa.out ?_; intro A7 N7 c7 w7 HN HW HO HB)
    obtain rfl : m = N7 := by have := HN.out; omega
    have HS7 := Lib.hid (show Up w6 w7 from Below.out (up_alloc w6 (.cells #[] 40)) HO.out (fun q hq => by have h1 : w6.heap.size = q := Option.some.inj hq; omega) (up_alloc w6 (.cells #[] 40)).size)
    have HU7 := Lib.hid (Up.trans HU6.out HS7.out)
    have HR7 := Lib.hid (own_inR (by have h1 := HW.out; rw [List.nil_append] at h1; exact h1) HLr.out HOr.out)
    have HG7 := Lib.hid (HG5.out.up HS7.out)
    have HG8 := Lib.hid (hG6.out.up HS7.out)
    clear HUa HCa HZa HRn HN HW HO HB HS7 HG5 hG6
    refine (sound_any A7 m c7 rs w7 HR7.out u0).mono ?_
    rintro e1 w8 ⟨rfl, hu⟩
    have HU8 := Lib.hid (HU7.out.trans hu)
    have HG7 := Lib.hid (HG7.out.up hu)
    have HG8 := Lib.hid (HG8.out.up hu)
    clear hu
    go_wp2_with fail
    refine (rulesOK_any A m c rs w8 (H0.out.up HU8.out) u0).mono ?_
    rintro e1 w9 ⟨rfl, hu⟩
    have HU9 := Lib.hid (HU8.out.trans hu)
    have HG7 := Lib.hid (HG7.out.up hu)
    have HG8 := Lib.hid (HG8.out.up hu)
    have h5 := hl5.out
    have h6 := hl6.out
    clear hu HU8 HU7
    have e1 : (sound rs == sound rs) = true := by simp
    generalize sound rs = S at e1 ⊢
    have e2 : (J1 == J1) = true := by simp
    have e3 : (J2 == J2) = true := by simp
    go_wp2_with fail
    refine (sameAll_any A5 A6 n5 c5 n6 c6 out5 out6 w9 HG7.out HG8.out (by omega) (by omega)).mono ?_
    rw [HD.out]
    rintro e1 wZ ⟨rfl, hu⟩
    have HUZ := Lib.hid (Up.trans HU9.out hu.out)
    clear hu
    go_wp2_with fail
    go_ret
    exact ⟨rfl, HUZ⟩
  · rw [decide_eq_false hli]
    go_wp2_with fail
    refine (answers_any w1 (HT.out.up HU1.out)).mono ?_
    rintro e1 w2 ⟨rfl, hu⟩
    have HU2 := Lib.hid (HU1.out.trans hu)
    clear hu
    go_wp2_with fail
    go_ret
    exact ⟨rfl, HU2⟩
end Go.Proofs.YtghldkjbmfbdfaaDoor
