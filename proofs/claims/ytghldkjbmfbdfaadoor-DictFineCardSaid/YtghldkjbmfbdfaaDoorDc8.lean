import Derived.Test.YtghldkjbmfbdfaaDoorDc7
import Derived.Test.YtghldkjbmfbdfaaDoorAvS
namespace Go.Proofs.YtghldkjbmfbdfaaDoor
open Go Go.RowKit Dc
set_option linter.unusedVariables false
set_option linter.unusedSimpArgs false
/-! The law DictFirst. -/
theorem scan_app {rs : List Ru} {x : Int × Av.Avp} : ∀ {l pre m : List Av.Avp}, scan rs pre l = some x → scan rs pre (l ++ m) = some x
  | [], pre, m, h => by simp [scan] at h
  | a :: l, pre, m, h => by
    by_cases h0 : fault rs pre a = 0
    · rw [scan_cons h0] at h
      rw [List.cons_append, scan_cons h0]
      exact scan_app h
    · rw [scan, if_neg h0] at h
      rw [List.cons_append, scan, if_neg h0]
      exact h
theorem fault_code (rs : List Ru) (l : List Av.Avp) (a : Av.Avp) : fault rs l a = 0 ∨ fault rs l a = 5001 ∨ fault rs l a = 5008 ∨ fault rs l a = 5009 ∨ fault rs l a = 5014 ∨ fault rs l a = 5004 := by
  unfold fault valF
  split
  · split <;> simp
  · repeat' split
    all_goals simp
theorem scan_code {rs : List Ru} {x : Int × Av.Avp} : ∀ {l pre : List Av.Avp}, scan rs pre l = some x → x.1 ≠ 2001 ∧ x.1 ≠ 5005
  | [], pre, h => by simp [scan] at h
  | a :: l, pre, h => by
    by_cases h0 : fault rs pre a = 0
    · rw [scan_cons h0] at h
      exact scan_code h
    · rw [scan, if_neg h0] at h
      have := fault_code rs pre a
      cases h
      show fault rs pre a ≠ 2001 ∧ fault rs pre a ≠ 5005
      omega
theorem judge_app (rs : List Ru) (l m : List Av.Avp) : (judge rs l = (0, [], 2) ∧ judge rs (l ++ m) = (0, [], 2)) ∨ (∃ c f c2 f2, judge rs l = (c, f, 0) ∧ judge rs (l ++ m) = (c2, f2, 0) ∧ (c = 2001 ∨ c = 5005)) ∨ ∃ f a, f ≠ 2001 ∧ f ≠ 5005 ∧ judge rs l = (f, [a], 0) ∧ judge rs (l ++ m) = (f, [a], 0) := by
  cases hs : sound rs
  · exact .inl ⟨judge_bad hs, judge_bad hs⟩
  · have hz : ∀ l, ∃ c f, judge rs l = (c, f, 0) := fun l => by
      unfold judge
      rw [hs]
      simp only [if_true]
      split
      · exact ⟨_, _, rfl⟩
      · split <;> exact ⟨_, _, rfl⟩
    cases h : scan rs [] l with
    | none =>
      obtain ⟨c2, f2, h2⟩ := hz (l ++ m)
      refine .inr (.inl ?_)
      cases hm : missing rs l with
      | none => exact ⟨2001, [], c2, f2, by unfold judge; rw [hs, h, hm]; rfl, h2, .inl rfl⟩
      | some r => exact ⟨5005, [miss r], c2, f2, by unfold judge; rw [hs, h, hm]; rfl, h2, .inr rfl⟩
    | some x =>
      obtain ⟨f, a⟩ := x
      obtain ⟨h1, h2⟩ := scan_code h
      refine .inr (.inr ⟨f, a, h1, h2, ?_, ?_⟩)
      · unfold judge; rw [hs, h]; rfl
      · unfold judge; rw [hs, scan_app h]; rfl
theorem map_len {out : List AvB} {l : List Av.Avp} {n : Nat} (h : out.map AvB.pure = l) (hn : out.length = n) : n = l.length := by rw [← h, List.length_map, hn]
/-- Two rows of one's own, one behind the other. -/
theorem gl_two {B0 : Nat} {w w' : World} {A B A' : Option Addr} {n c m d N c' B1 : Nat} {l k : List AvB} (hl : GL B0 w A n c l) (hk : GL B1 w B m d k) (hb : ∀ q, blk? A = some q → q < B1) (hN : N = n + m) (hrow : w'.ownsRow B0 38 5 (.slice A' N c') N (rowa l ++ rowa k)) (ho : Out (fun q => blk? A = some q) w w') : InL w' A' N c' (l ++ k) := by
  refine ⟨by rw [rowa_append]; exact row_cells hrow, fun x hx => ?_, row_cap hrow, by rw [List.length_append, hl.len, hk.len, hN]⟩
  rcases List.mem_append.1 hx with h | h
  · exact ((hl.av x h).1.out ho (fun q hq e => (hl.av x h).2 q hq e)).avIn
  · exact ((hk.av x h).1.out ho (fun q hq e => by have h1 := (row_lt (hk.av x h).1.own hq).1; have := hb q e; omega)).avIn
set_option maxRecDepth 100000 in
set_option maxHeartbeats 4000000 in
theorem law_first (A B C : Option Addr) (m c n d k e : Nat) (rs : List Ru) (l mo : List AvB) (w : World) (h0 : InR w A m c rs) (h1 : InL w B n d l) (h2 : InL w C k e mo) (hT : Tab w) (u0 : m ≤ 140737488351232) (u1 : n ≤ 140737488351232) (u2 : k ≤ 140737488351232) :
    Calls Tryd.prog 7 #[.slice A m c, .slice B n d, .slice C k e] w (RetB true w) := by
  have H0 := Lib.hid h0
  have H1 := Lib.hid h1
  have H2 := Lib.hid h2
  have HT := Lib.hid hT
  clear h0 h1 h2 hT
  go_enter Tryd.func7, Tryd.ntmps7
  go_wp2_with fail
  refine (answers_any w HT.out).mono ?_
  rintro e1 w1 ⟨rfl, hu⟩
  have HU1 := Lib.hid hu
  clear hu
  go_wp2_with fail
  refine (light_any A m c B n d w1).mono ?_
  rintro e1 w' ⟨rfl, hw⟩
  obtain rfl := hw.symm
  by_cases hli : m ≤ 80 ∧ n ≤ 150
  · rw [decide_eq_true hli]
    obtain ⟨hm80, hn150⟩ := hli
    by_cases h40 : k ≤ 40
    · have d40 : decide (40 < (k : Int)) = false := decide_eq_false (by omega)
      have HLr := Lib.hid H0.out.len
      have HOr := Lib.hid H0.out.ok
      have HE1 := Lib.hid (show (l.map AvB.pure).take 200 = l.map AvB.pure from List.take_of_length_le (by rw [List.length_map, H1.out.len]; omega))
      have HE2 := Lib.hid (show (mo.map AvB.pure).take 200 = mo.map AvB.pure from List.take_of_length_le (by rw [List.length_map, H2.out.len]; omega))
      have HUa := Lib.hid (HU1.out.trans (up_alloc w1 (.cells #[] 40)))
      have HCa := Lib.hid (H0.out.up HUa.out).cells
      have HZa := Lib.hid (show w1.heap.size ≤ (w1.alloc (.cells #[] 40)).heap.size from (up_alloc w1 (.cells #[] 40)).size)
      have HRn := Lib.hid (row40_new w1)
      go_wp2_with (at_builtin; refine wpList_appendG rfl (.tmp 28) (.tmp 29) 28 rfl w1.heap.size 40 (.agg #[.int .u32 0, .int .u32 0, .int .i64 0, .bool false, .int .i64 0, .int .i64 0]) 6 40 Tryd.underlying28 info40 rfl (by decide) (some ⟨w1.heap.size, 0, none⟩) 0 0 [] rfl HRn.out A m c (rowr rs) rfl (by rw [rowr_length, HLr.out]) HCa.out (rowr_one _) (by omega) (by omega) HZa.out ?_; intro A3 N3 c3 w3 HN HW HO HB)
      obtain rfl : m = N3 := by have := HN.out; omega
      have HS3 := Lib.hid (show Up w1 w3 from Below.out (up_alloc w1 (.cells #[] 40)) HO.out (fun q hq => by have h1 : w1.heap.size = q := Option.some.inj hq; omega) (up_alloc w1 (.cells #[] 40)).size)
      have HU3 := Lib.hid (Up.trans HU1.out HS3.out)
      have HR3 := Lib.hid (own_inR (by have h1 := HW.out; rw [List.nil_append] at h1; exact h1) HLr.out HOr.out)
      clear HUa HCa HZa HRn HN HW HO HB HS3
      refine (own_any B n d l w3 (H1.out.up HU3.out) u1).mono ?_
      rintro e1 w4 ⟨A4, n4, c4, out4, rfl, hG4, hM4, hl4, hU4⟩
      rw [HE1.out] at hM4
      have HU4 := Lib.hid (HU3.out.trans hU4.out)
      have HR4 := Lib.hid (HR3.out.up hU4.out)
      clear HR3 hU4
      go_wp2_with fail
      have hj := judge_any A3 m c3 rs A4 n4 c4 out4 w4 HR4.out hG4.out.inL (HT.out.up HU4.out) u0 (by have := hl4.out; omega)
      rw [hM4.out] at hj
      refine Calls.mono hj ?_
      rintro e1 w5 ⟨A5, n5, c5, out5, rfl, hG5, hM5, hl5, hU5⟩
      have HU5 := Lib.hid (HU4.out.trans hU5.out)
      clear hj hU5 HR4 hG4 hM4 hl4
      have HUa := Lib.hid (HU5.out.trans (up_alloc w5 (.cells #[] 40)))
      have HCa := Lib.hid (H0.out.up HUa.out).cells
      have HZa := Lib.hid (show w5.heap.size ≤ (w5.alloc (.cells #[] 40)).heap.size from (up_alloc w5 (.cells #[] 40)).size)
      have HRn := Lib.hid (row40_new w5)
      go_wp2_with (at_builtin; refine wpList_appendG rfl (.tmp 38) (.tmp 39) 28 rfl w5.heap.size 40 (.agg #[.int .u32 0, .int .u32 0, .int .i64 0, .bool false, .int .i64 0, .int .i64 0]) 6 40 Tryd.underlying28 info40 rfl (by decide) (some ⟨w5.heap.size, 0, none⟩) 0 0 [] rfl HRn.out A m c (rowr rs) rfl (by rw [rowr_length, HLr.out]) HCa.out (rowr_one _) (by omega) (by omega) HZa.out ?_; intro A7 N7 c7 w7 HN HW HO HB)
      obtain rfl : m = N7 := by have := HN.out; omega
      have HS7 := Lib.hid (show Up w5 w7 from Below.out (up_alloc w5 (.cells #[] 40)) HO.out (fun q hq => by have h1 : w5.heap.size = q := Option.some.inj hq; omega) (up_alloc w5 (.cells #[] 40)).size)
      have HU7 := Lib.hid (Up.trans HU5.out HS7.out)
      have HR7 := Lib.hid (own_inR (by have h1 := HW.out; rw [List.nil_append] at h1; exact h1) HLr.out HOr.out)
      have HF7 := Lib.hid (hG5.out.up HS7.out)
      clear HUa HCa HZa HRn HN HW HO HB hG5
      refine (own_any B n d l w7 (H1.out.up HU7.out) u1).mono ?_
      rintro e1 w8 ⟨A8, n8, c8, out8, rfl, hG8, hM8, hl8, hU8⟩
      rw [HE1.out] at hM8
      have HU78 := Lib.hid hU8.out
      clear hU8
      go_wp2_with fail
      refine (own_any C k e mo w8 (H2.out.up (HU7.out.trans HU78.out)) u2).mono ?_
      rintro e1 w9 ⟨A9, n9, c9, out9, rfl, hG9, hM9, hl9, hU9⟩
      rw [HE2.out] at hM9
      have HU79 := Lib.hid (Up.trans HU78.out hU9.out)
      have HG9 := Lib.hid (hG8.out.up hU9.out)
      have HB9 := Lib.hid (show ∀ q, blk? A8 = some q → q < w8.heap.size from fun q hq => (hG8.out.lt hq).2)
      have HSZ := Lib.hid HU79.out.size
      clear hU9 hG8 HU78
      have n89 : n8 ≤ 200 ∧ n9 ≤ 200 := ⟨hl8.out, hl9.out⟩
      go_wp2_with (at_builtin; refine wpList_appendG rfl (.tmp 42) (.tmp 44) 29 rfl w7.heap.size 38 (.agg #[.int .u32 0, .int .u32 0, .bool false, .bool false, .slice none 0 0]) 5 40 Tryd.underlying29 info38 rfl (by decide) A8 n8 c8 (rowa out8) rfl HG9.out.row A9 n9 c9 (rowa out9) rfl (by rw [rowa_length, hG9.out.len]) hG9.out.inL.cells (rowa_one _) (by omega) (by omega) HSZ.out ?_; intro AX NX cX wX HNX HWX HOX HBX)
      have HIX := Lib.hid (gl_two HG9.out hG9.out HB9.out HNX.out HWX.out HOX.out)
      have HU7X := Lib.hid (show Up w7 wX from Below.out HU79.out HOX.out (fun q hq => (HG9.out.lt hq).1) HU79.out.size)
      have HUX := Lib.hid (Up.trans HU7.out HU7X.out)
      have hj := judge_any A7 m c7 rs AX NX cX (out8 ++ out9) wX (HR7.out.up HU7X.out) HIX.out (HT.out.up HUX.out) u0 (by have := HNX.out; omega)
      have HF := Lib.hid (HF7.out.up HU7X.out)
      rw [List.map_append, hM8.out, hM9.out] at hj
      refine Calls.mono hj ?_
      rintro e1 wY ⟨AY, nY, cY, outY, rfl, hGY, hMY, hlY, hUY⟩
      have HUY := Lib.hid (Up.trans HUX.out hUY.out)
      have HFY := Lib.hid (HF.out.up hUY.out)
      have h5 := hl5.out
      have hY := hlY.out
      clear hj hUY HF HF7 HR7 HIX HU7X HUX HWX HOX HBX HNX HG9 HB9 hG9 hM8 hM9 hl8 hl9 HSZ HU79 HU7 HS7
      rcases judge_app rs (l.map AvB.pure) (mo.map AvB.pure) with ⟨j1, j2⟩ | ⟨f1, g1, f2, g2, j1, j2, hc⟩ | ⟨f, a, q1, q2, j1, j2⟩
      · rw [j1] at hM5
        rw [j2] at hMY
        rw [j1, j2]
        obtain rfl : n5 = 0 := map_len hM5.out HFY.out.len
        obtain rfl : nY = 0 := map_len hMY.out hGY.out.len
        clear j1 j2
        go_wp2_with fail
        go_ret
        exact ⟨rfl, HUY⟩
      · rw [j1, j2]
        clear j1 j2 hM5 hMY
        rcases hc with rfl | rfl
        · go_wp2_with fail
          go_ret
          exact ⟨rfl, HUY⟩
        · go_wp2_with fail
          go_ret
          exact ⟨rfl, HUY⟩
      · rw [j1] at hM5
        rw [j2] at hMY
        rw [j1, j2]
        have d1 : (f == 2001) = false := by rw [beq_eq_false_iff_ne]; exact q1
        have d2 : (f == 5005) = false := by rw [beq_eq_false_iff_ne]; exact q2
        have HD := Lib.hid (show decide (out5.map AvB.pure = outY.map AvB.pure) = true by rw [hM5.out, hMY.out]; simp)
        clear j1 j2 q1 q2
        go_wp2_with fail
        refine (sameAll_any A5 AY n5 c5 nY cY out5 outY wY HFY.out.inL hGY.out.inL (by omega) (by omega)).mono ?_
        rw [HD.out]
        rintro e1 wZ ⟨rfl, hu⟩
        have HUZ := Lib.hid (Up.trans HUY.out hu.out)
        clear hu
        go_wp2_with fail
        go_ret
        exact ⟨rfl, HUZ⟩
    · have d40 : decide (40 < (k : Int)) = true := decide_eq_true (by omega)
      go_wp2_with fail
      refine (answers_any w1 (HT.out.up HU1.out)).mono ?_
      rintro e1 w2 ⟨rfl, hu⟩
      have HU2 := Lib.hid (HU1.out.trans hu)
      clear hu
      go_wp2_with fail
      go_ret
      exact ⟨rfl, HU2⟩
  · rw [decide_eq_false hli]
    go_wp2_with fail
    refine (answers_any w1 (HT.out.up HU1.out)).mono ?_
    rintro e1 w2 ⟨rfl, hu⟩
    have HU2 := Lib.hid (HU1.out.trans hu)
    clear hu
    go_wp2_with fail
    go_ret
    exact ⟨rfl, HU2⟩
end Go.Proofs.YtghldkjbmfbdfaaDoor
