import Derived.Test.YtfbjhialjepodaaNtTk
namespace Go.Proofs.Ytfbjhialjepodaa
open Go Go.RowKit
set_option linter.unusedVariables false
theorem zero34 (w : World) : (zeroValue 34).run Try.prog w = .ok (.agg (refCells 0)) w := by kernel_rfl
theorem ref_ne : ¬ refCells 0 = #[] := by simp [refCells]
theorem ref_set (h : Int) : (refCells 0).setIfInBounds 0 (.int .i64 h) = refCells h := by simp [refCells]
section
variable {IsN IsR : (Nat → Prop) → World → Addr → Nt.St → Prop}
def Same (IsN IsR : (Nat → Prop) → World → Addr → Nt.St → Prop) (w : World) (p r : Addr) (wx : World) : Prop := ∃ st, AtD IsN IsR w p r st st wx
set_option maxRecDepth 100000 in
set_option maxHeartbeats 2000000 in
theorem law_netacts_ok (C : NC IsN) (R : RC IsR) (h : Int) (hh : 1 ≤ h ∧ h ≤ 8) (A : Option Addr) (n c : Nat) (xs : List ActD) (w : World) (hx : Acts w A n xs) (hn : n * 88 ≤ reachBytes) :
    Calls Try.prog 3 #[.int .i64 h, .slice A n c] w (True2 w) := by
  have HC := Lib.hid C
  have HR := Lib.hid R
  have HA := Lib.hid (answers_n C)
  have HX := Lib.hid hx
  have hn2 : n ≤ 140737488351232 := by simp only [reachBytes] at hn; omega
  obtain ⟨ha, hb⟩ := hh
  clear C R hx hn
  go_enter Try.func3, Try.ntmps3
  go_wp2_with fail
  refine (HC.out.new h _ ha hb).mono ?_
  rintro e w1 ⟨p, S, rfl, h1, hf, hu⟩
  have I1 := Lib.hid h1
  have F := Lib.hid hf
  have U := Lib.hid hu
  clear h1 hf hu
  go_wp2_with fail
  refine (HA.out _).mono ?_
  rintro e w2 ⟨rfl, hu2⟩
  go_upto_region 4 with (fail)
  have hz := zero34 w2
  have hne : ¬ refCells 0 = #[] := ref_ne
  have hse : (refCells 0).setIfInBounds 0 (.int .i64 h) = refCells h := ref_set h
  go_wp2_with fail
  have hlt2 : ∀ k, S k → k < w2.heap.size := fun k hk => Nat.lt_of_lt_of_le (HC.out.lt I1.out k hk) hu2.size
  have ur := up_alloc w2 (.cells (refCells h) 34)
  have A0 := Lib.hid (show Same IsN IsR w p ⟨w2.heap.size, 0, none⟩ (w2.alloc (.cells (refCells h) 34)) from ⟨_, S, _, HC.out.up (HC.out.up I1.out hu2) ur, HR.out.new h w2 ha hb, fun k hk e => by have := hlt2 k hk; omega, ⟨F.out, fun k e => by have := U.out.size; have := hu2.size; omega⟩, (U.out.trans hu2).trans ur⟩)
  clear I1 F U hu2 hz hne hse hlt2 ur HA
  generalize (w2.alloc (.cells (refCells h) 34)) = w3 at A0 ⊢
  generalize w2.heap.size = rb at A0 ⊢
  go_loopw [8] (fun s wx => ∃ i : Nat, i ≤ n ∧ s = .int .i64 i ∧ Hid (Same IsN IsR w p ⟨rb, 0, none⟩ wx)) (fun s _ => n - (intOf s).toNat)
  case atStart => exact ⟨0, Nat.zero_le _, rfl, A0⟩
  case round =>
    obtain ⟨i, hi, rfl, hS⟩ := hrel
    clear A0
    by_cases hlt : i < n ∧ i < 200
    · obtain ⟨hlt, hlt2⟩ := hlt
      obtain ⟨st, hD⟩ := hS.out
      have hxl : xs.length = n := HX.out.1
      obtain ⟨x, hxi⟩ : ∃ x, xs[i]? = some x := ⟨xs[i]'(by omega), by simp [hxl, hlt]⟩
      obtain ⟨b, o, Ai, ci, rfl, hcell, hok⟩ := HX.out.2 i x hxi
      have hup : Up w wr := by
        obtain ⟨_, _, _, _, _, _, h5⟩ := hD
        exact h5
      have HOK := Lib.hid hok
      have HD := Lib.hid hD
      have k0 : wr.cell? ⟨b, o + i * 10, none⟩ = some (.int .i64 x.kind) := cell_up (hcell 0 _ rfl) hup
      have k1 : wr.cell? ⟨b, o + i * 10 + 1, none⟩ = some (.int .i64 x.k) := cell_up (hcell 1 _ rfl) hup
      have k2 : wr.cell? ⟨b, o + i * 10 + 2, none⟩ = some (.int .i64 x.at_) := cell_up (hcell 2 _ rfl) hup
      have k3 : wr.cell? ⟨b, o + i * 10 + 3, none⟩ = some (.int .i64 x.fh) := cell_up (hcell 3 _ rfl) hup
      have k4 : wr.cell? ⟨b, o + i * 10 + 4, none⟩ = some (.int .i64 x.fp) := cell_up (hcell 4 _ rfl) hup
      have k5 : wr.cell? ⟨b, o + i * 10 + 5, none⟩ = some (.int .i64 x.th) := cell_up (hcell 5 _ rfl) hup
      have k6 : wr.cell? ⟨b, o + i * 10 + 6, none⟩ = some (.int .i64 x.tp) := cell_up (hcell 6 _ rfl) hup
      have k7 : wr.cell? ⟨b, o + i * 10 + 7, none⟩ = some (.slice Ai x.bytes.length ci) := cell_up (hcell 7 _ rfl) hup
      have k8 : wr.cell? ⟨b, o + i * 10 + 8, none⟩ = some (.int .u8 x.bits) := cell_up (hcell 8 _ rfl) hup
      have k9 : wr.cell? ⟨b, o + i * 10 + 9, none⟩ = some (.bool x.down) := cell_up (hcell 9 _ rfl) hup
      clear hS hcell hok hD hup hxi hxl
      go_wp2_with fail
      clear k0 k1 k2 k3 k4 k5 k6 k7 k8 k9
      refine (act_all HC.out HR.out w p ⟨rb, 0, none⟩ st x Ai ci wr HD.out HOK.out).mono ?_
      rintro e w4 ⟨rfl, h4⟩
      have HD := Lib.hid h4
      clear h4
      go_wp2_with fail
      refine (alike HC.out HR.out w p ⟨rb, 0, none⟩ (actT st x) w4 HD.out).mono ?_
      rintro e w5 ⟨rfl, h5⟩
      have HS := Lib.hid (show Same IsN IsR w p ⟨rb, 0, none⟩ w5 from ⟨_, h5⟩)
      clear h5
      go_wp2_with fail
      go_roundw
      case rel => exact ⟨i + 1, by omega, by go_num, HS⟩
      case measure => simp [intOf]; omega
    · have hup : Up w wr := by
        obtain ⟨st, _, _, _, _, _, _, h5⟩ := hS.out
        exact h5
      have HUP := Lib.hid hup
      clear hup
      go_wp2_with fail
      all_goals go_ret
      all_goals exact ⟨rfl, HUP.out⟩
set_option maxRecDepth 100000 in
set_option maxHeartbeats 2000000 in
theorem law_netacts_no (C : NC IsN) (h : Int) (hi : I64n h) (hh : ¬ (1 ≤ h ∧ h ≤ 8)) (A : Option Addr) (n c : Nat) (w : World) (hn2 : n ≤ 140737488351232) :
    Calls Try.prog 3 #[.int .i64 h, .slice A n c] w (True2 w) := by
  have HC := Lib.hid C
  have HA := Lib.hid (answers_n C)
  have HI := Lib.hid hi
  have hh2 : h < 1 ∨ 8 < h := by omega
  clear C hi hh
  have key : ∀ w1 : World, Up w w1 → Calls Try.prog 9 #[] w1 (True2 w1) := fun w1 _ => HA.out w1
  go_enter Try.func3, Try.ntmps3
  go_wp2_with fail
  refine (HC.out.newNo h _ HI.out hh2).mono ?_
  rintro e w1 ⟨rfl, hu⟩
  have U := Lib.hid hu
  clear hu
  go_wp2_with fail
  refine (HA.out _).mono ?_
  rintro e w2 ⟨rfl, hu2⟩
  have U2 := Lib.hid (U.out.trans hu2)
  clear hu2 key
  rcases hh2 with hq | hq
  all_goals
    go_upto_region 4 with (fail)
    have hz := zero34 w2
    have hne : ¬ refCells 0 = #[] := ref_ne
    have hse : (refCells 0).setIfInBounds 0 (.int .i64 h) = refCells h := ref_set h
    go_wp2_with fail
    have U3 := Lib.hid (U2.out.trans (up_alloc w2 (.cells (refCells h) 34)))
    clear hz hne hse
    generalize (w2.alloc (.cells (refCells h) 34)) = w3 at U3 ⊢
    go_loopw [8] (fun s wx => s = .int .i64 0 ∧ Hid (Up w wx)) (fun s _ => 0)
    case atStart => exact ⟨rfl, U3⟩
    case round =>
      obtain ⟨rfl, hS⟩ := hrel
      clear U3 U2 U
      by_cases h0 : 0 < n
      · go_wp2_with fail
        all_goals go_ret
        all_goals exact ⟨rfl, hS.out⟩
      · go_wp2_with fail
        all_goals go_ret
        all_goals exact ⟨rfl, hS.out⟩
theorem law_netacts (C : NC IsN) (R : RC IsR) (h : Int) (hi : I64n h) (A : Option Addr) (n c : Nat) (xs : List ActD) (w : World) (hx : Acts w A n xs) (hn : n * 88 ≤ reachBytes) : Calls Try.prog 3 #[.int .i64 h, .slice A n c] w (True2 w) := by
  by_cases hh : 1 ≤ h ∧ h ≤ 8
  · exact law_netacts_ok C R h hh A n c xs w hx hn
  · exact law_netacts_no C h hi hh A n c w (by simp only [reachBytes] at hn; omega)
end
end Go.Proofs.Ytfbjhialjepodaa
