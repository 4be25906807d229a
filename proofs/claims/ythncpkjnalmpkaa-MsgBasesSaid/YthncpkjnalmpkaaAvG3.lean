import Derived.Test.YthncpkjnalmpkaaAvG2
import Derived.Test.YthncpkjnalmpkaaAvO
import Derived.OwnWalk
namespace Go.Proofs.Ythncpkjnalmpkaa
open Go Go.RowKit
set_option linter.unusedVariables false
set_option linter.unusedSimpArgs false
/-! The program's Get. -/
theorem InB.tail {w : World} {g o m c p : Nat} {xs : List Int} (h : InB w (some ⟨g, o, none⟩) m c xs) (hp : p ≤ m) : InB w (some ⟨g, o + p, none⟩) (m - p) (c - p) (xs.drop p) := by
  have h1 := h.cells.cut p (m - p)
  rw [Option.map_some, add_flat] at h1
  have h2 : ((ints .u8 xs).drop p).take (m - p) = ints .u8 (xs.drop p) := by
    rw [List.take_of_length_le (by rw [List.length_drop, ints_length, h.len]; exact Nat.le_refl _)]
    simp [ints, List.map_drop]
  rw [h2] at h1
  exact ⟨h1, h.byt.drop p, by have := h.cap; omega, by rw [List.length_drop, h.len]⟩
set_option maxRecDepth 100000 in
theorem get_large (A : Option Addr) (m c : Nat) (xs : List Int) (w : World) (hm : xs.length = m) (hn : 4096 < m) (hn2 : m ≤ 140737488355328) : Calls Try.prog 34 #[.slice A m c] w (GetPost xs w) := by
  have HM := Lib.hid hm
  clear hm
  have d1 : decide (4096 < (m : Int)) = true := by simp; omega
  go_enter Try.func34, Try.ntmps34
  go_wp2_with fail
  go_ret3
  exact GetPost.no (p := 0) (k := 4) rfl (.inr ⟨by rw [HM.out]; exact hn, rfl⟩) (Up.refl _)
set_option maxRecDepth 100000 in
set_option maxHeartbeats 4000000 in
theorem get_small (A : Option Addr) (m c : Nat) (xs : List Int) (w : World) (hin : InB w A m c xs) (hn : m ≤ 4096) : Calls Try.prog 34 #[.slice A m c] w (GetPost xs w) := by
  have d1 : decide (4096 < (m : Int)) = false := by simp; omega
  have H := Lib.hid hin
  have HXL := Lib.hid (show xs.length ≤ 4096 by rw [hin.len]; exact hn)
  have hcap := hin.cap
  clear hin
  go_enter Try.func34, Try.ntmps34
  go_wp2_with fail
  go_loopw [2, 3] (fun v i wr => ∃ (out : List AvB) (A1 : Option Addr) (n c1 p : Nat), n ≤ 64 ∧ p ≤ m ∧ v = .slice A1 n c1 ∧ i = .int .i64 (p : Int) ∧ Hid (GL w.heap.size wr A1 n c1 out) ∧ Hid (getA 64 0 xs = joinA (out.map AvB.pure) (getA (64 - n) p (xs.drop p))) ∧ Hid (Up w wr)) (fun v _ _ => match v with | .slice _ n _ => 65 - n | _ => 0)
  case atStart => exact ⟨[], none, 0, 0, 0, by omega, by omega, rfl, rfl, Lib.hid (gl_nil _ _), Lib.hid (by rw [List.map_nil, joinA_nil]; rfl), Lib.hid (Up.refl _)⟩
  case round =>
    obtain ⟨out, A1, n, c1, p, hn64, hp, rfl, rfl, hL, hS, hU⟩ := hrel
    by_cases hpm : p < m
    · have e1 : decide ((p : Int) < (m : Int)) = true := by simp; omega
      have HNE := Lib.hid (show xs.drop p ≠ [] from fun e => by have h1 := congrArg List.length e; rw [List.length_drop, H.out.len, List.length_nil] at h1; omega)
      by_cases h64 : n = 64
      · subst h64
        go_wp2_with fail
        go_ret3
        exact GetPost.no (p := p) (k := 4) rfl (.inl ⟨HXL.out, by rw [hS.out]; exact joinA_full HNE.out⟩) hU.out
      · have d2 : ((n : Int) == 64) = false := by rw [beq_eq_false_iff_ne]; omega
        have HNB := Lib.hid (show 64 - n = (64 - (n + 1)) + 1 by omega)
        obtain ⟨g, o, rfl, -, -⟩ := H.out.cells (fun e => by have h1 := congrArg List.length e; rw [ints_length, H.out.len, List.length_nil] at h1; omega)
        have hcp : ¬ c = p := by omega
        have HI := Lib.hid ((H.out.up hU.out).tail (p := p) (by omega))
        have hmp : m - p ≤ 4096 := by omega
        go_wp2_with fail
        refine (first_any (some ⟨g, o + p, none⟩) (m - p) (c - p) (xs.drop p) wr HI.out hmp).mono ?_
        rintro e wa (⟨k, hk, rfl, hu⟩ | ⟨a, s, hk, A9, n9, c9, rfl, hn9, ho9, hu⟩)
        · have HU2 := Lib.hid (hU.out.trans hu.out)
          have HK := Lib.hid (stepA_ne hk.out)
          have d3 : (k != 0) = true := by simp [HK.out]
          have HUX := Lib.hid (HU2.out.trans (up_alloc wa (.cells #[.int .u32 0, .int .u32 0, .bool false, .bool false, .slice none 0 0] 56)))
          go_wp2_with fail
          go_ret3
          exact GetPost.no (p := p) (k := k) rfl (.inl ⟨HXL.out, by rw [hS.out, HNB.out]; exact joinA_err HNE.out hk.out⟩) HUX.out
        · obtain ⟨ac, av, am, ap, ab⟩ := a
          simp only at hn9 ho9
          have HSB := Lib.hid (stepA_back (H.out.byt.drop p) hk.out)
          have hsm := HSB.out.2.1
          have hs0 := HSB.out.2.2.1
          have HSM := Lib.hid (show p + s ≤ m ∧ 0 < s by rw [List.length_drop, H.out.len] at hsm; omega)
          have HX := Lib.hid (show OwnA w.heap.size wa ⟨ac, av, am, ap, A9, n9, c9, ab⟩ from ⟨ho9.out.base hU.out.size, HSB.out.1, by have h1 := hn9.out; have h2 := HSB.out.2.2.2; rw [encA_length] at h2; have h3 : avLen ⟨ac, av, am, ap, ab⟩ = avHead av + ab.length := rfl; show n9 ≤ _; have := HSM.out; omega⟩)
          have HXA := Lib.hid (show ∀ k, blk? A9 = some k → blk? A1 ≠ some k from fun k h1 h2 => by have h3 := (row_lt ho9.out h1).1; have h4 := (hL.out.lt h2).2; omega)
          have hps : (p : Int) + (s : Int) ≤ 4096 := by have := HSM.out; omega
          have HU2 := Lib.hid (hU.out.trans hu.out)
          have HLa := Lib.hid (hL.out.up hu.out)
          clear hsm hs0 hu ho9 hL hU
          have HCB := Lib.hid (new_at wa (.cells #[.int .u32 ac, .int .u32 av, .bool am, .bool ap, .slice A9 n9 c9] 56))
          have HUa := Lib.hid (up_alloc wa (.cells #[.int .u32 ac, .int .u32 av, .bool am, .bool ap, .slice A9 n9 c9] 56))
          go_upto_region 9 with (fail)
          generalize wa.alloc (.cells #[.int .u32 ac, .int .u32 av, .bool am, .bool ap, .slice A9 n9 c9] 56) = wb at HCB HUa ⊢
          generalize wa.heap.size = pb at HCB ⊢
          have y0 := cell_of HCB.out (j := 0) rfl
          have y1 := cell_of HCB.out (j := 1) rfl
          have y2 := cell_of HCB.out (j := 2) rfl
          have y3 := cell_of HCB.out (j := 3) rfl
          have y4 := cell_of HCB.out (j := 4) rfl
          have HUA := Lib.hid (up_alloc wb (.cells #[.int .u32 ac, .int .u32 av, .bool am, .bool ap, .slice A9 n9 c9] 56))
          have HLb := Lib.hid ((HLa.out.up HUa.out).up HUA.out)
          have HXb := Lib.hid ((HX.out.up HUa.out).up HUA.out)
          have HCL := Lib.hid (avCells wb ⟨ac, av, am, ap, A9, n9, c9, ab⟩)
          have HUb := Lib.hid (Up.trans (Up.trans HU2.out HUa.out) HUA.out)
          have HSz := Lib.hid HUb.out.size
          clear HLa HX HUa HUA
          go_wp2_with (at_builtin; refine wpList_appendG rfl (.tmp 31) (.tmp 33) 23 rfl w.heap.size 56 (.agg #[.int .u32 0, .int .u32 0, .bool false, .bool false, .slice none 0 0]) 5 40 Try.underlying23 info38 rfl (by decide) A1 n c1 (rowa out) rfl HLb.out.row (some ⟨wb.heap.size, 0, none⟩) 1 1 (rowa [⟨ac, av, am, ap, A9, n9, c9, ab⟩]) rfl (by simp [rowa, avc, avcL]) HCL.out (rowa_one _) (by omega) (by omega) HSz.out ?_; intro A' N' c' w' HN HW HO HB)
          have HL9 := Lib.hid (HLb.out.push HXb.out HXA.out HN.out HW.out HO.out HB.out)
          have HU9 := Lib.hid (show Up w w' from Below.out HUb.out HO.out (fun k hk => (HLb.out.lt hk).1) HSz.out)
          have HDD := Lib.hid (show (xs.drop p).drop s = xs.drop (p + s) by rw [List.drop_drop])
          go_roundw
          case rel => exact ⟨out ++ [⟨ac, av, am, ap, A9, n9, c9, ab⟩], A', N', c', p + s, by have := HN.out; omega, HSM.out.1, rfl, by go_num, HL9, Lib.hid (by rw [hS.out, HNB.out, joinA_step HNE.out hk.out, HN.out, HDD.out]; simp [AvB.pure]), HU9⟩
          case measure => have := HN.out; show 65 - N' < 65 - n; omega
    · obtain rfl : p = m := by omega
      have e1 : decide ((p : Int) < (p : Int)) = false := by simp
      have HE := Lib.hid (show xs.drop p = [] from List.drop_of_length_le (by rw [H.out.len]; exact Nat.le_refl _))
      go_wp2_with fail
      go_ret3
      exact ⟨out, 0, 0, A1, n, c1, rfl, Lib.hid (.inl ⟨HXL.out, by rw [hS.out, HE.out]; exact joinA_end⟩), hL, Lib.hid hn64, hU⟩
theorem get_any' (A : Option Addr) (m c : Nat) (xs : List Int) (w : World) (hin : InB w A m c xs) (hm : m ≤ 140737488355328) : Calls Try.prog 34 #[.slice A m c] w (GetPost xs w) := by
  by_cases h : 4096 < m
  · exact get_large A m c xs w hin.len h hm
  · exact get_small A m c xs w hin (by omega)
end Go.Proofs.Ythncpkjnalmpkaa
