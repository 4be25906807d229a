import Derived.Test.YthncpkjnalmpkaaAvR2a
import Derived.Test.YthncpkjnalmpkaaAvG3
namespace Go.Proofs.Ythncpkjnalmpkaa
open Go Go.RowKit
set_option linter.unusedVariables false
set_option linter.unusedSimpArgs false
/-! The reference's Get. -/
def roomA (v : Value) : Nat := match v with | .slice _ n _ => 65 - n | _ => 0
theorem gl_out {B0 : Nat} {T : Nat → Prop} {w w' : World} {A : Option Addr} {n c : Nat} {out : List AvB} (h : GL B0 w A n c out) (ho : Out T w w') (ht : ∀ k, (blk? A = some k ∨ ∃ x ∈ out, blk? x.A = some k) → ¬ T k) : GL B0 w' A n c out :=
  ⟨ho.own h.row (fun g hg => ht g (.inl (by rwa [ownBlock_slice] at hg))), h.len, fun x hx => ⟨(h.av x hx).1.out ho (fun k hk => ht k (.inr ⟨x, hx, hk⟩)), (h.av x hx).2⟩⟩
theorem cells_sub {w : World} {g o m c a k : Nat} {xs : List Int} (h : InB w (some ⟨g, o, none⟩) m c xs) (hk : a + k ≤ m) (hz : c = a → k = 0) : Cells w (if c = a then some ⟨g, o, none⟩ else some ⟨g, o + a, none⟩) (ints .u8 ((xs.drop a).take k)) := by
  by_cases e : c = a
  · rw [hz e]; simpa [ints] using Cells.nil _ _
  · rw [if_neg e]
    have h1 := h.cells.cut a k
    rw [Option.map_some, add_flat] at h1
    simpa [ints, List.map_take, List.map_drop] using h1
set_option maxRecDepth 100000 in
theorem rget_large (A : Option Addr) (m c : Nat) (xs : List Int) (w : World) (hm : xs.length = m) (hn : 4096 < m) (hn2 : m ≤ 140737488355328) : Calls Try.prog 35 #[.slice A m c] w (GetPost xs w) := by
  have HM := Lib.hid hm
  clear hm
  have d1 : decide (4096 < (m : Int)) = true := by simp; omega
  go_enter Try.func35, Try.ntmps35
  go_wp2_with fail
  go_ret3
  exact GetPost.no (p := 0) (k := 4) rfl (.inr ⟨by rw [HM.out]; exact hn, rfl⟩) (Up.refl _)
set_option maxRecDepth 100000 in
set_option maxHeartbeats 20000000 in
theorem rget_small (A : Option Addr) (m c : Nat) (xs : List Int) (w : World) (hin : InB w A m c xs) (hn : m ≤ 4096) : Calls Try.prog 35 #[.slice A m c] w (GetPost xs w) := by
  have d1 : decide (4096 < (m : Int)) = false := by simp; omega
  have H := Lib.hid hin
  have HXL := Lib.hid (show xs.length ≤ 4096 by rw [hin.len]; exact hn)
  have hcap := hin.cap
  clear hin
  go_enter Try.func35, Try.ntmps35
  go_wp2_with fail
  go_loopw [5, 6] (fun v i wr => ∃ (out : List AvB) (A1 : Option Addr) (n c1 p : Nat), n ≤ 64 ∧ p ≤ m ∧ v = .slice A1 n c1 ∧ i = .int .i64 (p : Int) ∧ Hid (GL w.heap.size wr A1 n c1 out) ∧ Hid (getA 64 0 xs = joinA (out.map AvB.pure) (getA (64 - n) p (xs.drop p))) ∧ Hid (Up w wr)) (fun v _ _ => roomA v)
  case atStart => exact ⟨[], none, 0, 0, 0, by omega, by omega, rfl, rfl, Lib.hid (gl_nil _ _), Lib.hid (by rw [List.map_nil, joinA_nil]; rfl), Lib.hid (Up.refl _)⟩
  case round =>
    obtain ⟨out, A1, n, c1, p, hn64, hp, rfl, rfl, hL, hS, hU⟩ := hrel
    by_cases hpm : p < m
    · have e1 : decide ((p : Int) < (m : Int)) = true := by simp; omega
      have HNE := Lib.hid (show xs.drop p ≠ [] from fun e => by have h1 := congrArg List.length e; rw [List.length_drop, H.out.len, List.length_nil] at h1; omega)
      by_cases h64 : n = 64
      · subst h64
        go_wp2_with fail
        go_ret3
        exact GetPost.no (p := p) (k := 4) rfl (.inl ⟨HXL.out, by rw [hS.out]; exact joinA_full HNE.out⟩) hU.out
      · have d2 : decide ((64 : Int) ≤ (n : Int)) = false := by simp; omega
        have HNB := Lib.hid (show 64 - n = (64 - (n + 1)) + 1 by omega)
        obtain ⟨g, o, rfl, -, hcl⟩ := H.out.cells (fun e => by have h1 := congrArg List.length e; rw [ints_length, H.out.len, List.length_nil] at h1; omega)
        have HIw := Lib.hid (H.out.up hU.out)
        have HBYT := Lib.hid H.out.byt
        obtain ⟨B, hB⟩ := Int.eq_ofNat_of_zero_le (getD_byt H.out.byt (p + 4)).1
        obtain ⟨N, hN⟩ := Int.eq_ofNat_of_zero_le (num_bd ((xs.drop (p + 5)).take 3) ((H.out.byt.drop (p + 5)).take 3)).1
        have HST := Lib.hid (stepA_at (p := p) (B := B) (N := N) (by rw [H.out.len]; exact hp) hB hN rfl rfl)
        have HXM := Lib.hid H.out.len
        have HBB := Lib.hid (show B < 256 by have := (getD_byt H.out.byt (p + 4)).2; omega)
        have HNN := Lib.hid (show N < 16777216 by
          have h1 := (num_bd ((xs.drop (p + 5)).take 3) ((H.out.byt.drop (p + 5)).take 3)).2
          have h2 : ((xs.drop (p + 5)).take 3).length ≤ 3 := by rw [List.length_take]; omega
          have h3 : (256 : Int) ^ ((xs.drop (p + 5)).take 3).length ≤ 16777216 := by
            match ((xs.drop (p + 5)).take 3).length, h2 with
            | 0, _ => decide
            | 1, _ => decide
            | 2, _ => decide
            | 3, _ => decide
          omega)
        have HNU := Lib.hid hN
        have HER := Lib.hid (show ∀ k, stepA (xs.drop p) = .error k → GetRes xs ([], p, k) from fun k hk => .inl ⟨HXL.out, by rw [hS.out, HNB.out]; exact joinA_err HNE.out hk⟩)
        clear hN
        by_cases hs8 : m - p < 8
        · have e8 : decide ((m : Int) - (p : Int) < 8) = true := by simp; omega
          have HE := Lib.hid (HER.out 3 (by rw [HST.out, if_pos (.inl (by rw [HXM.out]; exact hs8))]))
          go_wp2_with fail
          go_ret3
          exact GetPost.no (p := p) (k := 3) rfl HE.out hU.out
        · have e8 : decide ((m : Int) - (p : Int) < 8) = false := by simp; omega
          have hB4 : wr.cell? ⟨g, o + (p + 4), none⟩ = some (.int .u8 (B : Int)) := by
            obtain ⟨g', o', e, -, hc⟩ := HIw.out.cells (fun e => by have h1 := congrArg List.length e; rw [ints_length, H.out.len, List.length_nil] at h1; omega)
            injection e with e
            injection e with e1 e2
            subst e1 e2
            refine hc (p + 4) _ ?_
            have hl : p + 4 < xs.length := by rw [H.out.len]; omega
            have hB' := hB
            simp only [List.getD, List.getElem?_eq_getElem hl, Option.getD_some] at hB'
            simp [ints, List.getElem?_map, List.getElem?_eq_getElem hl, hB']
          have HB4 := Lib.hid hB4
          clear hcl hB
          by_cases hv : 128 ≤ B
          · have e128 : decide ((128 : Int) ≤ (B : Int)) = true := by simp; omega
            by_cases h12 : m - p < 12
            · have e12 : decide ((m : Int) - (p : Int) < 12) = true := by simp; omega
              have HE := Lib.hid (HER.out 3 (by rw [HST.out, if_pos (.inr ⟨hv, by rw [HXM.out]; exact h12⟩)]))
              go_wp2_with fail
              go_ret3
              exact GetPost.no (p := p) (k := 3) rfl HE.out hU.out
            · have e12 : decide ((m : Int) - (p : Int) < 12) = false := by simp; omega
              have HST2 := Lib.hid (by have h := HST.out; rw [if_neg (by rw [HXM.out]; omega), if_pos hv, if_pos hv] at h; exact h)
              go_wp2_with fail
              refine (rnum_ok (some ⟨g, o, none⟩) m c (p + 5) 3 xs wr HIw.out (by omega) (by omega) (by omega) (by omega)).mono ?_
              rw [HNU.out]
              rintro e wa ⟨rfl, hu⟩
              have HIa := Lib.hid (HIw.out.up hu)
              have hLa := Lib.hid (hL.out.up hu)
              have hUa := Lib.hid (hU.out.trans hu)
              have HB4a := Lib.hid (cell_up HB4.out hu)
              clear hL hU HB4 hB4 hu HIw
              obtain ⟨wr, rfl⟩ : ∃ wx, wx = wa := ⟨_, rfl⟩
              have hL := hLa
              have hU := hUa
              have HIw := HIa
              have HB4 := HB4a
              clear hLa hUa HIa HB4a
              have hNN := HNN.out
              by_cases hf : N < 12
              · have ef : decide ((N : Int) < 12) = true := by simp; omega
                have HE := Lib.hid (HER.out 2 (by rw [HST2.out, if_pos hf]))
                go_wp2_with fail
                go_ret3
                exact GetPost.no (p := p) (k := 2) rfl HE.out hU.out
              · have ef : decide ((N : Int) < 12) = false := by simp; omega
                have hpN := padN_lt N
                go_wp2_with fail
                refine (refpad_any N wr (by omega)).mono ?_
                rintro e w' ⟨rfl, rfl⟩
                by_cases hcut : m - p < N + padN N
                · have ec : decide ((m : Int) - (p : Int) < (N : Int) + (padN N : Int)) = true := by simp; omega
                  have HE := Lib.hid (HER.out 3 (by rw [HST2.out, if_neg hf, if_pos (by rw [HXM.out]; exact hcut)]))
                  go_wp2_with fail
                  go_ret3
                  exact GetPost.no (p := p) (k := 3) rfl HE.out hU.out
                · have ec : decide ((m : Int) - (p : Int) < (N : Int) + (padN N : Int)) = false := by simp; omega
                  obtain ⟨C, hC⟩ : ∃ C, num 0 ((xs.drop p).take 4) = C := ⟨_, rfl⟩
                  have HCC := Lib.hid hC
                  have HCB := Lib.hid (show 0 ≤ C ∧ C < 4294967296 by rw [← hC]; exact num_u32 HBYT.out p 4 (by omega))
                  clear hC
                  go_upto_region 18 with (fail)
                  have HK : ∀ φ ∈ [Is (.slice (some ⟨g, o, none⟩) m c), Is (.int .i64 (p : Int)), Is (.int .i64 C), Is (.int .u32 C), Is (.slice (some ⟨g, o, none⟩) m c), Is (.int .i64 (p : Int)), Is (.int .i64 ((p + 4 : Nat) : Int)), Is (.pointer (some ⟨g, o + (p + 4), none⟩)), Is (.int .u8 (B : Int)), Is (.int .u8 ((B / 64 : Nat) : Int)), Is (.int .u8 ((B / 64 % 2 : Nat) : Int)), Is (.bool (decide (B / 64 % 2 = 1))), Is (.slice (some ⟨g, o, none⟩) m c), Is (.int .i64 (p : Int)), Is (.int .i64 ((p + 4 : Nat) : Int)), Is (.pointer (some ⟨g, o + (p + 4), none⟩)), Is (.int .u8 (B : Int)), Is (.int .u8 ((B / 32 : Nat) : Int)), Is (.int .u8 ((B / 32 % 2 : Nat) : Int)), Is (.bool (decide (B / 32 % 2 = 1))), Is (.agg #[.int .u32 C, .int .u32 0, .bool (decide (B / 64 % 2 = 1)), .bool (decide (B / 32 % 2 = 1)), .slice none 0 0]), NewA wr.heap.size], Keeps φ := by
                    simp [keeps_is, keeps_newA]
                  refine staged_last (l := [_, _, _, _, _, _, _, _, _, _, _, _, _, _, _, _, _, _, _, _, _, _]) (by kernel_rfl) (facts [Is (.slice (some ⟨g, o, none⟩) m c), Is (.int .i64 (p : Int)), Is (.int .i64 C), Is (.int .u32 C), Is (.slice (some ⟨g, o, none⟩) m c), Is (.int .i64 (p : Int)), Is (.int .i64 ((p + 4 : Nat) : Int)), Is (.pointer (some ⟨g, o + (p + 4), none⟩)), Is (.int .u8 (B : Int)), Is (.int .u8 ((B / 64 : Nat) : Int)), Is (.int .u8 ((B / 64 % 2 : Nat) : Int)), Is (.bool (decide (B / 64 % 2 = 1))), Is (.slice (some ⟨g, o, none⟩) m c), Is (.int .i64 (p : Int)), Is (.int .i64 ((p + 4 : Nat) : Int)), Is (.pointer (some ⟨g, o + (p + 4), none⟩)), Is (.int .u8 (B : Int)), Is (.int .u8 ((B / 32 : Nat) : Int)), Is (.int .u8 ((B / 32 % 2 : Nat) : Int)), Is (.bool (decide (B / 32 % 2 = 1))), Is (.agg #[.int .u32 C, .int .u32 0, .bool (decide (B / 64 % 2 = 1)), .bool (decide (B / 32 % 2 = 1)), .slice none 0 0]), NewA wr.heap.size]) (Stg [] (fun _ w1 => Up wr w1)) 121 rfl (by decide +kernel) (by decide +kernel) (by decide +kernel) rfl (Stg.start (Up.drew wr)) ?_ ?_
                  · refine ⟨?_, ?_, ?_, ?_, ?_, ?_, ?_, ?_, ?_, ?_, ?_, ?_, ?_, ?_, ?_, ?_, ?_, ?_, ?_, ?_, ?_, ?_, trivial⟩
                    · refine opS_same rfl rfl fun Lx ac w1 hJ hl hc ho hd => ?_
                      have s0 : ac.eval (.tmp 0) = .slice (some ⟨g, o, none⟩) m c := ho 0 rfl
                      exact ⟨_, x_move (.tmp 0) rfl s0, rfl⟩
                    · refine opS_same rfl rfl fun Lx ac w1 hJ hl hc ho hd => ?_
                      have s6 : ac.eval (.tmp 6) = .int .i64 (p : Int) := ho 6 rfl
                      exact ⟨_, x_move (.tmp 6) rfl s6, rfl⟩
                    · refine opS_callUp rfl rfl (fun k wx wy h hu => Up.trans h hu) (facts_keep HK) fun L ac w1 hJ hl hc ho hd => ?_
                      have d0 : ac.eval (.tmp 66) = .slice (some ⟨g, o, none⟩) m c := hd 0 _ _ rfl rfl rfl
                      have d1 : ac.eval (.tmp 67) = .int .i64 (p : Int) := hd 1 _ _ rfl rfl rfl
                      obtain ⟨_, _, hU⟩ := hJ
                      refine ⟨39, _, x_fcall 39 [.tmp 66, .tmp 67, .const (.int .i64 4)] _ rfl (by kernel_rfl), ?_⟩
                      simp only [List.map_cons, List.map_nil, d0, d1]
                      refine (rnum_ok (some ⟨g, o, none⟩) m c p 4 xs w1 (HIw.out.up hU) (by omega) (by omega) (by omega) (by omega)).mono fun e w2 ⟨he, hu9⟩ => ⟨_, he, hu9, ?_⟩
                      show Value.int .i64 _ = _
                      rw [HCC.out]
                    · refine opS_same rfl rfl fun Lx ac w1 hJ hl hc ho hd => ?_
                      have d2 : ac.eval (.tmp 68) = .int .i64 C := hd 2 _ _ rfl rfl rfl
                      exact ⟨_, x_conv 3 22 (.tmp 68) rfl d2 (run_c336 C HCB.out _), rfl⟩
                    · refine opS_same rfl rfl fun Lx ac w1 hJ hl hc ho hd => ?_
                      have s0 : ac.eval (.tmp 0) = .slice (some ⟨g, o, none⟩) m c := ho 0 rfl
                      exact ⟨_, x_move (.tmp 0) rfl s0, rfl⟩
                    · refine opS_same rfl rfl fun Lx ac w1 hJ hl hc ho hd => ?_
                      have s6 : ac.eval (.tmp 6) = .int .i64 (p : Int) := ho 6 rfl
                      exact ⟨_, x_move (.tmp 6) rfl s6, rfl⟩
                    · refine opS_same rfl rfl fun Lx ac w1 hJ hl hc ho hd => ?_
                      have d5 : ac.eval (.tmp 71) = .int .i64 (p : Int) := hd 5 _ _ rfl rfl rfl
                      exact ⟨_, x_bin .add 3 3 (.tmp 71) (.const (.int .i64 4)) rfl d5 rfl (grd3 _ _ _ _ _) (run_add3 p 4 (by omega) _), rfl⟩
                    · refine opS_same rfl rfl fun Lx ac w1 hJ hl hc ho hd => ?_
                      have d4 : ac.eval (.tmp 70) = .slice (some ⟨g, o, none⟩) m c := hd 4 _ _ rfl rfl rfl
                      have d6 : ac.eval (.tmp 72) = .int .i64 ((p + 4 : Nat) : Int) := hd 6 _ _ rfl rfl rfl
                      exact ⟨_, x_index 26 (.tmp 70) (.tmp 72) rfl d4 d6 (idx5 g o m c (p + 4) (by omega) _), rfl⟩
                    · refine opS_same rfl rfl fun Lx ac w1 hJ hl hc ho hd => ?_
                      have d7 : ac.eval (.tmp 73) = .pointer (some ⟨g, o + (p + 4), none⟩) := hd 7 _ _ rfl rfl rfl
                      obtain ⟨_, _, hU⟩ := hJ
                      exact ⟨_, x_load 5 (.tmp 73) rfl d7 (run_load1 agg5 (cell_up HB4.out hU)), rfl⟩
                    · refine opS_same rfl rfl fun Lx ac w1 hJ hl hc ho hd => ?_
                      have d8 : ac.eval (.tmp 74) = .int .u8 (B : Int) := hd 8 _ _ rfl rfl rfl
                      exact ⟨_, x_bin .quo 5 5 (.tmp 74) (.const (.int .u8 64)) rfl d8 rfl (grdq _ _ _ _ _) (run_quo5 B 64 HBB.out (by omega) _), rfl⟩
                    · refine opS_same rfl rfl fun Lx ac w1 hJ hl hc ho hd => ?_
                      have d9 : ac.eval (.tmp 75) = .int .u8 ((B / 64 : Nat) : Int) := hd 9 _ _ rfl rfl rfl
                      exact ⟨_, x_bin .rem 5 5 (.tmp 75) (.const (.int .u8 2)) rfl d9 rfl (grdr _ _ _ _ _) (run_rem5 (B / 64) 2 (by have := HBB.out; omega) (by omega) _), rfl⟩
                    · refine opS_same rfl rfl fun Lx ac w1 hJ hl hc ho hd => ?_
                      have d10 : ac.eval (.tmp 76) = .int .u8 ((B / 64 % 2 : Nat) : Int) := hd 10 _ _ rfl rfl rfl
                      exact ⟨_, x_bin .eql 5 5 (.tmp 76) (.const (.int .u8 1)) rfl d10 rfl (grde _ _ _ _ _) (run_eq5 (B / 64 % 2) 1 _), rfl⟩
                    · refine opS_same rfl rfl fun Lx ac w1 hJ hl hc ho hd => ?_
                      have s0 : ac.eval (.tmp 0) = .slice (some ⟨g, o, none⟩) m c := ho 0 rfl
                      exact ⟨_, x_move (.tmp 0) rfl s0, rfl⟩
                    · refine opS_same rfl rfl fun Lx ac w1 hJ hl hc ho hd => ?_
                      have s6 : ac.eval (.tmp 6) = .int .i64 (p : Int) := ho 6 rfl
                      exact ⟨_, x_move (.tmp 6) rfl s6, rfl⟩
                    · refine opS_same rfl rfl fun Lx ac w1 hJ hl hc ho hd => ?_
                      have d13 : ac.eval (.tmp 79) = .int .i64 (p : Int) := hd 13 _ _ rfl rfl rfl
                      exact ⟨_, x_bin .add 3 3 (.tmp 79) (.const (.int .i64 4)) rfl d13 rfl (grd3 _ _ _ _ _) (run_add3 p 4 (by omega) _), rfl⟩
                    · refine opS_same rfl rfl fun Lx ac w1 hJ hl hc ho hd => ?_
                      have d12 : ac.eval (.tmp 78) = .slice (some ⟨g, o, none⟩) m c := hd 12 _ _ rfl rfl rfl
                      have d14 : ac.eval (.tmp 80) = .int .i64 ((p + 4 : Nat) : Int) := hd 14 _ _ rfl rfl rfl
                      exact ⟨_, x_index 26 (.tmp 78) (.tmp 80) rfl d12 d14 (idx5 g o m c (p + 4) (by omega) _), rfl⟩
                    · refine opS_same rfl rfl fun Lx ac w1 hJ hl hc ho hd => ?_
                      have d15 : ac.eval (.tmp 81) = .pointer (some ⟨g, o + (p + 4), none⟩) := hd 15 _ _ rfl rfl rfl
                      obtain ⟨_, _, hU⟩ := hJ
                      exact ⟨_, x_load 5 (.tmp 81) rfl d15 (run_load1 agg5 (cell_up HB4.out hU)), rfl⟩
                    · refine opS_same rfl rfl fun Lx ac w1 hJ hl hc ho hd => ?_
                      have d16 : ac.eval (.tmp 82) = .int .u8 (B : Int) := hd 16 _ _ rfl rfl rfl
                      exact ⟨_, x_bin .quo 5 5 (.tmp 82) (.const (.int .u8 32)) rfl d16 rfl (grdq _ _ _ _ _) (run_quo5 B 32 HBB.out (by omega) _), rfl⟩
                    · refine opS_same rfl rfl fun Lx ac w1 hJ hl hc ho hd => ?_
                      have d17 : ac.eval (.tmp 83) = .int .u8 ((B / 32 : Nat) : Int) := hd 17 _ _ rfl rfl rfl
                      exact ⟨_, x_bin .rem 5 5 (.tmp 83) (.const (.int .u8 2)) rfl d17 rfl (grdr _ _ _ _ _) (run_rem5 (B / 32) 2 (by have := HBB.out; omega) (by omega) _), rfl⟩
                    · refine opS_same rfl rfl fun Lx ac w1 hJ hl hc ho hd => ?_
                      have d18 : ac.eval (.tmp 84) = .int .u8 ((B / 32 % 2 : Nat) : Int) := hd 18 _ _ rfl rfl rfl
                      exact ⟨_, x_bin .eql 5 5 (.tmp 84) (.const (.int .u8 1)) rfl d18 rfl (grde _ _ _ _ _) (run_eq5 (B / 32 % 2) 1 _), rfl⟩
                    · refine opS_same rfl rfl fun L ac w1 hJ hl hc ho hd => ?_
                      have d3 : ac.eval (.tmp 69) = .int .u32 C := hd 3 _ _ rfl rfl rfl
                      have d11 : ac.eval (.tmp 77) = .bool (decide (B / 64 % 2 = 1)) := hd 11 _ _ rfl rfl rfl
                      have d19 : ac.eval (.tmp 85) = .bool (decide (B / 32 % 2 = 1)) := hd 19 _ _ rfl rfl rfl
                      exact ⟨_, x_build 56 _ rfl (by simp only [List.map_toArray, List.map_cons, List.map_nil, d3, d11, d19]; exact build38 _ _ _ w1), rfl⟩
                    · refine opS_grow rfl rfl (fun k wx wy h hu => Up.trans h hu) (facts_keep HK) fun L ac w1 hJ hl hc ho hd => ?_
                      obtain ⟨_, _, hU⟩ := hJ
                      exact fine_run _ _ (x_alloc38 rfl) (up_alloc _ _) ⟨w1.heap.size, rfl, hU.size, new_at _ _⟩
                  · intro L a1 w2 hI hall
                    obtain ⟨_, _, hW2⟩ := hI.world
                    have g86 := hI.facts 20 _ 86 rfl (hall 20 (by decide)) rfl
                    have g9 := hI.facts 21 _ 9 rfl (hall 21 (by decide)) rfl
                    obtain ⟨b, l9, hbW, hb⟩ := g9
                    have l86 : a1.tmps.getD 86 undef = .agg #[.int .u32 C, .int .u32 0, .bool (decide (B / 64 % 2 = 1)), .bool (decide (B / 32 % 2 = 1)), .slice none 0 0] := g86
                    have l0 : a1.tmps.getD 0 undef = .slice (some ⟨g, o, none⟩) m c := hI.old 0 rfl
                    have l1 : a1.tmps.getD 1 undef = undef := hI.old 1 rfl
                    have l10 : a1.tmps.getD 10 undef = .slice (some ⟨g, o, none⟩) m c := hI.old 10 rfl
                    have l11 : a1.tmps.getD 11 undef = .int .i64 (m : Int) := hI.old 11 rfl
                    have l12 : a1.tmps.getD 12 undef = .bool false := hI.old 12 rfl
                    have l120 : a1.tmps.getD 120 undef = undef := hI.old 120 rfl
                    have l5 : a1.tmps.getD 5 undef = .slice A1 n c1 := hI.old 5 rfl
                    have l6 : a1.tmps.getD 6 undef = .int .i64 (p : Int) := hI.old 6 rfl
                    have l7 : a1.tmps.getD 7 undef = .int .i64 12 := hI.old 7 rfl
                    have l8 : a1.tmps.getD 8 undef = .int .i64 (N : Int) := hI.old 8 rfl
                    have hde : a1.defers = [] := hI.defers
                    have hal := act_lit a1 121 hI.size
                    clear hI
                    simp only [List.range, List.range.loop, List.map_cons, List.map_nil] at hal
                    rw [l0, l1, l10, l11, l12, l120, l5, l6, l7, l8, l9, hde] at hal
                    generalize hTT : a1.tmps = TT at hal l9 l86
                    have hst := run_store5 (x0 := .int .u32 C) (x1 := .int .u32 0) (x2 := .bool (decide (B / 64 % 2 = 1))) (x3 := .bool (decide (B / 32 % 2 = 1))) (x4 := .slice none 0 0) hb rfl rfl rfl rfl rfl rfl rfl
                    have hs := set5 (a := .int .u32 C) (b := .int .u32 0) (c := .bool (decide (B / 64 % 2 = 1))) (d := .bool (decide (B / 32 % 2 = 1))) (e := .slice none 0 0) hb rfl
                    generalize (((((w2.setCell ⟨b, 0, none⟩ (.int .u32 C)).setCell ⟨b, 1, none⟩ (.int .u32 0)).setCell ⟨b, 2, none⟩ (.bool (decide (B / 64 % 2 = 1)))).setCell ⟨b, 3, none⟩ (.bool (decide (B / 32 % 2 = 1)))).setCell ⟨b, 4, none⟩ (.slice none 0 0)) = w3 at hst hs
                    obtain ⟨hb3, ho3⟩ := hs
                    unfold Oper.wp
                    rw [x_store 56 (.tmp 9) (.tmp 86) rfl (by show a1.tmps.getD 9 undef = _; rw [hTT]; exact l9) (by show a1.tmps.getD 86 undef = _; rw [hTT]; exact l86) hst]
                    have HC3 := Lib.hid hb3
                    have U3 := Lib.hid (show Up w w3 from Below.out (Up.trans hU.out hW2) ho3 (fun k hk => by have h1 := hU.out.size; rw [hk]; omega) (Up.trans hU.out hW2).size)
                    have HL3 := Lib.hid (hL.out.up (show Up wr w3 from Below.out hW2 ho3 (fun k hk => by rw [hk]; exact hbW) hW2.size))
                    have HLB := Lib.hid (show ∀ k, (blk? A1 = some k ∨ ∃ x ∈ out, blk? x.A = some k) → k ≠ b from fun k hk e => by
                      have hlt : k < wr.heap.size := by
                        rcases hk with h | ⟨x, hx, h⟩
                        · exact (hL.out.lt h).2
                        · exact (hL.out.av x hx).1.lt h
                      omega)
                    clear hst hall hTT hb hb3 ho3 hW2 l86 l9 g86 l0 l1 l10 l11 l12 l120 l5 l6 l7 l8 hde HK
                    subst hal
                    simp only [Oper.upon, Act.put]
                    have HIw3 := Lib.hid (H.out.up U3.out)
                    have HBW := Lib.hid (show w.heap.size ≤ b from Nat.le_trans hU.out.size hbW)
                    have hV := num_u32 HBYT.out (p + 8) 4 (by omega)
                    go_wp2_with fail
                    refine (rnum_ok (some ⟨g, o, none⟩) m c (p + 8) 4 xs w3 HIw3.out (by omega) (by omega) (by omega) (by omega)).mono ?_
                    have HST3 := Lib.hid (by have h := HST2.out; rw [if_neg hf, if_neg (by rw [HXM.out]; exact hcut)] at h; exact h)
                    clear HST HST2
                    generalize num 0 ((xs.drop (p + 8)).take 4) = V at hV HST3 ⊢
                    rintro e w4 ⟨rfl, hu4⟩
                    have V0 := hV.1
                    have V1 := hV.2
                    clear hV
                    have HC4 := Lib.hid (blk_up HC3.out hu4)
                    have U4 := Lib.hid (U3.out.trans hu4)
                    have HL4 := Lib.hid (HL3.out.up hu4)
                    clear HC3 U3 HL3 HIw3 hu4
                    have z1 := cell_of HC4.out (j := 1) rfl
                    have y1 := frozen_at (j := 1) HC4.out
                    have HO1 := Lib.hid (setCell_out w4 b 1 (.int .u32 V))
                    have HP1 := Lib.hid (show (w4.setCell ⟨b, 1, none⟩ (.int .u32 V)).heap[b]? = some (.cells #[.int .u32 C, .int .u32 V, .bool (decide (B / 64 % 2 = 1)), .bool (decide (B / 32 % 2 = 1)), .slice none 0 0] 56 (0, 0)) from (setCell_at (j := 1) (.int .u32 V) HC4.out).trans rfl)
                    have U5 := Lib.hid (show Up w (w4.setCell ⟨b, 1, none⟩ (.int .u32 V)) from Below.out U4.out HO1.out (fun k hk => by rw [hk]; exact HBW.out) U4.out.size)
                    have HL5 := Lib.hid (gl_out HL4.out HO1.out (fun k hk e => HLB.out k hk e))
                    go_upto_region 21 with (fail)
                    clear z1 y1
                    generalize w4.setCell ⟨b, 1, none⟩ (.int .u32 V) = w5 at HO1 HP1 U5 HL5 ⊢
                    have z1 := cell_of HP1.out (j := 1) rfl
                    by_cases hv0 : V = 0
                    · have dv : (V == 0) = true := by simp [hv0]
                      have HE := Lib.hid (HER.out 2 (by rw [HST3.out, if_pos hv0]))
                      go_wp2_with fail
                      go_ret3
                      exact GetPost.no (p := p) (k := 2) rfl HE.out U5.out
                    · have dv : (V == 0) = false := by rw [beq_eq_false_iff_ne]; exact hv0
                      have HOK := Lib.hid (by have h := HST3.out; rw [if_neg hv0] at h; exact h)
                      have HAO := Lib.hid (show AvOK ⟨C, V, (decide (B / 64 % 2 = 1)), (decide (B / 32 % 2 = 1)), (xs.drop (p + 12)).take (N - 12)⟩ from ⟨HCB.out, ⟨V0, V1⟩, (HBYT.out.drop _).take _⟩)
                      clear HST3
                      have HI5 := Lib.hid (H.out.up U5.out)
                      have HCS := Lib.hid ((cells_sub (a := p + 12) (k := N - 12) HI5.out (by omega) (by omega)).alloc (.cells #[] 5))
                      have HLS := Lib.hid (show ((xs.drop (p + 12)).take (N - 12)).length = N - 12 by rw [List.length_take, List.length_drop, HXM.out]; omega)
                      have HBL := Lib.hid (lt_of_blk HP1.out)
                      go_upto_region 24 with (at_builtin; refine wpList_appendI rfl (.tmp 99) (.tmp 107) 26 rfl .u8 w5.heap.size 5 1 Try.underlying26 info5 (some ⟨w5.heap.size, 0, none⟩) 0 0 [] rfl (ownI_new _ _ _) _ _ _ ((xs.drop (p + 12)).take (N - 12)) rfl (by rw [HLS.out]; omega) HCS.out (by omega) (by omega) (by simp) ((Below.refl _ _).alloc (Nat.le_refl _) _) ?_; intro A6 N6 c6 w6 HN6 HW6 HB6 hsz6; have hc6 := (HB6.out.block _ HBL.out).trans HP1.out; have z6 := cell_of hc6 (j := 4) rfl; have y6 := frozen_at (j := 4) hc6)
                      clear HCS
                      generalize (if c = p + 12 then (some ⟨g, o, none⟩ : Option Addr) else some ⟨g, o + (p + 12), none⟩) = AA
                      have hst := setCell_out w6 b 4 (.slice A6 N6 c6)
                      have HC7 := Lib.hid (show (w6.setCell ⟨b, 4, none⟩ (.slice A6 N6 c6)).heap[b]? = some (.cells #[.int .u32 C, .int .u32 V, .bool (decide (B / 64 % 2 = 1)), .bool (decide (B / 32 % 2 = 1)), .slice A6 N6 c6] 56 (0, 0)) from (setCell_at (j := 4) (.slice A6 N6 c6) hc6).trans rfl)
                      have HO6 := Lib.hid (show OwnI .u8 5 w5.heap.size w6 A6 N6 c6 ((xs.drop (p + 12)).take (N - 12)) by have := HW6.out; rw [List.nil_append] at this; exact this)
                      have HO7 := Lib.hid (show OwnI .u8 5 w5.heap.size (w6.setCell ⟨b, 4, none⟩ (.slice A6 N6 c6)) A6 N6 c6 ((xs.drop (p + 12)).take (N - 12)) from hst.own HO6.out (fun q hq e => by have h1 := (row_lt HO6.out (by rwa [ownBlock_slice] at hq)).1; have e1 : q = b := e; have := HBL.out; omega))
                      have U6 := Lib.hid (show Up w w6 from Up.trans U5.out HB6.out)
                      have U7 := Lib.hid (show Up w (w6.setCell ⟨b, 4, none⟩ (.slice A6 N6 c6)) from Below.out U6.out hst (fun q hq => by rw [hq]; exact HBW.out) U6.out.size)
                      have HN7 := Lib.hid (show N6 ≤ 140737488351232 by have := HN6.out; omega)
                      have HL7 := Lib.hid (gl_out (HL5.out.up HB6.out) hst (fun k hk e => HLB.out k hk e))
                      clear z6 y6 hc6
                      generalize w6.setCell ⟨b, 4, none⟩ (.slice A6 N6 c6) = w7 at hst HC7 HO7 U7 HL7 ⊢
                      have HXC := Lib.hid (show OwnA w.heap.size w7 ⟨C, V, (decide (B / 64 % 2 = 1)), (decide (B / 32 % 2 = 1)), A6, N6, c6, (xs.drop (p + 12)).take (N - 12)⟩ from ⟨HO7.out.base' U5.out.size, HAO.out, HN7.out⟩)
                      have HXA := Lib.hid (show ∀ q, blk? A6 = some q → blk? A1 ≠ some q from fun q hq e => by have h1 := (row_lt HO7.out hq).1; have h2 := (HL5.out.lt e).2; omega)
                      have t0 := cell_of HC7.out (j := 0) rfl
                      have t1 := cell_of HC7.out (j := 1) rfl
                      have t2 := cell_of HC7.out (j := 2) rfl
                      have t3 := cell_of HC7.out (j := 3) rfl
                      have t4 := cell_of HC7.out (j := 4) rfl
                      have HCL := Lib.hid (avCells w7 ⟨C, V, (decide (B / 64 % 2 = 1)), (decide (B / 32 % 2 = 1)), A6, N6, c6, (xs.drop (p + 12)).take (N - 12)⟩)
                      have HUA := Lib.hid (up_alloc w7 (.cells #[.int .u32 C, .int .u32 V, .bool (decide (B / 64 % 2 = 1)), .bool (decide (B / 32 % 2 = 1)), .slice A6 N6 c6] 56))
                      have HSz := Lib.hid (show w.heap.size ≤ (w7.alloc (.cells #[.int .u32 C, .int .u32 V, .bool (decide (B / 64 % 2 = 1)), .bool (decide (B / 32 % 2 = 1)), .slice A6 N6 c6] 56)).heap.size from (Up.trans U7.out HUA.out).size)
                      clear hst HO6 HW6 HB6
                      go_upto_region 25 with (at_builtin; refine wpList_appendG rfl (.tmp 110) (.tmp 112) 23 rfl w.heap.size 56 (.agg #[.int .u32 0, .int .u32 0, .bool false, .bool false, .slice none 0 0]) 5 40 Try.underlying23 info38 rfl (by decide) A1 n c1 (rowa out) rfl (HL7.out.up HUA.out).row (some ⟨w7.heap.size, 0, none⟩) 1 1 (rowa [⟨C, V, (decide (B / 64 % 2 = 1)), (decide (B / 32 % 2 = 1)), A6, N6, c6, (xs.drop (p + 12)).take (N - 12)⟩]) rfl (by simp [rowa, avc, avcL]) HCL.out (rowa_one _) (by omega) (by omega) HSz.out ?_; intro A' N' c' w8 HN' HW HO HB)
                      have HV := Lib.hid (show Up w _ from Up.trans U7.out HUA.out)
                      have HL9 := Lib.hid ((HL7.out.up HUA.out).push (HXC.out.up HUA.out) HXA.out HN'.out HW.out HO.out HB.out)
                      have HV9 := Lib.hid (show Up w w8 from Below.out HV.out HO.out (fun q hq => ((HL7.out.up HUA.out).lt hq).1) HV.out.size)
                      have HDD := Lib.hid (show (xs.drop p).drop (N + padN N) = xs.drop (p + (N + padN N)) by rw [List.drop_drop])
                      go_wp2_with fail
                      refine (refpad_any N w8 (by omega)).mono ?_
                      rintro e w' ⟨rfl, rfl⟩
                      go_wp2_with fail
                      go_roundw
                      case rel => exact ⟨out ++ [⟨C, V, (decide (B / 64 % 2 = 1)), (decide (B / 32 % 2 = 1)), A6, N6, c6, (xs.drop (p + 12)).take (N - 12)⟩], A', N', c', p + N + padN N, by have := HN'.out; omega, by omega, rfl, by go_num, HL9, Lib.hid (by rw [hS.out, HNB.out, joinA_step HNE.out HOK.out, HN'.out, HDD.out, HCC.out, ← Nat.add_assoc]; simp [AvB.pure]), HV9⟩
                      case measure => have := HN'.out; show 65 - N' < 65 - n; omega
          · have e128 : decide ((128 : Int) ≤ (B : Int)) = false := by simp; omega
            have HST2 := Lib.hid (by have h := HST.out; rw [if_neg (by rw [HXM.out]; omega), if_neg hv, if_neg hv] at h; exact h)
            go_wp2_with fail
            refine (rnum_ok (some ⟨g, o, none⟩) m c (p + 5) 3 xs wr HIw.out (by omega) (by omega) (by omega) (by omega)).mono ?_
            rw [HNU.out]
            rintro e wa ⟨rfl, hu⟩
            have HIa := Lib.hid (HIw.out.up hu)
            have hLa := Lib.hid (hL.out.up hu)
            have hUa := Lib.hid (hU.out.trans hu)
            have HB4a := Lib.hid (cell_up HB4.out hu)
            clear hL hU HB4 hB4 hu HIw
            obtain ⟨wr, rfl⟩ : ∃ wx, wx = wa := ⟨_, rfl⟩
            have hL := hLa
            have hU := hUa
            have HIw := HIa
            have HB4 := HB4a
            clear hLa hUa HIa HB4a
            have hNN := HNN.out
            by_cases hf : N < 8
            · have ef : decide ((N : Int) < 8) = true := by simp; omega
              have HE := Lib.hid (HER.out 2 (by rw [HST2.out, if_pos hf]))
              go_wp2_with fail
              go_ret3
              exact GetPost.no (p := p) (k := 2) rfl HE.out hU.out
            · have ef : decide ((N : Int) < 8) = false := by simp; omega
              have hpN := padN_lt N
              go_wp2_with fail
              refine (refpad_any N wr (by omega)).mono ?_
              rintro e w' ⟨rfl, rfl⟩
              by_cases hcut : m - p < N + padN N
              · have ec : decide ((m : Int) - (p : Int) < (N : Int) + (padN N : Int)) = true := by simp; omega
                have HE := Lib.hid (HER.out 3 (by rw [HST2.out, if_neg hf, if_pos (by rw [HXM.out]; exact hcut)]))
                go_wp2_with fail
                go_ret3
                exact GetPost.no (p := p) (k := 3) rfl HE.out hU.out
              · have ec : decide ((m : Int) - (p : Int) < (N : Int) + (padN N : Int)) = false := by simp; omega
                obtain ⟨C, hC⟩ : ∃ C, num 0 ((xs.drop p).take 4) = C := ⟨_, rfl⟩
                have HCC := Lib.hid hC
                have HCB := Lib.hid (show 0 ≤ C ∧ C < 4294967296 by rw [← hC]; exact num_u32 HBYT.out p 4 (by omega))
                clear hC
                go_upto_region 18 with (fail)
                have HK : ∀ φ ∈ [Is (.slice (some ⟨g, o, none⟩) m c), Is (.int .i64 (p : Int)), Is (.int .i64 C), Is (.int .u32 C), Is (.slice (some ⟨g, o, none⟩) m c), Is (.int .i64 (p : Int)), Is (.int .i64 ((p + 4 : Nat) : Int)), Is (.pointer (some ⟨g, o + (p + 4), none⟩)), Is (.int .u8 (B : Int)), Is (.int .u8 ((B / 64 : Nat) : Int)), Is (.int .u8 ((B / 64 % 2 : Nat) : Int)), Is (.bool (decide (B / 64 % 2 = 1))), Is (.slice (some ⟨g, o, none⟩) m c), Is (.int .i64 (p : Int)), Is (.int .i64 ((p + 4 : Nat) : Int)), Is (.pointer (some ⟨g, o + (p + 4), none⟩)), Is (.int .u8 (B : Int)), Is (.int .u8 ((B / 32 : Nat) : Int)), Is (.int .u8 ((B / 32 % 2 : Nat) : Int)), Is (.bool (decide (B / 32 % 2 = 1))), Is (.agg #[.int .u32 C, .int .u32 0, .bool (decide (B / 64 % 2 = 1)), .bool (decide (B / 32 % 2 = 1)), .slice none 0 0]), NewA wr.heap.size], Keeps φ := by
                  simp [keeps_is, keeps_newA]
                refine staged_last (l := [_, _, _, _, _, _, _, _, _, _, _, _, _, _, _, _, _, _, _, _, _, _]) (by kernel_rfl) (facts [Is (.slice (some ⟨g, o, none⟩) m c), Is (.int .i64 (p : Int)), Is (.int .i64 C), Is (.int .u32 C), Is (.slice (some ⟨g, o, none⟩) m c), Is (.int .i64 (p : Int)), Is (.int .i64 ((p + 4 : Nat) : Int)), Is (.pointer (some ⟨g, o + (p + 4), none⟩)), Is (.int .u8 (B : Int)), Is (.int .u8 ((B / 64 : Nat) : Int)), Is (.int .u8 ((B / 64 % 2 : Nat) : Int)), Is (.bool (decide (B / 64 % 2 = 1))), Is (.slice (some ⟨g, o, none⟩) m c), Is (.int .i64 (p : Int)), Is (.int .i64 ((p + 4 : Nat) : Int)), Is (.pointer (some ⟨g, o + (p + 4), none⟩)), Is (.int .u8 (B : Int)), Is (.int .u8 ((B / 32 : Nat) : Int)), Is (.int .u8 ((B / 32 % 2 : Nat) : Int)), Is (.bool (decide (B / 32 % 2 = 1))), Is (.agg #[.int .u32 C, .int .u32 0, .bool (decide (B / 64 % 2 = 1)), .bool (decide (B / 32 % 2 = 1)), .slice none 0 0]), NewA wr.heap.size]) (Stg [] (fun _ w1 => Up wr w1)) 121 rfl (by decide +kernel) (by decide +kernel) (by decide +kernel) rfl (Stg.start (Up.drew wr)) ?_ ?_
                · refine ⟨?_, ?_, ?_, ?_, ?_, ?_, ?_, ?_, ?_, ?_, ?_, ?_, ?_, ?_, ?_, ?_, ?_, ?_, ?_, ?_, ?_, ?_, trivial⟩
                  · refine opS_same rfl rfl fun Lx ac w1 hJ hl hc ho hd => ?_
                    have s0 : ac.eval (.tmp 0) = .slice (some ⟨g, o, none⟩) m c := ho 0 rfl
                    exact ⟨_, x_move (.tmp 0) rfl s0, rfl⟩
                  · refine opS_same rfl rfl fun Lx ac w1 hJ hl hc ho hd => ?_
                    have s6 : ac.eval (.tmp 6) = .int .i64 (p : Int) := ho 6 rfl
                    exact ⟨_, x_move (.tmp 6) rfl s6, rfl⟩
                  · refine opS_callUp rfl rfl (fun k wx wy h hu => Up.trans h hu) (facts_keep HK) fun L ac w1 hJ hl hc ho hd => ?_
                    have d0 : ac.eval (.tmp 66) = .slice (some ⟨g, o, none⟩) m c := hd 0 _ _ rfl rfl rfl
                    have d1 : ac.eval (.tmp 67) = .int .i64 (p : Int) := hd 1 _ _ rfl rfl rfl
                    obtain ⟨_, _, hU⟩ := hJ
                    refine ⟨39, _, x_fcall 39 [.tmp 66, .tmp 67, .const (.int .i64 4)] _ rfl (by kernel_rfl), ?_⟩
                    simp only [List.map_cons, List.map_nil, d0, d1]
                    refine (rnum_ok (some ⟨g, o, none⟩) m c p 4 xs w1 (HIw.out.up hU) (by omega) (by omega) (by omega) (by omega)).mono fun e w2 ⟨he, hu9⟩ => ⟨_, he, hu9, ?_⟩
                    show Value.int .i64 _ = _
                    rw [HCC.out]
                  · refine opS_same rfl rfl fun Lx ac w1 hJ hl hc ho hd => ?_
                    have d2 : ac.eval (.tmp 68) = .int .i64 C := hd 2 _ _ rfl rfl rfl
                    exact ⟨_, x_conv 3 22 (.tmp 68) rfl d2 (run_c336 C HCB.out _), rfl⟩
                  · refine opS_same rfl rfl fun Lx ac w1 hJ hl hc ho hd => ?_
                    have s0 : ac.eval (.tmp 0) = .slice (some ⟨g, o, none⟩) m c := ho 0 rfl
                    exact ⟨_, x_move (.tmp 0) rfl s0, rfl⟩
                  · refine opS_same rfl rfl fun Lx ac w1 hJ hl hc ho hd => ?_
                    have s6 : ac.eval (.tmp 6) = .int .i64 (p : Int) := ho 6 rfl
                    exact ⟨_, x_move (.tmp 6) rfl s6, rfl⟩
                  · refine opS_same rfl rfl fun Lx ac w1 hJ hl hc ho hd => ?_
                    have d5 : ac.eval (.tmp 71) = .int .i64 (p : Int) := hd 5 _ _ rfl rfl rfl
                    exact ⟨_, x_bin .add 3 3 (.tmp 71) (.const (.int .i64 4)) rfl d5 rfl (grd3 _ _ _ _ _) (run_add3 p 4 (by omega) _), rfl⟩
                  · refine opS_same rfl rfl fun Lx ac w1 hJ hl hc ho hd => ?_
                    have d4 : ac.eval (.tmp 70) = .slice (some ⟨g, o, none⟩) m c := hd 4 _ _ rfl rfl rfl
                    have d6 : ac.eval (.tmp 72) = .int .i64 ((p + 4 : Nat) : Int) := hd 6 _ _ rfl rfl rfl
                    exact ⟨_, x_index 26 (.tmp 70) (.tmp 72) rfl d4 d6 (idx5 g o m c (p + 4) (by omega) _), rfl⟩
                  · refine opS_same rfl rfl fun Lx ac w1 hJ hl hc ho hd => ?_
                    have d7 : ac.eval (.tmp 73) = .pointer (some ⟨g, o + (p + 4), none⟩) := hd 7 _ _ rfl rfl rfl
                    obtain ⟨_, _, hU⟩ := hJ
                    exact ⟨_, x_load 5 (.tmp 73) rfl d7 (run_load1 agg5 (cell_up HB4.out hU)), rfl⟩
                  · refine opS_same rfl rfl fun Lx ac w1 hJ hl hc ho hd => ?_
                    have d8 : ac.eval (.tmp 74) = .int .u8 (B : Int) := hd 8 _ _ rfl rfl rfl
                    exact ⟨_, x_bin .quo 5 5 (.tmp 74) (.const (.int .u8 64)) rfl d8 rfl (grdq _ _ _ _ _) (run_quo5 B 64 HBB.out (by omega) _), rfl⟩
                  · refine opS_same rfl rfl fun Lx ac w1 hJ hl hc ho hd => ?_
                    have d9 : ac.eval (.tmp 75) = .int .u8 ((B / 64 : Nat) : Int) := hd 9 _ _ rfl rfl rfl
                    exact ⟨_, x_bin .rem 5 5 (.tmp 75) (.const (.int .u8 2)) rfl d9 rfl (grdr _ _ _ _ _) (run_rem5 (B / 64) 2 (by have := HBB.out; omega) (by omega) _), rfl⟩
                  · refine opS_same rfl rfl fun Lx ac w1 hJ hl hc ho hd => ?_
                    have d10 : ac.eval (.tmp 76) = .int .u8 ((B / 64 % 2 : Nat) : Int) := hd 10 _ _ rfl rfl rfl
                    exact ⟨_, x_bin .eql 5 5 (.tmp 76) (.const (.int .u8 1)) rfl d10 rfl (grde _ _ _ _ _) (run_eq5 (B / 64 % 2) 1 _), rfl⟩
                  · refine opS_same rfl rfl fun Lx ac w1 hJ hl hc ho hd => ?_
                    have s0 : ac.eval (.tmp 0) = .slice (some ⟨g, o, none⟩) m c := ho 0 rfl
                    exact ⟨_, x_move (.tmp 0) rfl s0, rfl⟩
                  · refine opS_same rfl rfl fun Lx ac w1 hJ hl hc ho hd => ?_
                    have s6 : ac.eval (.tmp 6) = .int .i64 (p : Int) := ho 6 rfl
                    exact ⟨_, x_move (.tmp 6) rfl s6, rfl⟩
                  · refine opS_same rfl rfl fun Lx ac w1 hJ hl hc ho hd => ?_
                    have d13 : ac.eval (.tmp 79) = .int .i64 (p : Int) := hd 13 _ _ rfl rfl rfl
                    exact ⟨_, x_bin .add 3 3 (.tmp 79) (.const (.int .i64 4)) rfl d13 rfl (grd3 _ _ _ _ _) (run_add3 p 4 (by omega) _), rfl⟩
                  · refine opS_same rfl rfl fun Lx ac w1 hJ hl hc ho hd => ?_
                    have d12 : ac.eval (.tmp 78) = .slice (some ⟨g, o, none⟩) m c := hd 12 _ _ rfl rfl rfl
                    have d14 : ac.eval (.tmp 80) = .int .i64 ((p + 4 : Nat) : Int) := hd 14 _ _ rfl rfl rfl
                    exact ⟨_, x_index 26 (.tmp 78) (.tmp 80) rfl d12 d14 (idx5 g o m c (p + 4) (by omega) _), rfl⟩
                  · refine opS_same rfl rfl fun Lx ac w1 hJ hl hc ho hd => ?_
                    have d15 : ac.eval (.tmp 81) = .pointer (some ⟨g, o + (p + 4), none⟩) := hd 15 _ _ rfl rfl rfl
                    obtain ⟨_, _, hU⟩ := hJ
                    exact ⟨_, x_load 5 (.tmp 81) rfl d15 (run_load1 agg5 (cell_up HB4.out hU)), rfl⟩
                  · refine opS_same rfl rfl fun Lx ac w1 hJ hl hc ho hd => ?_
                    have d16 : ac.eval (.tmp 82) = .int .u8 (B : Int) := hd 16 _ _ rfl rfl rfl
                    exact ⟨_, x_bin .quo 5 5 (.tmp 82) (.const (.int .u8 32)) rfl d16 rfl (grdq _ _ _ _ _) (run_quo5 B 32 HBB.out (by omega) _), rfl⟩
                  · refine opS_same rfl rfl fun Lx ac w1 hJ hl hc ho hd => ?_
                    have d17 : ac.eval (.tmp 83) = .int .u8 ((B / 32 : Nat) : Int) := hd 17 _ _ rfl rfl rfl
                    exact ⟨_, x_bin .rem 5 5 (.tmp 83) (.const (.int .u8 2)) rfl d17 rfl (grdr _ _ _ _ _) (run_rem5 (B / 32) 2 (by have := HBB.out; omega) (by omega) _), rfl⟩
                  · refine opS_same rfl rfl fun Lx ac w1 hJ hl hc ho hd => ?_
                    have d18 : ac.eval (.tmp 84) = .int .u8 ((B / 32 % 2 : Nat) : Int) := hd 18 _ _ rfl rfl rfl
                    exact ⟨_, x_bin .eql 5 5 (.tmp 84) (.const (.int .u8 1)) rfl d18 rfl (grde _ _ _ _ _) (run_eq5 (B / 32 % 2) 1 _), rfl⟩
                  · refine opS_same rfl rfl fun L ac w1 hJ hl hc ho hd => ?_
                    have d3 : ac.eval (.tmp 69) = .int .u32 C := hd 3 _ _ rfl rfl rfl
                    have d11 : ac.eval (.tmp 77) = .bool (decide (B / 64 % 2 = 1)) := hd 11 _ _ rfl rfl rfl
                    have d19 : ac.eval (.tmp 85) = .bool (decide (B / 32 % 2 = 1)) := hd 19 _ _ rfl rfl rfl
                    exact ⟨_, x_build 56 _ rfl (by simp only [List.map_toArray, List.map_cons, List.map_nil, d3, d11, d19]; exact build38 _ _ _ w1), rfl⟩
                  · refine opS_grow rfl rfl (fun k wx wy h hu => Up.trans h hu) (facts_keep HK) fun L ac w1 hJ hl hc ho hd => ?_
                    obtain ⟨_, _, hU⟩ := hJ
                    exact fine_run _ _ (x_alloc38 rfl) (up_alloc _ _) ⟨w1.heap.size, rfl, hU.size, new_at _ _⟩
                · intro L a1 w2 hI hall
                  obtain ⟨_, _, hW2⟩ := hI.world
                  have g86 := hI.facts 20 _ 86 rfl (hall 20 (by decide)) rfl
                  have g9 := hI.facts 21 _ 9 rfl (hall 21 (by decide)) rfl
                  obtain ⟨b, l9, hbW, hb⟩ := g9
                  have l86 : a1.tmps.getD 86 undef = .agg #[.int .u32 C, .int .u32 0, .bool (decide (B / 64 % 2 = 1)), .bool (decide (B / 32 % 2 = 1)), .slice none 0 0] := g86
                  have l0 : a1.tmps.getD 0 undef = .slice (some ⟨g, o, none⟩) m c := hI.old 0 rfl
                  have l1 : a1.tmps.getD 1 undef = undef := hI.old 1 rfl
                  have l10 : a1.tmps.getD 10 undef = .slice (some ⟨g, o, none⟩) m c := hI.old 10 rfl
                  have l11 : a1.tmps.getD 11 undef = .int .i64 (m : Int) := hI.old 11 rfl
                  have l12 : a1.tmps.getD 12 undef = .bool false := hI.old 12 rfl
                  have l120 : a1.tmps.getD 120 undef = undef := hI.old 120 rfl
                  have l5 : a1.tmps.getD 5 undef = .slice A1 n c1 := hI.old 5 rfl
                  have l6 : a1.tmps.getD 6 undef = .int .i64 (p : Int) := hI.old 6 rfl
                  have l7 : a1.tmps.getD 7 undef = .int .i64 8 := hI.old 7 rfl
                  have l8 : a1.tmps.getD 8 undef = .int .i64 (N : Int) := hI.old 8 rfl
                  have hde : a1.defers = [] := hI.defers
                  have hal := act_lit a1 121 hI.size
                  clear hI
                  simp only [List.range, List.range.loop, List.map_cons, List.map_nil] at hal
                  rw [l0, l1, l10, l11, l12, l120, l5, l6, l7, l8, l9, hde] at hal
                  generalize hTT : a1.tmps = TT at hal l9 l86
                  have hst := run_store5 (x0 := .int .u32 C) (x1 := .int .u32 0) (x2 := .bool (decide (B / 64 % 2 = 1))) (x3 := .bool (decide (B / 32 % 2 = 1))) (x4 := .slice none 0 0) hb rfl rfl rfl rfl rfl rfl rfl
                  have hs := set5 (a := .int .u32 C) (b := .int .u32 0) (c := .bool (decide (B / 64 % 2 = 1))) (d := .bool (decide (B / 32 % 2 = 1))) (e := .slice none 0 0) hb rfl
                  generalize (((((w2.setCell ⟨b, 0, none⟩ (.int .u32 C)).setCell ⟨b, 1, none⟩ (.int .u32 0)).setCell ⟨b, 2, none⟩ (.bool (decide (B / 64 % 2 = 1)))).setCell ⟨b, 3, none⟩ (.bool (decide (B / 32 % 2 = 1)))).setCell ⟨b, 4, none⟩ (.slice none 0 0)) = w3 at hst hs
                  obtain ⟨hb3, ho3⟩ := hs
                  unfold Oper.wp
                  rw [x_store 56 (.tmp 9) (.tmp 86) rfl (by show a1.tmps.getD 9 undef = _; rw [hTT]; exact l9) (by show a1.tmps.getD 86 undef = _; rw [hTT]; exact l86) hst]
                  have HC3 := Lib.hid hb3
                  have U3 := Lib.hid (show Up w w3 from Below.out (Up.trans hU.out hW2) ho3 (fun k hk => by have h1 := hU.out.size; rw [hk]; omega) (Up.trans hU.out hW2).size)
                  have HL3 := Lib.hid (hL.out.up (show Up wr w3 from Below.out hW2 ho3 (fun k hk => by rw [hk]; exact hbW) hW2.size))
                  have HLB := Lib.hid (show ∀ k, (blk? A1 = some k ∨ ∃ x ∈ out, blk? x.A = some k) → k ≠ b from fun k hk e => by
                    have hlt : k < wr.heap.size := by
                      rcases hk with h | ⟨x, hx, h⟩
                      · exact (hL.out.lt h).2
                      · exact (hL.out.av x hx).1.lt h
                    omega)
                  clear hst hall hTT hb hb3 ho3 hW2 l86 l9 g86 l0 l1 l10 l11 l12 l120 l5 l6 l7 l8 hde HK
                  subst hal
                  simp only [Oper.upon, Act.put]
                  have HIw3 := Lib.hid (H.out.up U3.out)
                  have HBW := Lib.hid (show w.heap.size ≤ b from Nat.le_trans hU.out.size hbW)
                  have HOK := Lib.hid (by have h := HST2.out; rw [if_neg hf, if_neg (by rw [HXM.out]; exact hcut)] at h; exact h)
                  have HAO := Lib.hid (show AvOK ⟨C, 0, (decide (B / 64 % 2 = 1)), (decide (B / 32 % 2 = 1)), (xs.drop (p + 8)).take (N - 8)⟩ from ⟨HCB.out, ⟨Int.le_refl 0, by show (0 : Int) < 4294967296; omega⟩, (HBYT.out.drop _).take _⟩)
                  have HP1 := HC3
                  have U5 := U3
                  have HL5 := HL3
                  clear HST HST2 HC3 U3 HL3 HIw3
                  obtain ⟨w5, rfl⟩ : ∃ wx, wx = w3 := ⟨_, rfl⟩
                  have HI5 := Lib.hid (H.out.up U5.out)
                  have HCS := Lib.hid ((cells_sub (a := p + 8) (k := N - 8) HI5.out (by omega) (by omega)).alloc (.cells #[] 5))
                  have HLS := Lib.hid (show ((xs.drop (p + 8)).take (N - 8)).length = N - 8 by rw [List.length_take, List.length_drop, HXM.out]; omega)
                  have HBL := Lib.hid (lt_of_blk HP1.out)
                  go_upto_region 24 with (at_builtin; refine wpList_appendI rfl (.tmp 99) (.tmp 107) 26 rfl .u8 w5.heap.size 5 1 Try.underlying26 info5 (some ⟨w5.heap.size, 0, none⟩) 0 0 [] rfl (ownI_new _ _ _) _ _ _ ((xs.drop (p + 8)).take (N - 8)) rfl (by rw [HLS.out]; omega) HCS.out (by omega) (by omega) (by simp) ((Below.refl _ _).alloc (Nat.le_refl _) _) ?_; intro A6 N6 c6 w6 HN6 HW6 HB6 hsz6; have hc6 := (HB6.out.block _ HBL.out).trans HP1.out; have z6 := cell_of hc6 (j := 4) rfl; have y6 := frozen_at (j := 4) hc6)
                  clear HCS
                  generalize (if c = p + 8 then (some ⟨g, o, none⟩ : Option Addr) else some ⟨g, o + (p + 8), none⟩) = AA
                  have hst := setCell_out w6 b 4 (.slice A6 N6 c6)
                  have HC7 := Lib.hid (show (w6.setCell ⟨b, 4, none⟩ (.slice A6 N6 c6)).heap[b]? = some (.cells #[.int .u32 C, .int .u32 0, .bool (decide (B / 64 % 2 = 1)), .bool (decide (B / 32 % 2 = 1)), .slice A6 N6 c6] 56 (0, 0)) from (setCell_at (j := 4) (.slice A6 N6 c6) hc6).trans rfl)
                  have HO6 := Lib.hid (show OwnI .u8 5 w5.heap.size w6 A6 N6 c6 ((xs.drop (p + 8)).take (N - 8)) by have := HW6.out; rw [List.nil_append] at this; exact this)
                  have HO7 := Lib.hid (show OwnI .u8 5 w5.heap.size (w6.setCell ⟨b, 4, none⟩ (.slice A6 N6 c6)) A6 N6 c6 ((xs.drop (p + 8)).take (N - 8)) from hst.own HO6.out (fun q hq e => by have h1 := (row_lt HO6.out (by rwa [ownBlock_slice] at hq)).1; have e1 : q = b := e; have := HBL.out; omega))
                  have U6 := Lib.hid (show Up w w6 from Up.trans U5.out HB6.out)
                  have U7 := Lib.hid (show Up w (w6.setCell ⟨b, 4, none⟩ (.slice A6 N6 c6)) from Below.out U6.out hst (fun q hq => by rw [hq]; exact HBW.out) U6.out.size)
                  have HN7 := Lib.hid (show N6 ≤ 140737488351232 by have := HN6.out; omega)
                  have HL7 := Lib.hid (gl_out (HL5.out.up HB6.out) hst (fun k hk e => HLB.out k hk e))
                  clear z6 y6 hc6
                  generalize w6.setCell ⟨b, 4, none⟩ (.slice A6 N6 c6) = w7 at hst HC7 HO7 U7 HL7 ⊢
                  have HXC := Lib.hid (show OwnA w.heap.size w7 ⟨C, 0, (decide (B / 64 % 2 = 1)), (decide (B / 32 % 2 = 1)), A6, N6, c6, (xs.drop (p + 8)).take (N - 8)⟩ from ⟨HO7.out.base' U5.out.size, HAO.out, HN7.out⟩)
                  have HXA := Lib.hid (show ∀ q, blk? A6 = some q → blk? A1 ≠ some q from fun q hq e => by have h1 := (row_lt HO7.out hq).1; have h2 := (HL5.out.lt e).2; omega)
                  have t0 := cell_of HC7.out (j := 0) rfl
                  have t1 := cell_of HC7.out (j := 1) rfl
                  have t2 := cell_of HC7.out (j := 2) rfl
                  have t3 := cell_of HC7.out (j := 3) rfl
                  have t4 := cell_of HC7.out (j := 4) rfl
                  have HCL := Lib.hid (avCells w7 ⟨C, 0, (decide (B / 64 % 2 = 1)), (decide (B / 32 % 2 = 1)), A6, N6, c6, (xs.drop (p + 8)).take (N - 8)⟩)
                  have HUA := Lib.hid (up_alloc w7 (.cells #[.int .u32 C, .int .u32 0, .bool (decide (B / 64 % 2 = 1)), .bool (decide (B / 32 % 2 = 1)), .slice A6 N6 c6] 56))
                  have HSz := Lib.hid (show w.heap.size ≤ (w7.alloc (.cells #[.int .u32 C, .int .u32 0, .bool (decide (B / 64 % 2 = 1)), .bool (decide (B / 32 % 2 = 1)), .slice A6 N6 c6] 56)).heap.size from (Up.trans U7.out HUA.out).size)
                  clear hst HO6 HW6 HB6
                  go_upto_region 25 with (at_builtin; refine wpList_appendG rfl (.tmp 110) (.tmp 112) 23 rfl w.heap.size 56 (.agg #[.int .u32 0, .int .u32 0, .bool false, .bool false, .slice none 0 0]) 5 40 Try.underlying23 info38 rfl (by decide) A1 n c1 (rowa out) rfl (HL7.out.up HUA.out).row (some ⟨w7.heap.size, 0, none⟩) 1 1 (rowa [⟨C, 0, (decide (B / 64 % 2 = 1)), (decide (B / 32 % 2 = 1)), A6, N6, c6, (xs.drop (p + 8)).take (N - 8)⟩]) rfl (by simp [rowa, avc, avcL]) HCL.out (rowa_one _) (by omega) (by omega) HSz.out ?_; intro A' N' c' w8 HN' HW HO HB)
                  have HV := Lib.hid (show Up w _ from Up.trans U7.out HUA.out)
                  have HL9 := Lib.hid ((HL7.out.up HUA.out).push (HXC.out.up HUA.out) HXA.out HN'.out HW.out HO.out HB.out)
                  have HV9 := Lib.hid (show Up w w8 from Below.out HV.out HO.out (fun q hq => ((HL7.out.up HUA.out).lt hq).1) HV.out.size)
                  have HDD := Lib.hid (show (xs.drop p).drop (N + padN N) = xs.drop (p + (N + padN N)) by rw [List.drop_drop])
                  go_wp2_with fail
                  refine (refpad_any N w8 (by omega)).mono ?_
                  rintro e w' ⟨rfl, rfl⟩
                  go_wp2_with fail
                  go_roundw
                  case rel => exact ⟨out ++ [⟨C, 0, (decide (B / 64 % 2 = 1)), (decide (B / 32 % 2 = 1)), A6, N6, c6, (xs.drop (p + 8)).take (N - 8)⟩], A', N', c', p + N + padN N, by have := HN'.out; omega, by omega, rfl, by go_num, HL9, Lib.hid (by rw [hS.out, HNB.out, joinA_step HNE.out HOK.out, HN'.out, HDD.out, HCC.out, ← Nat.add_assoc]; simp [AvB.pure]), HV9⟩
                  case measure => have := HN'.out; show 65 - N' < 65 - n; omega
    · obtain rfl : p = m := by omega
      have e1 : decide ((p : Int) < (p : Int)) = false := by simp
      have HE := Lib.hid (show xs.drop p = [] from List.drop_of_length_le (by rw [H.out.len]; exact Nat.le_refl _))
      go_wp2_with fail
      go_ret3
      exact ⟨out, 0, 0, A1, n, c1, rfl, Lib.hid (.inl ⟨HXL.out, by rw [hS.out, HE.out]; exact joinA_end⟩), hL, Lib.hid hn64, hU⟩
theorem rget_any' (A : Option Addr) (m c : Nat) (xs : List Int) (w : World) (hin : InB w A m c xs) (hm : m ≤ 140737488355328) : Calls Try.prog 35 #[.slice A m c] w (GetPost xs w) := by
  by_cases h : 4096 < m
  · exact rget_large A m c xs w hin.len h hm
  · exact rget_small A m c xs w hin (by omega)
end Go.Proofs.Ythncpkjnalmpkaa
