import Derived.Test.YtjdcglioppbfhaaCk32
namespace Go.Proofs.Ytjdcglioppbfhaa
open Go Go.RowKit
set_option linter.unusedVariables false
set_option linter.unusedSimpArgs false
theorem cell_ib {w : World} {ga go m c i : Nat} {xs : List Int} {y : Int} (h : InB w (some ⟨ga, go, none⟩) m c xs) (hy : xs[i]? = some y) : w.cell? ⟨ga, go + i, none⟩ = some (.int .u8 y) := by
  obtain ⟨g, o, e, -, hc⟩ := h.cells (by intro e; rw [ints, List.map_eq_nil_iff] at e; rw [e] at hy; simp at hy)
  injection e with e
  injection e with e1 e2
  subst e1 e2
  exact hc i _ (by simp [ints, hy])
set_option maxRecDepth 100000 in
theorem rget_large (A : Option Addr) (m c : Nat) (xs : List Int) (w : World) (hm : xs.length = m) (hn : 4096 < m) (hn2 : m ≤ 140737488351232) : Calls Try.prog 20 #[.slice A m c] w (GetPost xs w) := by
  have HM := Lib.hid hm
  clear hm
  have d1 : decide (4096 < (m : Int)) = true := by simp; omega
  go_enter Try.func20, Try.ntmps20
  go_wp2_with fail
  go_ret2
  exact GetPost.no rfl (.inr ⟨by rw [HM.out]; exact hn, rfl, rfl⟩) (Up.refl _)
/-- The round's stages. -/
def WG (w wr : World) (A1 : Option Addr) (n c1 : Nat) (out : List ChB) (k : Nat) (wx : World) : Prop := Up w wx ∧ wr.heap.size ≤ wx.heap.size ∧ (k = 0 → GL w.heap.size No wx A1 n c1 out)
theorem wg_up {w wr wx wy : World} {A1 : Option Addr} {n c1 : Nat} {out : List ChB} {k : Nat} (h : WG w wr A1 n c1 out k wx) (hu : Up wx wy) : WG w wr A1 n c1 out k wy := ⟨h.1.trans hu, Nat.le_trans h.2.1 hu.size, fun h0 => (h.2.2 h0).up hu⟩
theorem facts_ne2 {T : Nat → Prop} {l : List (Value → World → Prop)} {i i2 : Nat} (h : ∀ j φ, l[j]? = some φ → j ≠ i → j ≠ i2 → KpT T φ) : ∀ j v w w', j ≠ i → j ≠ i2 → facts l j v w → Out T w w' → facts l j v w' := by
  intro j v w w' hj hj2 hf hu
  unfold facts at *
  rw [List.getD] at *
  cases hx : l[j]? with
  | none => simp
  | some φ =>
    rw [hx] at hf
    exact h j φ hx hj hj2 v w w' hf hu
set_option maxRecDepth 1000000 in
set_option maxHeartbeats 8000000 in
theorem rget_small (A : Option Addr) (m c : Nat) (xs : List Int) (w : World) (hin : InB w A m c xs) (hn : m ≤ 4096) : Calls Try.prog 20 #[.slice A m c] w (GetPost xs w) := by
  have d1 : decide (4096 < (m : Int)) = false := by simp; omega
  have HI := Lib.hid hin
  have HXL := Lib.hid (show xs.length ≤ 4096 by rw [hin.len]; exact hn)
  have HLM := Lib.hid hin.len
  have hcap := hin.cap
  clear hin
  go_enter Try.func20, Try.ntmps20
  go_upto_region 5 with (fail)
  go_loopw [4, 5] (fun v i wr => ∃ (out : List ChB) (A1 : Option Addr) (n c1 at_ : Nat), n ≤ 32 ∧ v = .slice A1 n c1 ∧ i = .int .i64 (at_ : Int) ∧ at_ ≤ m ∧ Hid (Up w wr) ∧ Hid (GL w.heap.size No wr A1 n c1 out) ∧ Hid (getS 32 xs = joinG (out.map ChB.pure) (getS (32 - n) (xs.drop at_)))) (fun _ i _ => m - (intOf i).toNat)
  case atStart => exact ⟨[], none, 0, 0, 0, by omega, rfl, rfl, Nat.zero_le _, Lib.hid (Up.refl _), Lib.hid (gl_nil _ _ _), Lib.hid (by rw [List.map_nil, joinG_nil _ (getS_err _ _)]; rfl)⟩
  case round =>
    obtain ⟨out, A1, n, c1, at_, hn32, rfl, rfl, hat, hU, hL, hS⟩ := hrel
    by_cases hlt : at_ < m
    · have HNE := Lib.hid (show xs.drop at_ ≠ [] from fun e => by have := congrArg List.length e; simp at this; have := HLM.out; omega)
      by_cases h32 : n = 32
      · have d2 : decide (32 ≤ n) = true := by simp; omega
        have d2' : decide (32 ≤ (n : Int)) = true := by simp; omega
        have hge : 32 ≤ n := by omega
        go_wp2_with fail
        go_ret2
        exact GetPost.no rfl (.inl ⟨HXL.out, by rw [hS.out, h32]; exact joinG_full HNE.out⟩) hU.out
      · have HNB := Lib.hid (show 32 - n = (32 - (n + 1)) + 1 by omega)
        have hge : ¬ 32 ≤ n := by omega
        by_cases h4 : m - at_ < 4
        · have d3 : decide ((m : Int) - (at_ : Int) < 4) = true := by simp; omega
          have HER := Lib.hid (show stepG (xs.drop at_) = .error 3 from stepG_short (by have := HLM.out; simp; omega))
          go_wp2_with fail
          go_ret2
          exact GetPost.no rfl (.inl ⟨HXL.out, by rw [hS.out, HNB.out]; exact joinG_err HNE.out HER.out (by decide)⟩) hU.out
        · have d3 : decide ((m : Int) - (at_ : Int) < 4) = false := by simp; omega
          go_wp2_with fail
          refine (rnumI A m c (at_ + 2) 2 xs wr (HI.out.up hU.out) (by omega) (by omega) (by omega) (by omega)).mono ?_
          rintro e wa ⟨v, rfl, e1, b1, u1⟩
          obtain ⟨N, rfl⟩ : ∃ N : Nat, v = N := ⟨v.toNat, by have := b1.out.1; omega⟩
          have hN65 : N < 65536 := by have := b1.out.2; simp at this; omega
          have HST := Lib.hid (stepG_at (xs := xs) (at_ := at_) (N := N) (by rw [HLM.out]; omega) e1.out.symm)
          have hUa := Lib.hid (hU.out.trans u1.out)
          have hLa := Lib.hid (hL.out.up u1.out)
          clear b1 e1 u1 hU hL d3
          by_cases hN4 : N < 4
          · have d4 : decide ((N : Int) < 4) = true := by simp; omega
            have HER := Lib.hid (show stepG (xs.drop at_) = .error 2 from by obtain ⟨a, b, -, -, h⟩ := HST.out; rw [h, if_pos hN4])
            go_wp2_with fail
            go_ret2
            exact GetPost.no rfl (.inl ⟨HXL.out, by rw [hS.out, HNB.out]; exact joinG_err HNE.out HER.out (by decide)⟩) hUa.out
          · have hN4' : 4 ≤ N := by omega
            go_wp2_with fail
            refine (refpad_any N wa (by omega)).mono ?_
            rintro e wb ⟨rfl, rfl⟩
            have hp4 := padN_lt N
            obtain ⟨pd, hpd⟩ : ∃ pd, pd = padN N := ⟨_, rfl⟩
            rw [← hpd] at hp4 ⊢
            have HPD := Lib.hid hpd
            clear hpd
            by_cases hend : m < at_ + N + pd
            · have d5 : decide ((m : Int) < (at_ : Int) + (N : Int) + (pd : Int)) = true := by simp; omega
              have HER := Lib.hid (show stepG (xs.drop at_) = .error 3 from by obtain ⟨a, b, -, -, h⟩ := HST.out; rw [h, if_neg hN4, if_pos (by rw [HLM.out, ← HPD.out]; exact hend)])
              go_wp2_with fail
              go_ret2
              exact GetPost.no rfl (.inl ⟨HXL.out, by rw [hS.out, HNB.out]; exact joinG_err HNE.out HER.out (by decide)⟩) hUa.out
            · have d5 : decide ((m : Int) < (at_ : Int) + (N : Int) + (pd : Int)) = false := by simp; omega
              have hend' : at_ + N + pd ≤ m := by omega
              obtain ⟨ga, go, rfl, -, -⟩ := HI.out.cells (by intro e; have := congrArg List.length e; rw [ints_length, HLM.out] at this; simp at this; omega)
              have HIa := Lib.hid (HI.out.up hUa.out)
              go_upto_region 17 with (fail)
              clear d5
              obtain ⟨lo, hlo⟩ : ∃ lo, lo = at_ + N := ⟨_, rfl⟩
              obtain ⟨hi, hhi⟩ : ∃ hi, hi = at_ + N + pd := ⟨_, rfl⟩
              rw [show ((at_ : Int) + (N : Int) + (pd : Int)) = (hi : Int) by omega, show ((at_ : Int) + (N : Int)) = (lo : Int) by omega]
              have HLO := Lib.hid hlo
              have HHI := Lib.hid hhi
              have hlh : lo ≤ hi := by omega
              have hhm : hi ≤ m := by omega
              clear hlo hhi
              go_loopw [8] (fun i wr => ∃ k : Nat, lo ≤ k ∧ k ≤ hi ∧ i = .int .i64 (k : Int) ∧ Hid ((xs.drop lo).take (k - lo) = List.replicate (k - lo) 0) ∧ wr = wa) (fun i _ => hi - (intOf i).toNat)
              case atStart => exact ⟨lo, Nat.le_refl _, hlh, rfl, Lib.hid (by simp), rfl⟩
              case round =>
                obtain ⟨k, hk1, hk2, rfl, hz, rfl⟩ := hrel
                by_cases hkh : k < hi
                · have hkm : k < m := by omega
                  obtain ⟨y, hy⟩ : ∃ y, xs[k]? = some y := ⟨_, List.getElem?_eq_getElem (by rw [HLM.out]; omega)⟩
                  have hc := cell_ib HIa.out hy
                  have HY2 := Lib.hid (show (xs.drop lo)[k - lo]? = some y by rw [List.getElem?_drop]; rw [show lo + (k - lo) = k by omega]; exact hy)
                  clear hy
                  by_cases hy0 : y = 0
                  · subst hy0
                    have HZ := Lib.hid (show (xs.drop lo).take (k + 1 - lo) = List.replicate (k + 1 - lo) 0 by
                      rw [show k + 1 - lo = (k - lo) + 1 by omega, takeN HY2.out, hz.out, ← List.replicate_succ'])
                    clear hz
                    go_wp2_with fail
                    go_roundw
                    case rel => exact ⟨k + 1, by omega, by omega, by go_num, HZ, trivial⟩
                    case measure => simp [intOf]; omega
                  · have hyb : (y != 0) = true := by simp [hy0]
                    have HER := Lib.hid (show stepG (xs.drop at_) = .error 2 from by
                      obtain ⟨a, b, -, -, h⟩ := HST.out
                      rw [h, if_neg hN4, if_neg (by rw [HLM.out, ← HPD.out]; omega), ← HPD.out, ← HLO.out, if_neg (fun e => by
                        have h3 := congrArg (fun l => l[k - lo]?) e
                        replace h3 : ((xs.drop lo).take pd)[k - lo]? = (List.replicate pd 0)[k - lo]? := h3
                        rw [List.getElem?_take, if_pos (by have := HLO.out; have := HHI.out; omega), HY2.out, List.getElem?_replicate, if_pos (by have := HLO.out; have := HHI.out; omega)] at h3
                        injection h3 with h3
                        exact hy0 h3)])
                    go_wp2_with fail
                    go_ret2
                    exact GetPost.no rfl (.inl ⟨HXL.out, by rw [hS.out, HNB.out]; exact joinG_err HNE.out HER.out (by decide)⟩) hUa.out
                · obtain rfl : k = hi := by omega
                  have HOK := Lib.hid (show ∃ a b, xs[at_]? = some a ∧ xs[at_ + 1]? = some b ∧ stepG (xs.drop at_) = .ok (⟨a, b, (xs.drop (at_ + 4)).take (N - 4)⟩, xs.drop k) by
                    obtain ⟨a, b, ha, hb, h⟩ := HST.out
                    refine ⟨a, b, ha, hb, ?_⟩
                    have hz2 := hz.out
                    have e3 : k - lo = padN N := by have := HLO.out; have := HHI.out; have := HPD.out; omega
                    rw [e3, HLO.out] at hz2
                    rw [h, if_neg hN4, if_neg (by rw [HLM.out, ← HPD.out]; omega), if_pos hz2, HHI.out, HPD.out])
                  clear hz HST
                  go_upto_region 21 with (fail)
                  obtain ⟨ta, tb, ha, hb, hok⟩ := HOK.out
                  have HTA := Lib.hid ha
                  have HTB := Lib.hid hb
                  have HK0 := Lib.hid hok
                  obtain ⟨ys, hys⟩ : ∃ ys, ys = (xs.drop (at_ + 4)).take (N - 4) := ⟨_, rfl⟩
                  rw [← hys] at HK0
                  have HYS := Lib.hid hys
                  have HYB := Lib.hid (show Byt ys by rw [hys]; exact (HI.out.byt.drop _).take _)
                  have HYL := Lib.hid (show ys.length = N - 4 by rw [hys]; have := HLM.out; have := HLO.out; simp; omega)
                  have HT1 := Lib.hid (show 0 ≤ ta ∧ ta < 256 from HI.out.byt _ (List.mem_of_getElem? ha))
                  have HT2 := Lib.hid (show 0 ≤ tb ∧ tb < 256 from HI.out.byt _ (List.mem_of_getElem? hb))
                  obtain ⟨so, hso⟩ : ∃ so, so = (if c = at_ + 4 then go else go + (at_ + 4)) := ⟨_, rfl⟩
                  have HSO := Lib.hid hso
                  have HD := Lib.hid (show Cells w (some ⟨ga, so, none⟩) (ints .u8 ys) by
                    by_cases hc4 : c = at_ + 4
                    · have h0 : ys = [] := List.eq_nil_of_length_eq_zero (by have h1 := HYL.out; have h2 := HLO.out; omega)
                      rw [h0]; exact Cells.nil _ _
                    · rw [hso, if_neg hc4]
                      have := HI.out.cells.cut (at_ + 4) (N - 4)
                      rw [Option.map_some, add_flat] at this
                      rw [hys]
                      simpa [ints, List.map_take, List.map_drop] using this)
                  have HBW := Lib.hid (show ∀ q, blk? A1 = some q → q < wr.heap.size ∧ w.heap.size ≤ q from fun q hq => ⟨hLa.out.row.lt hq, (hLa.out.row.blk q hq).1⟩)
                  have hws := hUa.out.size
                  clear ha hb hok hys hso HOK
                  have HK : ∀ φ ∈ [Is (.slice A1 n c1), Is (.slice (some ⟨ga, go, none⟩) m c), Is (.int .i64 (at_ : Int)), Is (.pointer (some ⟨ga, go + at_, none⟩)), Is (.int .u8 ta), Is (.slice (some ⟨ga, go, none⟩) m c), Is (.int .i64 (at_ : Int)), Is (.int .i64 ((at_ + 1 : Nat) : Int)), Is (.pointer (some ⟨ga, go + (at_ + 1), none⟩)), Is (.int .u8 tb), PhZ wr.heap.size, Is (.slice (some ⟨ga, go, none⟩) m c), Is (.int .i64 (at_ : Int)), Is (.int .i64 ((at_ + 4 : Nat) : Int)), Is (.int .i64 (at_ : Int)), Is (.int .i64 (N : Int)), Is (.int .i64 ((at_ + N : Nat) : Int)), Is (.slice (some ⟨ga, so, none⟩) (N - 4) (c - (at_ + 4))), PhB wr.heap.size ys, PhC wr.heap.size ta tb ys, PhSC wr.heap.size ta tb ys, PhG w.heap.size n out ⟨ta, tb, ys⟩, PhG w.heap.size n out ⟨ta, tb, ys⟩], Keeps φ := by
                    intro φ hφ
                    simp only [List.mem_cons, List.mem_nil_iff, or_false] at hφ
                    rcases hφ with rfl | rfl | rfl | rfl | rfl | rfl | rfl | rfl | rfl | rfl | rfl | rfl | rfl | rfl | rfl | rfl | rfl | rfl | rfl | rfl | rfl | rfl | rfl <;> first | exact keeps_is _ | exact keeps_PhB _ _ | exact keeps_PhG | exact (kpT_PhZ (T := No) (fun _ h => h.elim)).keeps | exact (kpT_PhC (T := No) (fun _ h => h.elim)).keeps | exact (kpT_PhSC (T := No) (fun _ h => h.elim)).keeps
                  have HNE9 : ∀ j φ, [Is (.slice A1 n c1), Is (.slice (some ⟨ga, go, none⟩) m c), Is (.int .i64 (at_ : Int)), Is (.pointer (some ⟨ga, go + at_, none⟩)), Is (.int .u8 ta), Is (.slice (some ⟨ga, go, none⟩) m c), Is (.int .i64 (at_ : Int)), Is (.int .i64 ((at_ + 1 : Nat) : Int)), Is (.pointer (some ⟨ga, go + (at_ + 1), none⟩)), Is (.int .u8 tb), PhZ wr.heap.size, Is (.slice (some ⟨ga, go, none⟩) m c), Is (.int .i64 (at_ : Int)), Is (.int .i64 ((at_ + 4 : Nat) : Int)), Is (.int .i64 (at_ : Int)), Is (.int .i64 (N : Int)), Is (.int .i64 ((at_ + N : Nat) : Int)), Is (.slice (some ⟨ga, so, none⟩) (N - 4) (c - (at_ + 4))), PhB wr.heap.size ys, PhC wr.heap.size ta tb ys, PhSC wr.heap.size ta tb ys, PhG w.heap.size n out ⟨ta, tb, ys⟩, PhG w.heap.size n out ⟨ta, tb, ys⟩][j]? = some φ → j ≠ 21 → j ≠ 22 → KpT (fun k => blk? A1 = some k) φ := by
                    intro j φ hj hne hne2
                    rcases j with _ | _ | _ | _ | _ | _ | _ | _ | _ | _ | _ | _ | _ | _ | _ | _ | _ | _ | _ | _ | _ | _ | _ | j <;> first | exact absurd rfl hne | exact absurd rfl hne2 | (simp at hj; done) | (have hj2 := Option.some.inj hj; subst hj2; first | exact kpT_is _ _ | exact kpT_PhB (fun k hk => (HBW.out k hk).1) | exact kpT_PhZ (fun k hk => (HBW.out k hk).1) | exact kpT_PhC (fun k hk => (HBW.out k hk).1) | exact kpT_PhSC (fun k hk => (HBW.out k hk).1) | exact kpT_tru _)
                  refine staged_lit2 (by kernel_rfl) (facts [Is (.slice A1 n c1), Is (.slice (some ⟨ga, go, none⟩) m c), Is (.int .i64 (at_ : Int)), Is (.pointer (some ⟨ga, go + at_, none⟩)), Is (.int .u8 ta), Is (.slice (some ⟨ga, go, none⟩) m c), Is (.int .i64 (at_ : Int)), Is (.int .i64 ((at_ + 1 : Nat) : Int)), Is (.pointer (some ⟨ga, go + (at_ + 1), none⟩)), Is (.int .u8 tb), PhZ wr.heap.size, Is (.slice (some ⟨ga, go, none⟩) m c), Is (.int .i64 (at_ : Int)), Is (.int .i64 ((at_ + 4 : Nat) : Int)), Is (.int .i64 (at_ : Int)), Is (.int .i64 (N : Int)), Is (.int .i64 ((at_ + N : Nat) : Int)), Is (.slice (some ⟨ga, so, none⟩) (N - 4) (c - (at_ + 4))), PhB wr.heap.size ys, PhC wr.heap.size ta tb ys, PhSC wr.heap.size ta tb ys, PhG w.heap.size n out ⟨ta, tb, ys⟩, PhG w.heap.size n out ⟨ta, tb, ys⟩]) (Stg [21] (WG w wr A1 n c1 out)) 77 rfl (by decide +kernel) (by decide +kernel) (Stg.start ⟨hUa.out.trans (Up.drew wr), (Up.drew wr).size, fun _ => hLa.out.up (Up.drew wr)⟩) ?_ ?_
                  · refine ⟨?_, ?_, ?_, ?_, ?_, ?_, ?_, ?_, ?_, ?_, ?_, ?_, ?_, ?_, ?_, ?_, ?_, ?_, ?_, ?_, ?_, ?_, ?_, trivial⟩
                    · refine opS2_same rfl rfl fun L ac w1 hJ hl hc ho hd => ?_
                      have s4 : ac.eval (.tmp 4) = .slice A1 n c1 := ho 4 (notYet_at (n := 77) (k := 22) (by decide +kernel) rfl rfl (reach_not hc (n := 23) (k := 22) (by kernel_rfl) hl))
                      exact ⟨_, x_move (.tmp 4) rfl s4, rfl⟩
                    · refine opS2_same rfl rfl fun L ac w1 hJ hl hc ho hd => ?_
                      have s0 : ac.eval (.tmp 0) = .slice (some ⟨ga, go, none⟩) m c := ho 0 (notYet_old rfl)
                      exact ⟨_, x_move (.tmp 0) rfl s0, rfl⟩
                    · refine opS2_same rfl rfl fun L ac w1 hJ hl hc ho hd => ?_
                      have s5 : ac.eval (.tmp 5) = .int .i64 (at_ : Int) := ho 5 (notYet_old rfl)
                      exact ⟨_, x_move (.tmp 5) rfl s5, rfl⟩
                    · refine opS2_same rfl rfl fun L ac w1 hJ hl hc ho hd => ?_
                      have d1 : ac.eval (.tmp 54) = .slice (some ⟨ga, go, none⟩) m c := hd 1 _ _ rfl rfl rfl
                      have d2 : ac.eval (.tmp 55) = .int .i64 (at_ : Int) := hd 2 _ _ rfl rfl rfl
                      exact ⟨_, x_index 22 (.tmp 54) (.tmp 55) rfl d1 d2 (run_indexT (s := 1) Try.underlying22 (sz5 _) (by have := HLO.out; omega)), by rw [Nat.mul_one, add_flat]; rfl⟩
                    · refine opS2_same rfl rfl fun L ac w1 hJ hl hc ho hd => ?_
                      have d3 : ac.eval (.tmp 56) = .pointer (some ⟨ga, go + at_, none⟩) := hd 3 _ _ rfl rfl rfl
                      obtain ⟨_, _, hW⟩ := hJ
                      exact ⟨_, x_load 5 (.tmp 56) rfl d3 (run_load1 agg5 (cell_ib (HI.out.up hW.1) HTA.out)), rfl⟩
                    · refine opS2_same rfl rfl fun L ac w1 hJ hl hc ho hd => ?_
                      have s0 : ac.eval (.tmp 0) = .slice (some ⟨ga, go, none⟩) m c := ho 0 (notYet_old rfl)
                      exact ⟨_, x_move (.tmp 0) rfl s0, rfl⟩
                    · refine opS2_same rfl rfl fun L ac w1 hJ hl hc ho hd => ?_
                      have s5 : ac.eval (.tmp 5) = .int .i64 (at_ : Int) := ho 5 (notYet_old rfl)
                      exact ⟨_, x_move (.tmp 5) rfl s5, rfl⟩
                    · refine opS2_same rfl rfl fun L ac w1 hJ hl hc ho hd => ?_
                      have d6 : ac.eval (.tmp 59) = .int .i64 (at_ : Int) := hd 6 _ _ rfl rfl rfl
                      exact ⟨_, x_bin .add 3 3 (.tmp 59) (.const (.int .i64 1)) rfl d6 rfl (grd3a _ _ _ _ _) (run_add3 at_ 1 (by omega) _), rfl⟩
                    · refine opS2_same rfl rfl fun L ac w1 hJ hl hc ho hd => ?_
                      have d5 : ac.eval (.tmp 58) = .slice (some ⟨ga, go, none⟩) m c := hd 5 _ _ rfl rfl rfl
                      have d7 : ac.eval (.tmp 60) = .int .i64 ((at_ + 1 : Nat) : Int) := hd 7 _ _ rfl rfl rfl
                      exact ⟨_, x_index 22 (.tmp 58) (.tmp 60) rfl d5 d7 (run_indexT (s := 1) Try.underlying22 (sz5 _) (by have := HLO.out; omega)), by rw [Nat.mul_one, add_flat]; rfl⟩
                    · refine opS2_same rfl rfl fun L ac w1 hJ hl hc ho hd => ?_
                      have d8 : ac.eval (.tmp 61) = .pointer (some ⟨ga, go + (at_ + 1), none⟩) := hd 8 _ _ rfl rfl rfl
                      obtain ⟨_, _, hW⟩ := hJ
                      exact ⟨_, x_load 5 (.tmp 61) rfl d8 (run_load1 agg5 (cell_ib (HI.out.up hW.1) HTB.out)), rfl⟩
                    · refine opS2_grow rfl rfl (fun k wa wb h hu => wg_up h hu) (facts_keep HK) fun L ac w1 hJ hl hc ho hd => ?_
                      obtain ⟨_, _, hW⟩ := hJ
                      exact fine_run (.slice (some ⟨w1.heap.size, 0, none⟩) 0 0) (w1.alloc (.cells #[] 5)) (x_bslice 22 0 _ rfl (by simp only [List.map_toArray, List.map_nil]; exact bs_5 w1)) (up_alloc _ _) ⟨w1.heap.size, rfl, hW.2.1, new_at _ _⟩
                    · refine opS2_same rfl rfl fun L ac w1 hJ hl hc ho hd => ?_
                      have s0 : ac.eval (.tmp 0) = .slice (some ⟨ga, go, none⟩) m c := ho 0 (notYet_old rfl)
                      exact ⟨_, x_move (.tmp 0) rfl s0, rfl⟩
                    · refine opS2_same rfl rfl fun L ac w1 hJ hl hc ho hd => ?_
                      have s5 : ac.eval (.tmp 5) = .int .i64 (at_ : Int) := ho 5 (notYet_old rfl)
                      exact ⟨_, x_move (.tmp 5) rfl s5, rfl⟩
                    · refine opS2_same rfl rfl fun L ac w1 hJ hl hc ho hd => ?_
                      have d12 : ac.eval (.tmp 65) = .int .i64 (at_ : Int) := hd 12 _ _ rfl rfl rfl
                      exact ⟨_, x_bin .add 3 3 (.tmp 65) (.const (.int .i64 4)) rfl d12 rfl (grd3a _ _ _ _ _) (run_add3 at_ 4 (by omega) _), rfl⟩
                    · refine opS2_same rfl rfl fun L ac w1 hJ hl hc ho hd => ?_
                      have s5 : ac.eval (.tmp 5) = .int .i64 (at_ : Int) := ho 5 (notYet_old rfl)
                      exact ⟨_, x_move (.tmp 5) rfl s5, rfl⟩
                    · refine opS2_same rfl rfl fun L ac w1 hJ hl hc ho hd => ?_
                      have s6 : ac.eval (.tmp 6) = .int .i64 (N : Int) := ho 6 (notYet_old rfl)
                      exact ⟨_, x_move (.tmp 6) rfl s6, rfl⟩
                    · refine opS2_same rfl rfl fun L ac w1 hJ hl hc ho hd => ?_
                      have d14 : ac.eval (.tmp 67) = .int .i64 (at_ : Int) := hd 14 _ _ rfl rfl rfl
                      have d15 : ac.eval (.tmp 68) = .int .i64 (N : Int) := hd 15 _ _ rfl rfl rfl
                      exact ⟨_, x_bin .add 3 3 (.tmp 67) (.tmp 68) rfl d14 d15 (grd3a _ _ _ _ _) (run_add3 at_ N (by omega) _), rfl⟩
                    · refine opS2_same rfl rfl fun L ac w1 hJ hl hc ho hd => ?_
                      have d11 : ac.eval (.tmp 64) = .slice (some ⟨ga, go, none⟩) m c := hd 11 _ _ rfl rfl rfl
                      have d13 : ac.eval (.tmp 66) = .int .i64 ((at_ + 4 : Nat) : Int) := hd 13 _ _ rfl rfl rfl
                      have d16 : ac.eval (.tmp 69) = .int .i64 ((at_ + N : Nat) : Int) := hd 16 _ _ rfl rfl rfl
                      exact ⟨_, x_slice2 22 (.tmp 64) (.tmp 66) (.tmp 69) rfl d11 d13 d16 (run_sl2 ga go m c (at_ + 4) (at_ + N) (by omega) (by have := HLO.out; omega) _), by rw [← HSO.out, show at_ + N - (at_ + 4) = N - 4 by omega]; rfl⟩
                    · refine opS2_grow rfl rfl (fun k wa wb h hu => wg_up h hu) (facts_keep HK) fun L ac w1 hJ hl hc ho hd => ?_
                      have d10 := hd 10 _ _ rfl rfl rfl
                      have d17 : ac.eval (.tmp 70) = .slice (some ⟨ga, so, none⟩) (N - 4) (c - (at_ + 4)) := hd 17 _ _ rfl rfl rfl
                      obtain ⟨_, _, hW⟩ := hJ
                      obtain ⟨g0, e0, hg1, hg2⟩ := d10
                      obtain ⟨A9, c9, w9, hr, ho9, hu9⟩ := append_copy0 (ty := 22) g0 wr.heap.size hg1 hg2 ⟨ga, so, none⟩ (N - 4) (c - (at_ + 4)) ys HYL.out (HD.out.up hW.1) (by omega)
                      exact fine_run (.slice A9 (N - 4) c9) w9 (x_append (.tmp 63) (.tmp 70) 22 22 rfl e0 d17 hr) hu9 ⟨A9, N - 4, c9, rfl, HYL.out.symm, ho9⟩
                    · refine opS2_same rfl rfl fun L ac w1 hJ hl hc ho hd => ?_
                      have d4 : ac.eval (.tmp 57) = .int .u8 ta := hd 4 _ _ rfl rfl rfl
                      have d9 : ac.eval (.tmp 62) = .int .u8 tb := hd 9 _ _ rfl rfl rfl
                      have d18 := hd 18 _ _ rfl rfl rfl
                      obtain ⟨A9, N9, c9, e8, hn9, ho9⟩ := d18
                      have e9 : ac.eval (.tmp 71) = .slice A9 N9 c9 := e8
                      exact ⟨_, x_build 43 _ rfl (by simp only [List.map_toArray, List.map_cons, List.map_nil, d4, d9, e9]; exact build_ch2 A9 N9 c9 ta tb w1), A9, N9, c9, rfl, hn9, ho9⟩
                    · refine opS2_grow rfl rfl (fun k wa wb h hu => wg_up h hu) (facts_keep HK) fun L ac w1 hJ hl hc ho hd => ?_
                      have d19 := hd 19 _ _ rfl rfl rfl
                      obtain ⟨_, _, hW⟩ := hJ
                      obtain ⟨A9, N9, c9, e8, hn9, ho9⟩ := d19
                      have e9 : ac.eval (.tmp 72) = .agg #[.int .u8 ta, .int .u8 tb, .slice A9 N9 c9] := e8
                      exact fine_run (.slice (some ⟨w1.heap.size, 0, none⟩) 1 1) (w1.alloc (.cells #[.int .u8 ta, .int .u8 tb, .slice A9 N9 c9] 43)) (x_bslice 25 1 _ rfl (by simp only [List.map_toArray, List.map_cons, List.map_nil, e9]; exact bs_ch2 A9 N9 c9 ta tb w1)) (up_alloc _ _) ⟨w1.heap.size, A9, N9, c9, rfl, hW.2.1, new_at _ _, hn9, own_up ho9 (up_alloc _ _)⟩
                    · refine opS2_writeV (j := 0) rfl (by decide) rfl (fun y hy h0 => absurd h0 (by omega)) fun L ac w1 hW hl hc ho hd => ?_
                      have d0 : ac.eval (.tmp 53) = .slice A1 n c1 := hd 0 _ _ rfl rfl rfl
                      have d20 := hd 20 _ _ rfl rfl rfl
                      obtain ⟨u, w2, hr, ho2, hu⟩ := app_chunk (ty := 25) (hW.2.2 rfl) d20 hn32 hws (fun k hk => (HBW.out k hk).1) HYB.out (by have := HYL.out; omega) HT1.out HT2.out
                      refine ⟨u, w2, x_append (.tmp 53) (.tmp 73) 25 25 rfl d0 rfl hr, ⟨Below.out hW.1 ho2 (fun q hq => (HBW.out q hq).2) hW.1.size, Nat.le_trans hW.2.1 ho2.size, fun h => absurd h (by decide)⟩, hu, fun j x hj hLj hx => ?_⟩
                      by_cases h22 : j = 22
                      · subst h22; rw [reach_not hc (n := 23) (i := 21) (k := 22) (by kernel_rfl) hl] at hLj; cases hLj
                      · exact facts_ne2 HNE9 j x w1 w2 hj h22 hx ho2
                    · refine opS2_same rfl rfl fun L ac w1 hJ hl hc ho hd => ?_
                      have d21 := hd 21 _ _ rfl rfl rfl
                      exact ⟨_, x_assign (.tmp 74) rfl rfl, d21⟩
                  · intro L a1 w9 hI hall
                    obtain ⟨k9, hk9, hW⟩ := hI.done hall (by simp)
                    have HU9 := Lib.hid hW.1
                    clear hk9 hW k9 HK HNE9
                    have l0 : a1.tmps.getD 0 undef = Value.slice (some { block := ga, off := go }) m c := hI.old 0 (notYet_old rfl)
                    have l1 : a1.tmps.getD 1 undef = undef := hI.old 1 (notYet_old rfl)
                    have l5 : a1.tmps.getD 5 undef = Value.int IntKind.i64 ↑at_ := hI.old 5 (notYet_old rfl)
                    have l6 : a1.tmps.getD 6 undef = Value.int IntKind.i64 ↑N := hI.old 6 (notYet_old rfl)
                    have l7 : a1.tmps.getD 7 undef = Value.int IntKind.i64 ↑k := hI.old 7 (notYet_old rfl)
                    have l8 : a1.tmps.getD 8 undef = Value.int IntKind.i64 ↑k := hI.old 8 (notYet_old rfl)
                    have l9 : a1.tmps.getD 9 undef = Value.slice (some { block := ga, off := go }) m c := hI.old 9 (notYet_old rfl)
                    have l10 : a1.tmps.getD 10 undef = Value.int IntKind.i64 ↑m := hI.old 10 (notYet_old rfl)
                    have l11 : a1.tmps.getD 11 undef = Value.bool false := hI.old 11 (notYet_old rfl)
                    have l12 : a1.tmps.getD 12 undef = Value.int IntKind.i64 ↑at_ := hI.old 12 (notYet_old rfl)
                    have l13 : a1.tmps.getD 13 undef = Value.slice (some { block := ga, off := go }) m c := hI.old 13 (notYet_old rfl)
                    have l14 : a1.tmps.getD 14 undef = Value.int IntKind.i64 ↑m := hI.old 14 (notYet_old rfl)
                    have l15 : a1.tmps.getD 15 undef = Value.bool true := hI.old 15 (notYet_old rfl)
                    have l16 : a1.tmps.getD 16 undef = Value.slice A1 n c1 := hI.old 16 (notYet_old rfl)
                    have l17 : a1.tmps.getD 17 undef = Value.int IntKind.i64 ↑n := hI.old 17 (notYet_old rfl)
                    have l18 : a1.tmps.getD 18 undef = Value.bool (decide ((32 : Int) ≤ (n : Int))) := hI.old 18 (notYet_old rfl)
                    have l19 : a1.tmps.getD 19 undef = Value.slice (some { block := ga, off := go }) m c := hI.old 19 (notYet_old rfl)
                    have l20 : a1.tmps.getD 20 undef = Value.int IntKind.i64 ↑m := hI.old 20 (notYet_old rfl)
                    have l21 : a1.tmps.getD 21 undef = Value.int IntKind.i64 ↑at_ := hI.old 21 (notYet_old rfl)
                    have l22 : a1.tmps.getD 22 undef = Value.int IntKind.i64 (↑m - ↑at_) := hI.old 22 (notYet_old rfl)
                    have l23 : a1.tmps.getD 23 undef = Value.bool false := hI.old 23 (notYet_old rfl)
                    have l24 : a1.tmps.getD 24 undef = Value.slice (some { block := ga, off := go }) m c := hI.old 24 (notYet_old rfl)
                    have l25 : a1.tmps.getD 25 undef = Value.int IntKind.i64 ↑at_ := hI.old 25 (notYet_old rfl)
                    have l26 : a1.tmps.getD 26 undef = Value.int IntKind.i64 (↑at_ + 2) := hI.old 26 (notYet_old rfl)
                    have l27 : a1.tmps.getD 27 undef = Value.int IntKind.i64 ↑N := hI.old 27 (notYet_old rfl)
                    have l28 : a1.tmps.getD 28 undef = Value.int IntKind.i64 ↑N := hI.old 28 (notYet_old rfl)
                    have l29 : a1.tmps.getD 29 undef = Value.bool (decide ((N : Int) < (4 : Int))) := hI.old 29 (notYet_old rfl)
                    have l30 : a1.tmps.getD 30 undef = Value.int IntKind.i64 ↑at_ := hI.old 30 (notYet_old rfl)
                    have l31 : a1.tmps.getD 31 undef = Value.int IntKind.i64 ↑N := hI.old 31 (notYet_old rfl)
                    have l32 : a1.tmps.getD 32 undef = Value.int IntKind.i64 ↑lo := hI.old 32 (notYet_old rfl)
                    have l33 : a1.tmps.getD 33 undef = Value.int IntKind.i64 ↑N := hI.old 33 (notYet_old rfl)
                    have l34 : a1.tmps.getD 34 undef = Value.int IntKind.i64 ↑pd := hI.old 34 (notYet_old rfl)
                    have l35 : a1.tmps.getD 35 undef = Value.int IntKind.i64 ↑k := hI.old 35 (notYet_old rfl)
                    have l36 : a1.tmps.getD 36 undef = Value.int IntKind.i64 ↑k := hI.old 36 (notYet_old rfl)
                    have l37 : a1.tmps.getD 37 undef = Value.slice (some { block := ga, off := go }) m c := hI.old 37 (notYet_old rfl)
                    have l38 : a1.tmps.getD 38 undef = Value.int IntKind.i64 ↑m := hI.old 38 (notYet_old rfl)
                    have l39 : a1.tmps.getD 39 undef = Value.bool false := hI.old 39 (notYet_old rfl)
                    have l40 : a1.tmps.getD 40 undef = Value.int IntKind.i64 ↑at_ := hI.old 40 (notYet_old rfl)
                    have l41 : a1.tmps.getD 41 undef = Value.int IntKind.i64 ↑N := hI.old 41 (notYet_old rfl)
                    have l42 : a1.tmps.getD 42 undef = Value.int IntKind.i64 ↑lo := hI.old 42 (notYet_old rfl)
                    have l43 : a1.tmps.getD 43 undef = Value.int IntKind.i64 ↑k := hI.old 43 (notYet_old rfl)
                    have l44 : a1.tmps.getD 44 undef = Value.int IntKind.i64 ↑k := hI.old 44 (notYet_old rfl)
                    have l45 : a1.tmps.getD 45 undef = Value.bool false := hI.old 45 (notYet_old rfl)
                    have l76 : a1.tmps.getD 76 undef = undef := hI.old 76 (notYet_old rfl)
                    obtain ⟨A8, c8, x8, l4, hx8, hG8⟩ := hI.get hall (i := 22) (d := 4) rfl rfl
                    have hde : a1.defers = [] := hI.defers
                    have hal := act_lit a1 77 hI.size
                    clear hI
                    simp only [List.range, List.range.loop, List.map_cons, List.map_nil] at hal
                    rw [l0, l1, l5, l6, l7, l8, l9, l10, l11, l12, l13, l14, l15, l16, l17, l18, l19, l20, l21, l22, l23, l24, l25, l26, l27, l28, l29, l30, l31, l32, l33, l34, l35, l36, l37, l38, l39, l40, l41, l42, l43, l44, l45, l76, l4, hde] at hal
                    generalize a1.tmps.getD 2 undef = tm2 at hal
                    generalize a1.tmps.getD 3 undef = tm3 at hal
                    generalize a1.tmps.getD 46 undef = tm46 at hal
                    generalize a1.tmps.getD 47 undef = tm47 at hal
                    generalize a1.tmps.getD 48 undef = tm48 at hal
                    generalize a1.tmps.getD 49 undef = tm49 at hal
                    generalize a1.tmps.getD 50 undef = tm50 at hal
                    generalize a1.tmps.getD 51 undef = tm51 at hal
                    generalize a1.tmps.getD 52 undef = tm52 at hal
                    generalize a1.tmps.getD 53 undef = tm53 at hal
                    generalize a1.tmps.getD 54 undef = tm54 at hal
                    generalize a1.tmps.getD 55 undef = tm55 at hal
                    generalize a1.tmps.getD 56 undef = tm56 at hal
                    generalize a1.tmps.getD 57 undef = tm57 at hal
                    generalize a1.tmps.getD 58 undef = tm58 at hal
                    generalize a1.tmps.getD 59 undef = tm59 at hal
                    generalize a1.tmps.getD 60 undef = tm60 at hal
                    generalize a1.tmps.getD 61 undef = tm61 at hal
                    generalize a1.tmps.getD 62 undef = tm62 at hal
                    generalize a1.tmps.getD 63 undef = tm63 at hal
                    generalize a1.tmps.getD 64 undef = tm64 at hal
                    generalize a1.tmps.getD 65 undef = tm65 at hal
                    generalize a1.tmps.getD 66 undef = tm66 at hal
                    generalize a1.tmps.getD 67 undef = tm67 at hal
                    generalize a1.tmps.getD 68 undef = tm68 at hal
                    generalize a1.tmps.getD 69 undef = tm69 at hal
                    generalize a1.tmps.getD 70 undef = tm70 at hal
                    generalize a1.tmps.getD 71 undef = tm71 at hal
                    generalize a1.tmps.getD 72 undef = tm72 at hal
                    generalize a1.tmps.getD 73 undef = tm73 at hal
                    generalize a1.tmps.getD 74 undef = tm74 at hal
                    generalize a1.tmps.getD 75 undef = tm75 at hal
                    clear l0 l1 l5 l6 l7 l8 l9 l10 l11 l12 l13 l14 l15 l16 l17 l18 l19 l20 l21 l22 l23 l24 l25 l26 l27 l28 l29 l30 l31 l32 l33 l34 l35 l36 l37 l38 l39 l40 l41 l42 l43 l44 l45 l76 l4 hde
                    subst hal
                    have HG9 := Lib.hid hG8
                    have HX9 := Lib.hid hx8
                    clear hG8 hx8
                    go_wp2_with fail
                    go_roundw
                    case rel => exact ⟨out ++ [x8], A8, n + 1, c8, k, by omega, rfl, rfl, hhm, HU9, HG9, Lib.hid (by rw [hS.out, HNB.out, joinG_step HNE.out HK0.out, List.map_append, List.map_singleton, HX9.out])⟩
                    case measure => have := HLO.out; simp [intOf]; omega
    · obtain rfl : at_ = m := by omega
      go_wp2_with fail
      go_ret2
      exact ⟨out, 0, A1, n, c1, rfl, Lib.hid (.inl ⟨HXL.out, by rw [hS.out, List.drop_of_length_le (by rw [HLM.out]; exact Nat.le_refl _)]; exact joinG_end⟩), hL, Lib.hid (inL_bytL hL.out.inL), Lib.hid hn32, hU⟩
theorem rget_any (A : Option Addr) (m c : Nat) (xs : List Int) (w : World) (hin : InB w A m c xs) (hm : m ≤ 140737488351232) : Calls Try.prog 20 #[.slice A m c] w (GetPost xs w) := by
  by_cases h : 4096 < m
  · exact rget_large A m c xs w hin.len h hm
  · exact rget_small A m c xs w hin (by omega)
end Go.Proofs.Ytjdcglioppbfhaa
