import Derived.Test.YtpdhgjhcjnpkeaaWhRow
namespace Go.Proofs.Ytpdhgjhcjnpkeaa
open Go Go.RowKit
set_option linter.unusedVariables false
set_option maxRecDepth 100000 in
set_option maxHeartbeats 1000000 in
theorem less_w (S : Nat → Prop) (p : Addr) (a : List Tm.T) (i j : Nat) (x y : Int) (w : World) (h : IsH S w p a) (hi : i < a.length) (hj : j < a.length) (hx : x = (i : Int)) (hy : y = (j : Int)) :
    Calls Try.prog 61 #[.agg #[.pointer (some p)], .int .i64 x, .int .i64 y] w fun e w' => e = .returned (.bool (decide (Tm.Bef (Hp.at_ a i) (Hp.at_ a j)))) ∧ Up w w' := by
  obtain ⟨pb, A, c, M, rfl, rfl, h⟩ := h
  subst hx; subst hy
  obtain ⟨g, rfl, hgp, hrow⟩ := rowB_of h (by omega)
  obtain ⟨n, hn⟩ : ∃ n, n = a.length := ⟨_, rfl⟩
  have HIJ : Hid (i < n ∧ j < n) := ⟨by omega, by omega⟩
  rw [← cmpT_bef]
  have ci0 := hrow.cell hi
  have cj0 := hrow.cell hj
  have cp0 : w.cell? ⟨pb, 0, none⟩ = some (.slice (some ⟨g, 0, none⟩) n c) := by rw [hn]; exact cell_of h.top rfl
  clear h hrow hi hj hn hgp
  go_enter Try.func61, Try.ntmps61
  go_upto_region 1 with (fail)
  have b0 : (w.alloc (.cells #[.pointer (some ⟨pb, 0, none⟩)] 50)).heap[w.heap.size]? = some (.cells #[.pointer (some ⟨pb, 0, none⟩)] 50) := (MapKept.heap_alloc w _).1
  have G0 : Up w (w.alloc (.cells #[.pointer (some ⟨pb, 0, none⟩)] 50)) := up_alloc _ _
  generalize (w.alloc (.cells #[.pointer (some ⟨pb, 0, none⟩)] 50)) = W at b0 G0 ⊢
  have cb : ∀ w1, Up W w1 → w1.cell? ⟨w.heap.size, 0, none⟩ = some (.pointer (some ⟨pb, 0, none⟩)) := fun w1 h => cell_up (cell_of b0 rfl) h
  have cp : ∀ w1, Up W w1 → w1.cell? ⟨pb, 0, none⟩ = some (.slice (some ⟨g, 0, none⟩) n c) := fun w1 h => cell_up cp0 (G0.trans h)
  have ci : ∀ w1, Up W w1 → w1.cell? ⟨g, i * 2, none⟩ = some (.int .i64 (Hp.at_ a i).1) ∧ w1.cell? ⟨g, i * 2 + 1, none⟩ = some (.int .i64 (Hp.at_ a i).2) := fun w1 h => ⟨cell_up ci0.1 (G0.trans h), cell_up ci0.2 (G0.trans h)⟩
  have cj : ∀ w1, Up W w1 → w1.cell? ⟨g, j * 2, none⟩ = some (.int .i64 (Hp.at_ a j).1) ∧ w1.cell? ⟨g, j * 2 + 1, none⟩ = some (.int .i64 (Hp.at_ a j).2) := fun w1 h => ⟨cell_up cj0.1 (G0.trans h), cell_up cj0.2 (G0.trans h)⟩
  refine staged_lit (by kernel_rfl) (facts [Is (.pointer (some ⟨w.heap.size, 0, none⟩)), Is (.pointer (some ⟨pb, 0, none⟩)), Is (.pointer (some ⟨pb, 0, none⟩)), Is (.pointer (some ⟨pb, 0, none⟩)), Is (.slice (some ⟨g, 0, none⟩) n c), Is (.int .i64 (i : Int)), Is (.pointer (some ⟨g, 0 + i * 2, none⟩)), Is (.agg #[.int .i64 (Hp.at_ a i).1, .int .i64 (Hp.at_ a i).2]), Is (.pointer (some ⟨w.heap.size, 0, none⟩)), Is (.pointer (some ⟨pb, 0, none⟩)), Is (.pointer (some ⟨pb, 0, none⟩)), Is (.pointer (some ⟨pb, 0, none⟩)), Is (.slice (some ⟨g, 0, none⟩) n c), Is (.int .i64 (j : Int)), Is (.pointer (some ⟨g, 0 + j * 2, none⟩)), Is (.agg #[.int .i64 (Hp.at_ a j).1, .int .i64 (Hp.at_ a j).2]), Is (.int .i64 (cmpT (Hp.at_ a i) (Hp.at_ a j))), Is (.bool (decide (cmpT (Hp.at_ a i) (Hp.at_ a j) < 0))), Is (.bool (decide (cmpT (Hp.at_ a i) (Hp.at_ a j) < 0)))]) (Stg [] (fun _ w1 => Up W w1)) 25 rfl (by decide +kernel) (by decide +kernel) (Stg.start (Up.drew W)) ?_ ?_
  · refine ⟨?_, ?_, ?_, ?_, ?_, ?_, ?_, ?_, ?_, ?_, ?_, ?_, ?_, ?_, ?_, ?_, ?_, ?_, ?_, trivial⟩
    · refine opS_same rfl rfl fun L ac w1 hJ hl hc ho hd => ?_
      have s3 : ac.eval (.tmp 3) = .pointer (some ⟨w.heap.size, 0, none⟩) := ho 3 rfl
      exact ⟨_, x_field 50 (.tmp 3) 0 rfl s3 (fld500 _ _ _), rfl⟩
    · refine opS_same rfl rfl fun L ac w1 hJ hl hc ho hd => ?_
      have d0 : ac.eval (.tmp 7) = .pointer (some ⟨w.heap.size, 0, none⟩) := hd 0 _ _ rfl rfl rfl
      obtain ⟨_, _, hW⟩ := hJ
      exact ⟨_, x_load 48 (.tmp 7) rfl d0 (run_load1 agg48 (cb w1 hW)), rfl⟩
    · refine opS_same rfl rfl fun L ac w1 hJ hl hc ho hd => ?_
      have d1 : ac.eval (.tmp 8) = .pointer (some ⟨pb, 0, none⟩) := hd 1 _ _ rfl rfl rfl
      exact ⟨_, x_nil (.tmp 8) rfl d1, rfl⟩
    · refine opS_same rfl rfl fun L ac w1 hJ hl hc ho hd => ?_
      have d2 : ac.eval (.tmp 9) = .pointer (some ⟨pb, 0, none⟩) := hd 2 _ _ rfl rfl rfl
      exact ⟨_, x_field 43 (.tmp 9) 0 rfl d2 (fld430 _ _ _), rfl⟩
    · refine opS_same rfl rfl fun L ac w1 hJ hl hc ho hd => ?_
      have d3 : ac.eval (.tmp 10) = .pointer (some ⟨pb, 0, none⟩) := hd 3 _ _ rfl rfl rfl
      obtain ⟨_, _, hW⟩ := hJ
      exact ⟨_, x_load 30 (.tmp 10) rfl d3 (run_load1 agg30 (cp w1 hW)), rfl⟩
    · refine opS_same rfl rfl fun L ac w1 hJ hl hc ho hd => ?_
      have s1 : ac.eval (.tmp 1) = .int .i64 (i : Int) := ho 1 rfl
      exact ⟨_, x_move (.tmp 1) rfl s1, rfl⟩
    · refine opS_same rfl rfl fun L ac w1 hJ hl hc ho hd => ?_
      have d4 : ac.eval (.tmp 11) = .slice (some ⟨g, 0, none⟩) n c := hd 4 _ _ rfl rfl rfl
      have d5 : ac.eval (.tmp 12) = .int .i64 (i : Int) := hd 5 _ _ rfl rfl rfl
      exact ⟨_, x_index 30 (.tmp 11) (.tmp 12) rfl d4 d5 (run_index30 HIJ.out.1), rfl⟩
    · refine opS_same rfl rfl fun L ac w1 hJ hl hc ho hd => ?_
      have d6 : ac.eval (.tmp 13) = .pointer (some ⟨g, 0 + i * 2, none⟩) := hd 6 _ _ rfl rfl rfl
      obtain ⟨_, _, hW⟩ := hJ
      exact ⟨_, x_load 33 (.tmp 13) rfl d6 (run_load33i (ci w1 hW)), rfl⟩
    · refine opS_same rfl rfl fun L ac w1 hJ hl hc ho hd => ?_
      have s3 : ac.eval (.tmp 3) = .pointer (some ⟨w.heap.size, 0, none⟩) := ho 3 rfl
      exact ⟨_, x_field 50 (.tmp 3) 0 rfl s3 (fld500 _ _ _), rfl⟩
    · refine opS_same rfl rfl fun L ac w1 hJ hl hc ho hd => ?_
      have d8 : ac.eval (.tmp 15) = .pointer (some ⟨w.heap.size, 0, none⟩) := hd 8 _ _ rfl rfl rfl
      obtain ⟨_, _, hW⟩ := hJ
      exact ⟨_, x_load 48 (.tmp 15) rfl d8 (run_load1 agg48 (cb w1 hW)), rfl⟩
    · refine opS_same rfl rfl fun L ac w1 hJ hl hc ho hd => ?_
      have d9 : ac.eval (.tmp 16) = .pointer (some ⟨pb, 0, none⟩) := hd 9 _ _ rfl rfl rfl
      exact ⟨_, x_nil (.tmp 16) rfl d9, rfl⟩
    · refine opS_same rfl rfl fun L ac w1 hJ hl hc ho hd => ?_
      have d10 : ac.eval (.tmp 17) = .pointer (some ⟨pb, 0, none⟩) := hd 10 _ _ rfl rfl rfl
      exact ⟨_, x_field 43 (.tmp 17) 0 rfl d10 (fld430 _ _ _), rfl⟩
    · refine opS_same rfl rfl fun L ac w1 hJ hl hc ho hd => ?_
      have d11 : ac.eval (.tmp 18) = .pointer (some ⟨pb, 0, none⟩) := hd 11 _ _ rfl rfl rfl
      obtain ⟨_, _, hW⟩ := hJ
      exact ⟨_, x_load 30 (.tmp 18) rfl d11 (run_load1 agg30 (cp w1 hW)), rfl⟩
    · refine opS_same rfl rfl fun L ac w1 hJ hl hc ho hd => ?_
      have s2 : ac.eval (.tmp 2) = .int .i64 (j : Int) := ho 2 rfl
      exact ⟨_, x_move (.tmp 2) rfl s2, rfl⟩
    · refine opS_same rfl rfl fun L ac w1 hJ hl hc ho hd => ?_
      have d12 : ac.eval (.tmp 19) = .slice (some ⟨g, 0, none⟩) n c := hd 12 _ _ rfl rfl rfl
      have d13 : ac.eval (.tmp 20) = .int .i64 (j : Int) := hd 13 _ _ rfl rfl rfl
      exact ⟨_, x_index 30 (.tmp 19) (.tmp 20) rfl d12 d13 (run_index30 HIJ.out.2), rfl⟩
    · refine opS_same rfl rfl fun L ac w1 hJ hl hc ho hd => ?_
      have d14 : ac.eval (.tmp 21) = .pointer (some ⟨g, 0 + j * 2, none⟩) := hd 14 _ _ rfl rfl rfl
      obtain ⟨_, _, hW⟩ := hJ
      exact ⟨_, x_load 33 (.tmp 21) rfl d14 (run_load33i (cj w1 hW)), rfl⟩
    · refine opS_callUp rfl rfl (fun k u u' h hu => h.trans hu) (facts_keep (by simp [keeps_is])) fun L ac w1 hJ hl hc ho hd => ?_
      have d7 : ac.eval (.tmp 14) = .agg #[.int .i64 (Hp.at_ a i).1, .int .i64 (Hp.at_ a i).2] := hd 7 _ _ rfl rfl rfl
      have d15 : ac.eval (.tmp 22) = .agg #[.int .i64 (Hp.at_ a j).1, .int .i64 (Hp.at_ a j).2] := hd 15 _ _ rfl rfl rfl
      exact ⟨19, _, x_fcall 19 [.tmp 14, .tmp 22] _ rfl (by kernel_rfl), by simp only [List.map_cons, List.map_nil, d7, d15]; exact (compare_w _ _ _).mono fun e w2 ⟨he, hg⟩ => ⟨_, he, hg.1, rfl⟩⟩
    · refine opS_same rfl rfl fun L ac w1 hJ hl hc ho hd => ?_
      have d16 : ac.eval (.tmp 23) = .int .i64 (cmpT (Hp.at_ a i) (Hp.at_ a j)) := hd 16 _ _ rfl rfl rfl
      exact ⟨_, x_bin .lss 3 3 (.tmp 23) (.const (.int .i64 0)) (Y := .int .i64 0) rfl d16 rfl rfl (by rw [binOp_lss]; rfl), rfl⟩
    · refine opS_same rfl rfl fun L ac w1 hJ hl hc ho hd => ?_
      have d17 : ac.eval (.tmp 24) = .bool (decide (cmpT (Hp.at_ a i) (Hp.at_ a j) < 0)) := hd 17 _ _ rfl rfl rfl
      exact ⟨_, x_assign (.tmp 24) rfl d17, rfl⟩
  · intro L a1 w2 hI hall
    obtain ⟨_, _, hG⟩ := hI.done hall (by simp)
    have G := Lib.hid (G0.trans hG)
    clear hG G0 b0 cb cp ci cj ci0 cj0 cp0
    have l0 : a1.tmps.getD 0 undef = .agg #[.pointer (some ⟨pb, 0, none⟩)] := hI.old 0 rfl
    have l3 : a1.tmps.getD 3 undef = .pointer (some ⟨w.heap.size, 0, none⟩) := hI.old 3 rfl
    have l1 : a1.tmps.getD 1 undef = .int .i64 (i : Int) := hI.old 1 rfl
    have l2 : a1.tmps.getD 2 undef = .int .i64 (j : Int) := hI.old 2 rfl
    have l6 : a1.tmps.getD 6 undef = .bool (decide (cmpT (Hp.at_ a i) (Hp.at_ a j) < 0)) := hI.get hall (i := 18) rfl rfl
    have hde : a1.defers = [] := hI.defers
    have hal := act_lit a1 25 hI.size
    clear hI
    simp only [List.range, List.range.loop, List.map_cons, List.map_nil] at hal
    rw [l0, l3, l1, l2, l6, hde] at hal
    generalize a1.tmps.getD 4 undef = t4 at hal
    generalize a1.tmps.getD 5 undef = t5 at hal
    generalize a1.tmps.getD 7 undef = t7 at hal
    generalize a1.tmps.getD 8 undef = t8 at hal
    generalize a1.tmps.getD 9 undef = t9 at hal
    generalize a1.tmps.getD 10 undef = t10 at hal
    generalize a1.tmps.getD 11 undef = t11 at hal
    generalize a1.tmps.getD 12 undef = t12 at hal
    generalize a1.tmps.getD 13 undef = t13 at hal
    generalize a1.tmps.getD 14 undef = t14 at hal
    generalize a1.tmps.getD 15 undef = t15 at hal
    generalize a1.tmps.getD 16 undef = t16 at hal
    generalize a1.tmps.getD 17 undef = t17 at hal
    generalize a1.tmps.getD 18 undef = t18 at hal
    generalize a1.tmps.getD 19 undef = t19 at hal
    generalize a1.tmps.getD 20 undef = t20 at hal
    generalize a1.tmps.getD 21 undef = t21 at hal
    generalize a1.tmps.getD 22 undef = t22 at hal
    generalize a1.tmps.getD 23 undef = t23 at hal
    generalize a1.tmps.getD 24 undef = t24 at hal
    clear l0 l3 l1 l2 l6 hde
    subst hal
    go_wp2_with fail
    go_ret
    exact ⟨rfl, G.out⟩
end Go.Proofs.Ytpdhgjhcjnpkeaa
