import Derived.Test.YtahpejcejbgcpaaRt17
namespace Go.Proofs.Ytahpejcejbgcpaa
open Go Go.RowKit
set_option linter.unusedVariables false
set_option linter.unusedSimpArgs false
theorem eq23 (y : Wy) (w : World) : (binOp .eql 23 (.agg y.cs) (.agg y.cs)).run Try.prog w = .ok (.bool true) w := by
  simp [go_sem]
theorem grd23 (x y : Operand) (a b : Wy) (w : World) : (eqGuard .eql 23 x y (.agg a.cs) (.agg b.cs)).run Try.prog w = .ok () w := by kernel_rfl
theorem eqi24 (a : Int) (w : World) : (binOp .eql 24 (.int .i64 a) (.int .i64 a)).run Try.prog w = .ok (.bool true) w := by simp [go_sem]
theorem eqi3 (a : Int) (w : World) : (binOp .eql 3 (.int .i64 a) (.int .i64 a)).run Try.prog w = .ok (.bool true) w := by simp [go_sem]
theorem grdi (t : TypeId) (x y : Operand) (a b : Int) (w : World) : (eqGuard .eql t x y (.int .i64 a) (.int .i64 b)).run Try.prog w = .ok () w := by rfl
theorem eqb4 (a : Bool) (w : World) : (binOp .eql 4 (.bool a) (.bool a)).run Try.prog w = .ok (.bool true) w := by simp [go_sem]
theorem grdb (t : TypeId) (x y : Operand) (a b : Bool) (w : World) : (eqGuard .eql t x y (.bool a) (.bool b)).run Try.prog w = .ok () w := by rfl
section
variable {P : Program} {ops : Array Oper} {Φ : Nat → Value → World → Prop} {a0 : Act}
/-- A guarded call that is made, and makes memory. -/
theorem opS_callUpG {ws : List Nat} {W : Nat → World → Prop} {i : Nat} {o : Oper} (j : Nat) (b : Bool) (oj : Oper) (d : Tmp) (hg : o.guard = some (j, b)) (hin : (o.after.toList.any fun e => e.on == j && Region.binds .any e) = true) (hj : ops[j]? = some oj) (hdj : oj.dst = some d) (hv : ∀ v w, Φ j v w → v = .bool b) (hi : ws.contains i = false)
    (hW : ∀ k w w', W k w → Up w w' → W k w') (hF : ∀ j x w w', Φ j x w → Up w w' → Φ j x w')
    (h : ∀ (L : Nat → Bool) (a : Act) (w : World), Stg ws W L w → L i = false → Closed ops L → (∀ t, oldB ops t = true → a.tmps.getD t undef = a0.tmps.getD t undef) →
      (∀ (j : Nat) (oj : Oper) (d : Tmp), (o.after.toList.any fun e => e.on == j && Region.binds .any e) = true → ops[j]? = some oj → oj.dst = some d → Φ j (a.tmps.getD d undef) w) → ∃ f args, (execOp a.eval o).run P w = .ok (.enter f args) w ∧ Calls P f args w fun e w' => ∃ v, e = .returned v ∧ Up w w' ∧ Φ i v w') : OpS P ops Φ (Stg ws W) a0 i o := by
  intro L a w hJ hl hc _ _ ho hd
  have hy := yielded_of (tmps := a.tmps) hj hdj (hv _ w (hd j oj d hin hj hdj))
  rw [if_pos (by simp [Region.wanted, hg, hy])]
  obtain ⟨f, args, hr, hcall⟩ := h L a w hJ hl hc ho hd
  unfold Oper.wp
  rw [hr]
  refine Calls.mono hcall fun e w' ⟨v, he, hu, hv⟩ => ?_
  subst he
  exact ⟨⟨v, rfl, hv⟩, hJ.same hi (fun k hk => hW k w w' hk hu), fun j x _ hj => hF j x w w' hj hu⟩
end
set_option maxRecDepth 100000 in
set_option maxHeartbeats 4000000 in
theorem law_measures (x : Wy) (n : Int) (w : World) : Calls Try.prog 3 #[.agg x.cs, .int .i64 n] w (RetB true w) := by
  obtain ⟨r, hr⟩ : ∃ r, r = measOf x n := ⟨_, rfl⟩
  have H1 : ∀ wx, Calls Try.prog 9 #[.agg x.cs, .int .i64 n] wx (WRes r.1 r.2 wx) := fun wx => by rw [hr]; exact measure_any x n wx
  have H2 : ∀ wx, Calls Try.prog 10 #[.agg x.cs, .int .i64 n] wx (WRes r.1 r.2 wx) := fun wx => by rw [hr]; exact rmeas_any x n wx
  clear hr
  obtain ⟨r1, r2⟩ := r
  dsimp only at H1 H2
  have hb0 := new_at w (.cells x.cs 23)
  have hu : Up w (w.alloc (.cells x.cs 23)) := up_alloc w (.cells x.cs 23)
  change (w.alloc (.cells x.cs 23)).heap[w.heap.size]? = _ at hb0
  have HM0 := Lib.hid hb0
  have HU1 := Lib.hid hu
  clear hu hb0
  go_enter Try.func3, Try.ntmps3
  go_upto_region 1 with (fail)
  generalize (w.alloc (.cells x.cs 23)) = v0 at HM0 HU1 ⊢
  obtain ⟨p, hp⟩ : ∃ p, p = w.heap.size := ⟨_, rfl⟩
  rw [← hp] at HM0 ⊢
  have HP := Lib.hid hp
  clear hp
  have HV0 := HU1
  have HB_p := HM0
  clear HU1 HM0
  have k0 : v0.cell? ⟨p, 0, none⟩ = some (.int .i64 x.s) := cell_of HB_p.out rfl
  have k1 : v0.cell? ⟨p, 1, none⟩ = some (.int .i64 x.v) := cell_of HB_p.out rfl
  have k2 : v0.cell? ⟨p, 2, none⟩ = some (.int .i64 x.r) := cell_of HB_p.out rfl
  have k3 : v0.cell? ⟨p, 3, none⟩ = some (.int .i64 x.e) := cell_of HB_p.out rfl
  have k4 : v0.cell? ⟨p, 4, none⟩ = some (.int .i64 x.c) := cell_of HB_p.out rfl
  have k5 : v0.cell? ⟨p, 5, none⟩ = some (.int .i64 x.t) := cell_of HB_p.out rfl
  have k6 : v0.cell? ⟨p, 6, none⟩ = some (.int .i64 x.a) := cell_of HB_p.out rfl
  go_wp2_with fail
  refine (H1 _).mono ?_
  rintro e u1 ⟨rfl, HU1⟩
  go_upto_region 2 with (fail)
  have hn1 := new_at u1 (.cells r1.cs 23)
  have HW1 := Lib.hid (HV0.out.trans (HU1.out.trans (up_alloc u1 (.cells r1.cs 23))))
  have HV1 := HW1
  have hB_p := ((HU1.out.trans (up_alloc u1 (.cells r1.cs 23))).block _ (lt_of_blk HB_p.out)).trans HB_p.out
  have HB_p := Lib.hid hB_p
  clear hB_p
  have HB_g1 := Lib.hid hn1
  clear hn1
  change Hid ((u1.alloc (.cells #[.int .i64 r1.s, .int .i64 r1.v, .int .i64 r1.r, .int .i64 r1.e, .int .i64 r1.c, .int .i64 r1.t, .int .i64 r1.a] 23)).heap[u1.heap.size]? = _) at HB_g1
  change Hid (Up w (u1.alloc (.cells #[.int .i64 r1.s, .int .i64 r1.v, .int .i64 r1.r, .int .i64 r1.e, .int .i64 r1.c, .int .i64 r1.t, .int .i64 r1.a] 23))) at HV1
  change Hid ((u1.alloc (.cells #[.int .i64 r1.s, .int .i64 r1.v, .int .i64 r1.r, .int .i64 r1.e, .int .i64 r1.c, .int .i64 r1.t, .int .i64 r1.a] 23)).heap[p]? = _) at HB_p
  clear HW1 HU1 k0 k1 k2 k3 k4 k5 k6
  generalize u1.alloc (.cells #[.int .i64 r1.s, .int .i64 r1.v, .int .i64 r1.r, .int .i64 r1.e, .int .i64 r1.c, .int .i64 r1.t, .int .i64 r1.a] 23) = v1 at HV1 HB_g1 HB_p ⊢
  generalize u1.heap.size = g1 at HB_g1 ⊢
  have k0 : v1.cell? ⟨p, 0, none⟩ = some (.int .i64 x.s) := cell_of HB_p.out rfl
  have k1 : v1.cell? ⟨p, 1, none⟩ = some (.int .i64 x.v) := cell_of HB_p.out rfl
  have k2 : v1.cell? ⟨p, 2, none⟩ = some (.int .i64 x.r) := cell_of HB_p.out rfl
  have k3 : v1.cell? ⟨p, 3, none⟩ = some (.int .i64 x.e) := cell_of HB_p.out rfl
  have k4 : v1.cell? ⟨p, 4, none⟩ = some (.int .i64 x.c) := cell_of HB_p.out rfl
  have k5 : v1.cell? ⟨p, 5, none⟩ = some (.int .i64 x.t) := cell_of HB_p.out rfl
  have k6 : v1.cell? ⟨p, 6, none⟩ = some (.int .i64 x.a) := cell_of HB_p.out rfl
  go_wp2_with fail
  refine (H2 _).mono ?_
  rintro e u2 ⟨rfl, HU2⟩
  go_upto_region 3 with (fail)
  have hn2 := new_at u2 (.cells r1.cs 23)
  have HW2 := Lib.hid (HV1.out.trans (HU2.out.trans (up_alloc u2 (.cells r1.cs 23))))
  have HV2 := HW2
  have hB_p := ((HU2.out.trans (up_alloc u2 (.cells r1.cs 23))).block _ (lt_of_blk HB_p.out)).trans HB_p.out
  have HB_p := Lib.hid hB_p
  clear hB_p
  have hB_g1 := ((HU2.out.trans (up_alloc u2 (.cells r1.cs 23))).block _ (lt_of_blk HB_g1.out)).trans HB_g1.out
  have HB_g1 := Lib.hid hB_g1
  clear hB_g1
  have HB_g2 := Lib.hid hn2
  clear hn2
  change Hid ((u2.alloc (.cells #[.int .i64 r1.s, .int .i64 r1.v, .int .i64 r1.r, .int .i64 r1.e, .int .i64 r1.c, .int .i64 r1.t, .int .i64 r1.a] 23)).heap[u2.heap.size]? = _) at HB_g2
  change Hid (Up w (u2.alloc (.cells #[.int .i64 r1.s, .int .i64 r1.v, .int .i64 r1.r, .int .i64 r1.e, .int .i64 r1.c, .int .i64 r1.t, .int .i64 r1.a] 23))) at HV2
  change Hid ((u2.alloc (.cells #[.int .i64 r1.s, .int .i64 r1.v, .int .i64 r1.r, .int .i64 r1.e, .int .i64 r1.c, .int .i64 r1.t, .int .i64 r1.a] 23)).heap[p]? = _) at HB_p
  change Hid ((u2.alloc (.cells #[.int .i64 r1.s, .int .i64 r1.v, .int .i64 r1.r, .int .i64 r1.e, .int .i64 r1.c, .int .i64 r1.t, .int .i64 r1.a] 23)).heap[g1]? = _) at HB_g1
  clear HW2 HU2 k0 k1 k2 k3 k4 k5 k6
  generalize u2.alloc (.cells #[.int .i64 r1.s, .int .i64 r1.v, .int .i64 r1.r, .int .i64 r1.e, .int .i64 r1.c, .int .i64 r1.t, .int .i64 r1.a] 23) = v2 at HV2 HB_g2 HB_p HB_g1 ⊢
  generalize u2.heap.size = g2 at HB_g2 ⊢
  have HK : ∀ φ ∈ [Is (.bool true), Is (.bool true), Is (.agg x.cs), Is (.bool x.okB), Is (.agg x.cs), Is (.bool x.okB), Is (.bool true), Is (.bool true), Is (.bool true), Is (.agg r1.cs), Is (.agg r1.cs), Is (.bool true), Is (.bool true), Is (.bool true), Is (.int .i64 r2), Is (.int .i64 r2), Is (.bool true), Is (.bool true), Is (.bool true)], Free φ := by
    intro φ hφ
    simp only [List.mem_cons, List.mem_nil_iff, or_false] at hφ
    rcases hφ with rfl | rfl | rfl | rfl | rfl | rfl | rfl | rfl | rfl | rfl | rfl | rfl | rfl | rfl | rfl | rfl | rfl | rfl | rfl <;> exact free_is _
  refine staged_lit (by kernel_rfl) (facts [Is (.bool true), Is (.bool true), Is (.agg x.cs), Is (.bool x.okB), Is (.agg x.cs), Is (.bool x.okB), Is (.bool true), Is (.bool true), Is (.bool true), Is (.agg r1.cs), Is (.agg r1.cs), Is (.bool true), Is (.bool true), Is (.bool true), Is (.int .i64 r2), Is (.int .i64 r2), Is (.bool true), Is (.bool true), Is (.bool true)]) (Stg [] (fun _ wx => Up v2 wx)) 39 rfl (by decide +kernel) (by decide +kernel) (Stg.start (Up.drew v2)) ?_ ?_
  · refine ⟨?_, ?_, ?_, ?_, ?_, ?_, ?_, ?_, ?_, ?_, ?_, ?_, ?_, ?_, ?_, ?_, ?_, ?_, ?_, trivial⟩
    · refine opS_callUp rfl rfl (fun k wa wb h hu => Up.trans h hu) (fun j v wa wb h _ => facts_free HK j v h) fun L ac w1 hJ hl hc ho hd => ?_
      refine ⟨11, _, x_fcall 11 [] _ rfl (by kernel_rfl), ?_⟩
      exact (answers_ok w1).mono fun e w2 ⟨he, hu⟩ => ⟨_, he, hu.out, rfl⟩
    · refine opS_same rfl rfl fun L ac w1 hJ hl hc ho hd => ?_
      have d0 : ac.eval (.tmp 21) = .bool true := hd 0 _ _ rfl rfl rfl
      exact ⟨_, x_move (.tmp 21) rfl d0, rfl⟩
    · refine opS_sameG 1 true _ _ rfl rfl rfl rfl (fun _ _ h => h) rfl fun L ac w1 hJ hl hc ho hd => ?_
      have s2 : ac.eval (.tmp 2) = .pointer (some ⟨p, 0, none⟩) := ho 2 rfl
      obtain ⟨_, _, hU⟩ := hJ
      exact ⟨_, x_load 23 (.tmp 2) rfl s2 (run_loadRow (cs := x.cs) ((hU.block _ (lt_of_blk HB_p.out)).trans HB_p.out) Try.underlying23 rfl rfl), rfl⟩
    · refine opS_callUpG 1 true _ _ rfl rfl rfl rfl (fun _ _ h => h) rfl (fun k wa wb h hu => Up.trans h hu) (fun j v wa wb h _ => facts_free HK j v h) fun L ac w1 hJ hl hc ho hd => ?_
      have d2 : ac.eval (.tmp 23) = .agg x.cs := hd 2 _ _ rfl rfl rfl
      refine ⟨12, _, x_fcall 12 [.tmp 23] _ rfl (by kernel_rfl), ?_⟩
      simp only [List.map_cons, List.map_nil, d2]
      exact (soundc x w1).mono fun e w2 ⟨he, hu⟩ => ⟨_, he, hu.out, rfl⟩
    · refine opS_sameG 1 true _ _ rfl rfl rfl rfl (fun _ _ h => h) rfl fun L ac w1 hJ hl hc ho hd => ?_
      have s2 : ac.eval (.tmp 2) = .pointer (some ⟨p, 0, none⟩) := ho 2 rfl
      obtain ⟨_, _, hU⟩ := hJ
      exact ⟨_, x_load 23 (.tmp 2) rfl s2 (run_loadRow (cs := x.cs) ((hU.block _ (lt_of_blk HB_p.out)).trans HB_p.out) Try.underlying23 rfl rfl), rfl⟩
    · refine opS_callUpG 1 true _ _ rfl rfl rfl rfl (fun _ _ h => h) rfl (fun k wa wb h hu => Up.trans h hu) (fun j v wa wb h _ => facts_free HK j v h) fun L ac w1 hJ hl hc ho hd => ?_
      have d4 : ac.eval (.tmp 25) = .agg x.cs := hd 4 _ _ rfl rfl rfl
      refine ⟨13, _, x_fcall 13 [.tmp 25] _ rfl (by kernel_rfl), ?_⟩
      simp only [List.map_cons, List.map_nil, d4]
      exact (rsoundc x w1).mono fun e w2 ⟨he, hu⟩ => ⟨_, he, hu.out, rfl⟩
    · refine opS_sameG 1 true _ _ rfl rfl rfl rfl (fun _ _ h => h) rfl fun L ac w1 hJ hl hc ho hd => ?_
      have d3 : ac.eval (.tmp 24) = .bool x.okB := hd 3 _ _ rfl rfl rfl
      have d5 : ac.eval (.tmp 26) = .bool x.okB := hd 5 _ _ rfl rfl rfl
      exact ⟨_, x_bin .eql 4 4 (.tmp 24) (.tmp 26) rfl d3 d5 (grdb _ _ _ _ _ _) (eqb4 _ _), rfl⟩
    · refine opS_same rfl rfl fun L ac w1 hJ hl hc ho hd => ?_
      have d1 : ac.eval (.tmp 22) = .bool true := hd 1 _ _ rfl rfl rfl
      have d6 : ac.eval (.tmp 27) = .bool true := hd 6 _ _ rfl rfl rfl
      exact ⟨_, x_pick (.tmp 22) (.tmp 27) (.const (.bool false)) (b := true) (Y := .bool false) rfl d1 (fun _ => d6) (fun h => absurd h (by decide)), rfl⟩
    · refine opS_same rfl rfl fun L ac w1 hJ hl hc ho hd => ?_
      have d7 : ac.eval (.tmp 28) = .bool true := hd 7 _ _ rfl rfl rfl
      exact ⟨_, x_move (.tmp 28) rfl d7, rfl⟩
    · refine opS_sameG 8 true _ _ rfl rfl rfl rfl (fun _ _ h => h) rfl fun L ac w1 hJ hl hc ho hd => ?_
      have s5 : ac.eval (.tmp 5) = .pointer (some ⟨g1, 0, none⟩) := ho 5 rfl
      obtain ⟨_, _, hU⟩ := hJ
      exact ⟨_, x_load 23 (.tmp 5) rfl s5 (run_loadRow (cs := r1.cs) ((hU.block _ (lt_of_blk HB_g1.out)).trans HB_g1.out) Try.underlying23 rfl rfl), rfl⟩
    · refine opS_sameG 8 true _ _ rfl rfl rfl rfl (fun _ _ h => h) rfl fun L ac w1 hJ hl hc ho hd => ?_
      have s7 : ac.eval (.tmp 7) = .pointer (some ⟨g2, 0, none⟩) := ho 7 rfl
      obtain ⟨_, _, hU⟩ := hJ
      exact ⟨_, x_load 23 (.tmp 7) rfl s7 (run_loadRow (cs := r1.cs) ((hU.block _ (lt_of_blk HB_g2.out)).trans HB_g2.out) Try.underlying23 rfl rfl), rfl⟩
    · refine opS_sameG 8 true _ _ rfl rfl rfl rfl (fun _ _ h => h) rfl fun L ac w1 hJ hl hc ho hd => ?_
      have d9 : ac.eval (.tmp 30) = .agg r1.cs := hd 9 _ _ rfl rfl rfl
      have d10 : ac.eval (.tmp 31) = .agg r1.cs := hd 10 _ _ rfl rfl rfl
      exact ⟨_, x_bin .eql 23 23 (.tmp 30) (.tmp 31) rfl d9 d10 (grd23 _ _ r1 r1 _) (eq23 r1 _), rfl⟩
    · refine opS_same rfl rfl fun L ac w1 hJ hl hc ho hd => ?_
      have d8 : ac.eval (.tmp 29) = .bool true := hd 8 _ _ rfl rfl rfl
      have d11 : ac.eval (.tmp 32) = .bool true := hd 11 _ _ rfl rfl rfl
      exact ⟨_, x_pick (.tmp 29) (.tmp 32) (.const (.bool false)) (b := true) (Y := .bool false) rfl d8 (fun _ => d11) (fun h => absurd h (by decide)), rfl⟩
    · refine opS_same rfl rfl fun L ac w1 hJ hl hc ho hd => ?_
      have d12 : ac.eval (.tmp 33) = .bool true := hd 12 _ _ rfl rfl rfl
      exact ⟨_, x_move (.tmp 33) rfl d12, rfl⟩
    · refine opS_sameG 13 true _ _ rfl rfl rfl rfl (fun _ _ h => h) rfl fun L ac w1 hJ hl hc ho hd => ?_
      have s6 : ac.eval (.tmp 6) = .int .i64 r2 := ho 6 rfl
      exact ⟨_, x_move (.tmp 6) rfl s6, rfl⟩
    · refine opS_sameG 13 true _ _ rfl rfl rfl rfl (fun _ _ h => h) rfl fun L ac w1 hJ hl hc ho hd => ?_
      have s8 : ac.eval (.tmp 8) = .int .i64 r2 := ho 8 rfl
      exact ⟨_, x_move (.tmp 8) rfl s8, rfl⟩
    · refine opS_sameG 13 true _ _ rfl rfl rfl rfl (fun _ _ h => h) rfl fun L ac w1 hJ hl hc ho hd => ?_
      have d14 : ac.eval (.tmp 35) = .int .i64 r2 := hd 14 _ _ rfl rfl rfl
      have d15 : ac.eval (.tmp 36) = .int .i64 r2 := hd 15 _ _ rfl rfl rfl
      exact ⟨_, x_bin .eql 24 24 (.tmp 35) (.tmp 36) rfl d14 d15 (grdi _ _ _ _ _ _) (eqi24 _ _), rfl⟩
    · refine opS_same rfl rfl fun L ac w1 hJ hl hc ho hd => ?_
      have d13 : ac.eval (.tmp 34) = .bool true := hd 13 _ _ rfl rfl rfl
      have d16 : ac.eval (.tmp 37) = .bool true := hd 16 _ _ rfl rfl rfl
      exact ⟨_, x_pick (.tmp 34) (.tmp 37) (.const (.bool false)) (b := true) (Y := .bool false) rfl d13 (fun _ => d16) (fun h => absurd h (by decide)), rfl⟩
    · refine opS_same rfl rfl fun L ac w1 hJ hl hc ho hd => ?_
      have d17 : ac.eval (.tmp 38) = .bool true := hd 17 _ _ rfl rfl rfl
      exact ⟨_, x_assign (.tmp 38) rfl d17, rfl⟩
  · intro L a1 w5 hI hall
    obtain ⟨k5, hk5, hU5⟩ := hI.done hall (by decide)
    have l1 : a1.tmps.getD 4 undef = .bool true := hI.get hall (i := 18) rfl rfl
    have hde : a1.defers = [] := hI.defers
    have hr : (results Try.f3 a1.tmps).run Try.prog w5 = .ok (a1.tmps.getD 4 undef) w5 := results_tmp rfl _ _ _
    rw [l1] at hr
    clear hI
    go_wp2_with fail
    exact bodyPost_ret hr hde ⟨rfl, Lib.hid (HV2.out.trans hU5)⟩
set_option maxRecDepth 100000 in
set_option maxHeartbeats 4000000 in
theorem law_acks (x : Wy) (n f : Int) (full : Bool) (w : World) (hf : f ≤ 9223372036854775807) : Calls Try.prog 5 #[.agg x.cs, .int .i64 n, .int .i64 f, .bool full] w (RetB true w) := by
  have HR1 : ∀ wx, Calls Try.prog 20 #[.agg x.cs, .int .i64 f] wx (RI (roomOf x f) wx) := fun wx => room_any x f wx hf
  have HR2 : ∀ wx, Calls Try.prog 21 #[.agg x.cs, .int .i64 f] wx (RI (roomOf x f) wx) := fun wx => rroom_any x f wx hf
  obtain ⟨r, hr⟩ : ∃ r, r = ackOf x n full := ⟨_, rfl⟩
  have H1 : ∀ wx, Calls Try.prog 18 #[.agg x.cs, .int .i64 n, .bool full] wx (WRes r.1 r.2 wx) := fun wx => by rw [hr]; exact acked_any x n full wx
  have H2 : ∀ wx, Calls Try.prog 19 #[.agg x.cs, .int .i64 n, .bool full] wx (WRes r.1 r.2 wx) := fun wx => by rw [hr]; exact rack_any x n full wx
  clear hr hf
  obtain ⟨r1, r2⟩ := r
  generalize roomOf x f = rm at HR1 HR2
  dsimp only at H1 H2
  have hb0 := new_at w (.cells x.cs 23)
  have hu : Up w (w.alloc (.cells x.cs 23)) := up_alloc w (.cells x.cs 23)
  change (w.alloc (.cells x.cs 23)).heap[w.heap.size]? = _ at hb0
  have HM0 := Lib.hid hb0
  have HU1 := Lib.hid hu
  clear hu hb0
  go_enter Try.func5, Try.ntmps5
  go_upto_region 1 with (fail)
  generalize (w.alloc (.cells x.cs 23)) = v0 at HM0 HU1 ⊢
  obtain ⟨p, hp⟩ : ∃ p, p = w.heap.size := ⟨_, rfl⟩
  rw [← hp] at HM0 ⊢
  have HP := Lib.hid hp
  clear hp
  have HV0 := HU1
  have HB_p := HM0
  clear HU1 HM0
  have k0 : v0.cell? ⟨p, 0, none⟩ = some (.int .i64 x.s) := cell_of HB_p.out rfl
  have k1 : v0.cell? ⟨p, 1, none⟩ = some (.int .i64 x.v) := cell_of HB_p.out rfl
  have k2 : v0.cell? ⟨p, 2, none⟩ = some (.int .i64 x.r) := cell_of HB_p.out rfl
  have k3 : v0.cell? ⟨p, 3, none⟩ = some (.int .i64 x.e) := cell_of HB_p.out rfl
  have k4 : v0.cell? ⟨p, 4, none⟩ = some (.int .i64 x.c) := cell_of HB_p.out rfl
  have k5 : v0.cell? ⟨p, 5, none⟩ = some (.int .i64 x.t) := cell_of HB_p.out rfl
  have k6 : v0.cell? ⟨p, 6, none⟩ = some (.int .i64 x.a) := cell_of HB_p.out rfl
  go_wp2_with fail
  refine (H1 _).mono ?_
  rintro e u1 ⟨rfl, HU1⟩
  go_upto_region 2 with (fail)
  have hn1 := new_at u1 (.cells r1.cs 23)
  have HW1 := Lib.hid (HV0.out.trans (HU1.out.trans (up_alloc u1 (.cells r1.cs 23))))
  have HV1 := HW1
  have hB_p := ((HU1.out.trans (up_alloc u1 (.cells r1.cs 23))).block _ (lt_of_blk HB_p.out)).trans HB_p.out
  have HB_p := Lib.hid hB_p
  clear hB_p
  have HB_g1 := Lib.hid hn1
  clear hn1
  change Hid ((u1.alloc (.cells #[.int .i64 r1.s, .int .i64 r1.v, .int .i64 r1.r, .int .i64 r1.e, .int .i64 r1.c, .int .i64 r1.t, .int .i64 r1.a] 23)).heap[u1.heap.size]? = _) at HB_g1
  change Hid (Up w (u1.alloc (.cells #[.int .i64 r1.s, .int .i64 r1.v, .int .i64 r1.r, .int .i64 r1.e, .int .i64 r1.c, .int .i64 r1.t, .int .i64 r1.a] 23))) at HV1
  change Hid ((u1.alloc (.cells #[.int .i64 r1.s, .int .i64 r1.v, .int .i64 r1.r, .int .i64 r1.e, .int .i64 r1.c, .int .i64 r1.t, .int .i64 r1.a] 23)).heap[p]? = _) at HB_p
  clear HW1 HU1 k0 k1 k2 k3 k4 k5 k6
  generalize u1.alloc (.cells #[.int .i64 r1.s, .int .i64 r1.v, .int .i64 r1.r, .int .i64 r1.e, .int .i64 r1.c, .int .i64 r1.t, .int .i64 r1.a] 23) = v1 at HV1 HB_g1 HB_p ⊢
  generalize u1.heap.size = g1 at HB_g1 ⊢
  have k0 : v1.cell? ⟨p, 0, none⟩ = some (.int .i64 x.s) := cell_of HB_p.out rfl
  have k1 : v1.cell? ⟨p, 1, none⟩ = some (.int .i64 x.v) := cell_of HB_p.out rfl
  have k2 : v1.cell? ⟨p, 2, none⟩ = some (.int .i64 x.r) := cell_of HB_p.out rfl
  have k3 : v1.cell? ⟨p, 3, none⟩ = some (.int .i64 x.e) := cell_of HB_p.out rfl
  have k4 : v1.cell? ⟨p, 4, none⟩ = some (.int .i64 x.c) := cell_of HB_p.out rfl
  have k5 : v1.cell? ⟨p, 5, none⟩ = some (.int .i64 x.t) := cell_of HB_p.out rfl
  have k6 : v1.cell? ⟨p, 6, none⟩ = some (.int .i64 x.a) := cell_of HB_p.out rfl
  go_wp2_with fail
  refine (H2 _).mono ?_
  rintro e u2 ⟨rfl, HU2⟩
  go_upto_region 3 with (fail)
  have hn2 := new_at u2 (.cells r1.cs 23)
  have HW2 := Lib.hid (HV1.out.trans (HU2.out.trans (up_alloc u2 (.cells r1.cs 23))))
  have HV2 := HW2
  have hB_p := ((HU2.out.trans (up_alloc u2 (.cells r1.cs 23))).block _ (lt_of_blk HB_p.out)).trans HB_p.out
  have HB_p := Lib.hid hB_p
  clear hB_p
  have hB_g1 := ((HU2.out.trans (up_alloc u2 (.cells r1.cs 23))).block _ (lt_of_blk HB_g1.out)).trans HB_g1.out
  have HB_g1 := Lib.hid hB_g1
  clear hB_g1
  have HB_g2 := Lib.hid hn2
  clear hn2
  change Hid ((u2.alloc (.cells #[.int .i64 r1.s, .int .i64 r1.v, .int .i64 r1.r, .int .i64 r1.e, .int .i64 r1.c, .int .i64 r1.t, .int .i64 r1.a] 23)).heap[u2.heap.size]? = _) at HB_g2
  change Hid (Up w (u2.alloc (.cells #[.int .i64 r1.s, .int .i64 r1.v, .int .i64 r1.r, .int .i64 r1.e, .int .i64 r1.c, .int .i64 r1.t, .int .i64 r1.a] 23))) at HV2
  change Hid ((u2.alloc (.cells #[.int .i64 r1.s, .int .i64 r1.v, .int .i64 r1.r, .int .i64 r1.e, .int .i64 r1.c, .int .i64 r1.t, .int .i64 r1.a] 23)).heap[p]? = _) at HB_p
  change Hid ((u2.alloc (.cells #[.int .i64 r1.s, .int .i64 r1.v, .int .i64 r1.r, .int .i64 r1.e, .int .i64 r1.c, .int .i64 r1.t, .int .i64 r1.a] 23)).heap[g1]? = _) at HB_g1
  clear HW2 HU2 k0 k1 k2 k3 k4 k5 k6
  generalize u2.alloc (.cells #[.int .i64 r1.s, .int .i64 r1.v, .int .i64 r1.r, .int .i64 r1.e, .int .i64 r1.c, .int .i64 r1.t, .int .i64 r1.a] 23) = v2 at HV2 HB_g2 HB_p HB_g1 ⊢
  generalize u2.heap.size = g2 at HB_g2 ⊢
  have HK : ∀ φ ∈ [Is (.bool true), Is (.bool true), Is (.agg r1.cs), Is (.agg r1.cs), Is (.bool true), Is (.bool true), Is (.bool true), Is (.int .i64 r2), Is (.int .i64 r2), Is (.bool true), Is (.bool true), Is (.bool true), Is (.agg x.cs), Is (.int .i64 f), Is (.int .i64 rm), Is (.agg x.cs), Is (.int .i64 f), Is (.int .i64 rm), Is (.bool true), Is (.bool true), Is (.bool true)], Free φ := by
    intro φ hφ
    simp only [List.mem_cons, List.mem_nil_iff, or_false] at hφ
    rcases hφ with rfl | rfl | rfl | rfl | rfl | rfl | rfl | rfl | rfl | rfl | rfl | rfl | rfl | rfl | rfl | rfl | rfl | rfl | rfl | rfl | rfl <;> exact free_is _
  refine staged_lit (by kernel_rfl) (facts [Is (.bool true), Is (.bool true), Is (.agg r1.cs), Is (.agg r1.cs), Is (.bool true), Is (.bool true), Is (.bool true), Is (.int .i64 r2), Is (.int .i64 r2), Is (.bool true), Is (.bool true), Is (.bool true), Is (.agg x.cs), Is (.int .i64 f), Is (.int .i64 rm), Is (.agg x.cs), Is (.int .i64 f), Is (.int .i64 rm), Is (.bool true), Is (.bool true), Is (.bool true)]) (Stg [] (fun _ wx => Up v2 wx)) 47 rfl (by decide +kernel) (by decide +kernel) (Stg.start (Up.drew v2)) ?_ ?_
  · refine ⟨?_, ?_, ?_, ?_, ?_, ?_, ?_, ?_, ?_, ?_, ?_, ?_, ?_, ?_, ?_, ?_, ?_, ?_, ?_, ?_, ?_, trivial⟩
    · refine opS_callUp rfl rfl (fun k wa wb h hu => Up.trans h hu) (fun j v wa wb h _ => facts_free HK j v h) fun L ac w1 hJ hl hc ho hd => ?_
      refine ⟨11, _, x_fcall 11 [] _ rfl (by kernel_rfl), ?_⟩
      exact (answers_ok w1).mono fun e w2 ⟨he, hu⟩ => ⟨_, he, hu.out, rfl⟩
    · refine opS_same rfl rfl fun L ac w1 hJ hl hc ho hd => ?_
      have d0 : ac.eval (.tmp 27) = .bool true := hd 0 _ _ rfl rfl rfl
      exact ⟨_, x_move (.tmp 27) rfl d0, rfl⟩
    · refine opS_sameG 1 true _ _ rfl rfl rfl rfl (fun _ _ h => h) rfl fun L ac w1 hJ hl hc ho hd => ?_
      have s9 : ac.eval (.tmp 9) = .pointer (some ⟨g1, 0, none⟩) := ho 9 rfl
      obtain ⟨_, _, hU⟩ := hJ
      exact ⟨_, x_load 23 (.tmp 9) rfl s9 (run_loadRow (cs := r1.cs) ((hU.block _ (lt_of_blk HB_g1.out)).trans HB_g1.out) Try.underlying23 rfl rfl), rfl⟩
    · refine opS_sameG 1 true _ _ rfl rfl rfl rfl (fun _ _ h => h) rfl fun L ac w1 hJ hl hc ho hd => ?_
      have s11 : ac.eval (.tmp 11) = .pointer (some ⟨g2, 0, none⟩) := ho 11 rfl
      obtain ⟨_, _, hU⟩ := hJ
      exact ⟨_, x_load 23 (.tmp 11) rfl s11 (run_loadRow (cs := r1.cs) ((hU.block _ (lt_of_blk HB_g2.out)).trans HB_g2.out) Try.underlying23 rfl rfl), rfl⟩
    · refine opS_sameG 1 true _ _ rfl rfl rfl rfl (fun _ _ h => h) rfl fun L ac w1 hJ hl hc ho hd => ?_
      have d2 : ac.eval (.tmp 29) = .agg r1.cs := hd 2 _ _ rfl rfl rfl
      have d3 : ac.eval (.tmp 30) = .agg r1.cs := hd 3 _ _ rfl rfl rfl
      exact ⟨_, x_bin .eql 23 23 (.tmp 29) (.tmp 30) rfl d2 d3 (grd23 _ _ r1 r1 _) (eq23 r1 _), rfl⟩
    · refine opS_same rfl rfl fun L ac w1 hJ hl hc ho hd => ?_
      have d1 : ac.eval (.tmp 28) = .bool true := hd 1 _ _ rfl rfl rfl
      have d4 : ac.eval (.tmp 31) = .bool true := hd 4 _ _ rfl rfl rfl
      exact ⟨_, x_pick (.tmp 28) (.tmp 31) (.const (.bool false)) (b := true) (Y := .bool false) rfl d1 (fun _ => d4) (fun h => absurd h (by decide)), rfl⟩
    · refine opS_same rfl rfl fun L ac w1 hJ hl hc ho hd => ?_
      have d5 : ac.eval (.tmp 32) = .bool true := hd 5 _ _ rfl rfl rfl
      exact ⟨_, x_move (.tmp 32) rfl d5, rfl⟩
    · refine opS_sameG 6 true _ _ rfl rfl rfl rfl (fun _ _ h => h) rfl fun L ac w1 hJ hl hc ho hd => ?_
      have s10 : ac.eval (.tmp 10) = .int .i64 r2 := ho 10 rfl
      exact ⟨_, x_move (.tmp 10) rfl s10, rfl⟩
    · refine opS_sameG 6 true _ _ rfl rfl rfl rfl (fun _ _ h => h) rfl fun L ac w1 hJ hl hc ho hd => ?_
      have s12 : ac.eval (.tmp 12) = .int .i64 r2 := ho 12 rfl
      exact ⟨_, x_move (.tmp 12) rfl s12, rfl⟩
    · refine opS_sameG 6 true _ _ rfl rfl rfl rfl (fun _ _ h => h) rfl fun L ac w1 hJ hl hc ho hd => ?_
      have d7 : ac.eval (.tmp 34) = .int .i64 r2 := hd 7 _ _ rfl rfl rfl
      have d8 : ac.eval (.tmp 35) = .int .i64 r2 := hd 8 _ _ rfl rfl rfl
      exact ⟨_, x_bin .eql 24 24 (.tmp 34) (.tmp 35) rfl d7 d8 (grdi _ _ _ _ _ _) (eqi24 _ _), rfl⟩
    · refine opS_same rfl rfl fun L ac w1 hJ hl hc ho hd => ?_
      have d6 : ac.eval (.tmp 33) = .bool true := hd 6 _ _ rfl rfl rfl
      have d9 : ac.eval (.tmp 36) = .bool true := hd 9 _ _ rfl rfl rfl
      exact ⟨_, x_pick (.tmp 33) (.tmp 36) (.const (.bool false)) (b := true) (Y := .bool false) rfl d6 (fun _ => d9) (fun h => absurd h (by decide)), rfl⟩
    · refine opS_same rfl rfl fun L ac w1 hJ hl hc ho hd => ?_
      have d10 : ac.eval (.tmp 37) = .bool true := hd 10 _ _ rfl rfl rfl
      exact ⟨_, x_move (.tmp 37) rfl d10, rfl⟩
    · refine opS_sameG 11 true _ _ rfl rfl rfl rfl (fun _ _ h => h) rfl fun L ac w1 hJ hl hc ho hd => ?_
      have s4 : ac.eval (.tmp 4) = .pointer (some ⟨p, 0, none⟩) := ho 4 rfl
      obtain ⟨_, _, hU⟩ := hJ
      exact ⟨_, x_load 23 (.tmp 4) rfl s4 (run_loadRow (cs := x.cs) ((hU.block _ (lt_of_blk HB_p.out)).trans HB_p.out) Try.underlying23 rfl rfl), rfl⟩
    · refine opS_sameG 11 true _ _ rfl rfl rfl rfl (fun _ _ h => h) rfl fun L ac w1 hJ hl hc ho hd => ?_
      have s2 : ac.eval (.tmp 2) = .int .i64 f := ho 2 rfl
      exact ⟨_, x_move (.tmp 2) rfl s2, rfl⟩
    · refine opS_callUpG 11 true _ _ rfl rfl rfl rfl (fun _ _ h => h) rfl (fun k wa wb h hu => Up.trans h hu) (fun j v wa wb h _ => facts_free HK j v h) fun L ac w1 hJ hl hc ho hd => ?_
      have d12 : ac.eval (.tmp 39) = .agg x.cs := hd 12 _ _ rfl rfl rfl
      have d13 : ac.eval (.tmp 40) = .int .i64 f := hd 13 _ _ rfl rfl rfl
      refine ⟨20, _, x_fcall 20 [.tmp 39, .tmp 40] _ rfl (by kernel_rfl), ?_⟩
      simp only [List.map_cons, List.map_nil, d12, d13]
      exact (HR1 w1).mono fun e w2 ⟨he, hu⟩ => ⟨_, he, hu.out, rfl⟩
    · refine opS_sameG 11 true _ _ rfl rfl rfl rfl (fun _ _ h => h) rfl fun L ac w1 hJ hl hc ho hd => ?_
      have s4 : ac.eval (.tmp 4) = .pointer (some ⟨p, 0, none⟩) := ho 4 rfl
      obtain ⟨_, _, hU⟩ := hJ
      exact ⟨_, x_load 23 (.tmp 4) rfl s4 (run_loadRow (cs := x.cs) ((hU.block _ (lt_of_blk HB_p.out)).trans HB_p.out) Try.underlying23 rfl rfl), rfl⟩
    · refine opS_sameG 11 true _ _ rfl rfl rfl rfl (fun _ _ h => h) rfl fun L ac w1 hJ hl hc ho hd => ?_
      have s2 : ac.eval (.tmp 2) = .int .i64 f := ho 2 rfl
      exact ⟨_, x_move (.tmp 2) rfl s2, rfl⟩
    · refine opS_callUpG 11 true _ _ rfl rfl rfl rfl (fun _ _ h => h) rfl (fun k wa wb h hu => Up.trans h hu) (fun j v wa wb h _ => facts_free HK j v h) fun L ac w1 hJ hl hc ho hd => ?_
      have d15 : ac.eval (.tmp 42) = .agg x.cs := hd 15 _ _ rfl rfl rfl
      have d16 : ac.eval (.tmp 43) = .int .i64 f := hd 16 _ _ rfl rfl rfl
      refine ⟨21, _, x_fcall 21 [.tmp 42, .tmp 43] _ rfl (by kernel_rfl), ?_⟩
      simp only [List.map_cons, List.map_nil, d15, d16]
      exact (HR2 w1).mono fun e w2 ⟨he, hu⟩ => ⟨_, he, hu.out, rfl⟩
    · refine opS_sameG 11 true _ _ rfl rfl rfl rfl (fun _ _ h => h) rfl fun L ac w1 hJ hl hc ho hd => ?_
      have d14 : ac.eval (.tmp 41) = .int .i64 rm := hd 14 _ _ rfl rfl rfl
      have d17 : ac.eval (.tmp 44) = .int .i64 rm := hd 17 _ _ rfl rfl rfl
      exact ⟨_, x_bin .eql 3 3 (.tmp 41) (.tmp 44) rfl d14 d17 (grdi _ _ _ _ _ _) (eqi3 _ _), rfl⟩
    · refine opS_same rfl rfl fun L ac w1 hJ hl hc ho hd => ?_
      have d11 : ac.eval (.tmp 38) = .bool true := hd 11 _ _ rfl rfl rfl
      have d18 : ac.eval (.tmp 45) = .bool true := hd 18 _ _ rfl rfl rfl
      exact ⟨_, x_pick (.tmp 38) (.tmp 45) (.const (.bool false)) (b := true) (Y := .bool false) rfl d11 (fun _ => d18) (fun h => absurd h (by decide)), rfl⟩
    · refine opS_same rfl rfl fun L ac w1 hJ hl hc ho hd => ?_
      have d19 : ac.eval (.tmp 46) = .bool true := hd 19 _ _ rfl rfl rfl
      exact ⟨_, x_assign (.tmp 46) rfl d19, rfl⟩
  · intro L a1 w5 hI hall
    obtain ⟨k5, hk5, hU5⟩ := hI.done hall (by decide)
    have l1 : a1.tmps.getD 8 undef = .bool true := hI.get hall (i := 20) rfl rfl
    have hde : a1.defers = [] := hI.defers
    have hr : (results Try.f5 a1.tmps).run Try.prog w5 = .ok (a1.tmps.getD 8 undef) w5 := results_tmp rfl _ _ _
    rw [l1] at hr
    clear hI
    go_wp2_with fail
    exact bodyPost_ret hr hde ⟨rfl, Lib.hid (HV2.out.trans hU5)⟩
end Go.Proofs.Ytahpejcejbgcpaa
