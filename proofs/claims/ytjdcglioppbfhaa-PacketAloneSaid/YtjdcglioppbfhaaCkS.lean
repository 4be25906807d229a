import Derived.Test.YtjdcglioppbfhaaCk2
import Derived.Test.YtjdcglioppbfhaaStaged
import Derived.Test.YtjdcglioppbfhaaCk3
namespace Go.Proofs.Ytjdcglioppbfhaa
open Go Go.RowKit
set_option linter.unusedVariables false
set_option linter.unusedSimpArgs false
section
variable {P : Program} {ops : Array Oper} {Φ : Nat → Value → World → Prop} {a0 : Act}
/-- A guarded call that is made, and makes memory. -/
theorem opS_callUpG {ws : List Nat} {W : Nat → World → Prop} {i : Nat} {o : Oper} (j : Nat) (b : Bool) (oj : Oper) (d : Tmp) (hg : o.guard = some (j, b)) (hin : (o.after.toList.any fun e => e.on == j && Region.binds .any e) = true) (hj : ops[j]? = some oj) (hdj : oj.dst = some d) (hv : ∀ v w, Φ j v w → v = .bool b) (hi : ws.contains i = false)
    (hW : ∀ k w w', W k w → Up w w' → W k w') (hF : ∀ j x w w', Φ j x w → Up w w' → Φ j x w')
    (h : ∀ (L : Nat → Bool) (a : Act) (w : World), Stg ws W L w → L i = false → Closed ops L → (∀ t, oldB ops t = true → a.tmps.getD t undef = a0.tmps.getD t undef) →
      (∀ (j : Nat) (oj : Oper) (d : Tmp), (o.after.toList.any fun e => e.on == j && Region.binds .any e) = true → ops[j]? = some oj → oj.dst = some d → Φ j (a.tmps.getD d undef) w) → ∃ f args, (execOp a.eval o).run P w = .ok (.enter f args) w ∧ Calls P f args w fun e w' => ∃ v, e = .returned v ∧ Up w w' ∧ Φ i v w') : OpS P ops Φ (Stg ws W) a0 i o := by
  intro L a w hJ hl hc _ _ ho hd
  have hy := yielded_of (tmps := a.tmps) hj hdj (hv _ w (hd j oj d hin hj hdj))
  rw [if_pos (by simp [Region.wanted, hg, hy])]
  obtain ⟨f, args, hr, hcall⟩ := h L a w hJ hl hc ho hd
  unfold Oper.wp
  rw [hr]
  refine Calls.mono hcall fun e w' ⟨v, he, hu, hv⟩ => ?_
  subst he
  exact ⟨⟨v, rfl, hv⟩, hJ.same hi (fun k hk => hW k w w' hk hu), fun j x _ hj => hF j x w w' hj hu⟩
end
section
variable {P : Program} {o : Oper} {a : Act} {w : World}
theorem x_build {P : Program} {o : Oper} {a : Act} {w : World} (t : TypeId) (ps : Array (Nat × Operand)) {v : Value} (ho : o.op = .build t ps) (hr : (Instr.build t (ps.map fun (i, x) => (i, a.eval x))).run P w = .ok v w) : (execOp a.eval o).run P w = .ok (.value v) w := by simp [execOp, ho, hr, Result.andThen]
theorem x_not (t : TypeId) (x : Operand) {b : Bool} (ho : o.op = .unOp .not t x) (hx : a.eval x = .bool b) : (execOp a.eval o).run P w = .ok (.value (.bool !b)) w := by simp [execOp, ho, hx, Op.unary, asBool]
end
theorem agg5 (w : World) : (isAgg 5).run Try.prog w = .ok false w := by kernel_rfl
theorem agg23 (w : World) : (isAgg 22).run Try.prog w = .ok false w := by kernel_rfl
theorem agg3 (w : World) : (isAgg 3).run Try.prog w = .ok false w := by kernel_rfl
theorem sz41 (w : World) : (Go.sizeOf 43).run Try.prog w = .ok 3 w := by kernel_rfl
theorem fld770 (b o : Nat) (w : World) : (Instr.fieldAt 59 (.pointer (some ⟨b, o, none⟩)) 0).run Try.prog w = .ok (.pointer (some ⟨b, o, none⟩)) w := by kernel_rfl
theorem fld771 (b o : Nat) (w : World) : (Instr.fieldAt 59 (.pointer (some ⟨b, o, none⟩)) 1).run Try.prog w = .ok (.pointer (some ⟨b, o + 1, none⟩)) w := by kernel_rfl
end Go.Proofs.Ytjdcglioppbfhaa
namespace Go.Proofs.Ytjdcglioppbfhaa
open Go Go.RowKit
set_option linter.unusedVariables false
/-! The reader: bytes. -/
/-- Bytes of its own, and no error. -/
def PhT (B : Nat) (ys : List Int) (v : Value) (w : World) : Prop := ∃ A N c, v = .tuple #[.slice A N c, .int .i64 0] ∧ N = ys.length ∧ OwnI .u8 5 B w A N c ys
def PhB (B : Nat) (ys : List Int) (v : Value) (w : World) : Prop := ∃ A N c, v = .slice A N c ∧ N = ys.length ∧ OwnI .u8 5 B w A N c ys
theorem keeps_PhT (B : Nat) (ys : List Int) : Keeps (PhT B ys) := fun v w w' ⟨A, N, c, e, hn, ho⟩ hu => ⟨A, N, c, e, hn, own_up ho hu⟩
theorem keeps_PhB (B : Nat) (ys : List Int) : Keeps (PhB B ys) := fun v w w' ⟨A, N, c, e, hn, ho⟩ hu => ⟨A, N, c, e, hn, own_up ho hu⟩
theorem OwnI.base {k : IntKind} {E : TypeId} {B B' : Nat} {w : World} {A : Option Addr} {N c : Nat} {xs : List Int} (h : OwnI k E B w A N c xs) (hb : B' ≤ B) : OwnI k E B' w A N c xs := by
  refine ⟨h.1, ?_⟩
  rcases h.2 with h2 | ⟨g, cap, cur, h1, h2, h3⟩
  · exact .inl h2
  · exact .inr ⟨g, cap, cur, h1, Nat.le_trans hb h2, h3⟩
/-- Behind a method that reads bytes: they are a row of its own. -/
def BytesPost (g : Nat) (xs : List Int) (ys : List Int) (r' : R) (w : World) (e : Ending) (w' : World) : Prop := ∃ A N c, e = .returned (.slice A N c) ∧ Hid (N = ys.length) ∧ Hid (OwnI .u8 5 w.heap.size w' A N c ys) ∧ Hid (IsR w' g xs r') ∧ Hid (Out (One g) w w')
section
variable {g : Nat} {xs : List Int} {r : R}
set_option maxRecDepth 100000 in
set_option maxHeartbeats 2000000 in
theorem rbytes_ok (w : World) (h : IsR w g xs r) (n : Nat) (hn : r.at_ + n ≤ xs.length) : Calls Try.prog 50 #[.pointer (some ⟨g, 0, none⟩), .int .i64 (n : Int)] w (BytesPost g xs ((xs.drop r.at_).take n) ⟨r.at_ + n, r.e⟩ w) := by
  obtain ⟨A, m, c, k1, k2, k3⟩ := h.ex
  have hc0 := cell_of k1 (j := 0) rfl
  have hc1 := cell_of k1 (j := 1) rfl
  have hm : m ≤ 140737488351232 := by have := h.len; have := k2.len; omega
  have HM := Lib.hid k2.len
  have HA := Lib.hid h.at_
  have H := Lib.hid h
  have HB := Lib.hid k2
  have HN := Lib.hid hn
  clear hn
  clear h k1 k2 k3
  have HK : ∀ φ ∈ [Is (.pointer (some ⟨g, 0, none⟩)), Is (.pointer (some ⟨g, 0, none⟩)), Is (.pointer (some ⟨g, 0, none⟩)), Is (.slice A m c), Is (.pointer (some ⟨g, 0, none⟩)), Is (.pointer (some ⟨g, 0, none⟩)), Is (.pointer (some ⟨g, 1, none⟩)), Is (.int .i64 (r.at_ : Int)), Is (.int .i64 (n : Int)), PhT w.heap.size ((xs.drop r.at_).take n), PhT w.heap.size ((xs.drop r.at_).take n), PhB w.heap.size ((xs.drop r.at_).take n), Is (.int .i64 0), PhB w.heap.size ((xs.drop r.at_).take n), Is (.int .i64 0)], Keeps φ := by
    intro φ hφ
    simp only [List.mem_cons, List.mem_nil_iff, or_false] at hφ
    rcases hφ with rfl | rfl | rfl | rfl | rfl | rfl | rfl | rfl | rfl | rfl | rfl | rfl | rfl | rfl | rfl <;> first | exact keeps_is _ | exact keeps_PhT _ _ | exact keeps_PhB _ _
  go_enter Try.func50, Try.ntmps50
  go_upto_region 1 with (fail)
  refine staged_lit (by kernel_rfl) (facts [Is (.pointer (some ⟨g, 0, none⟩)), Is (.pointer (some ⟨g, 0, none⟩)), Is (.pointer (some ⟨g, 0, none⟩)), Is (.slice A m c), Is (.pointer (some ⟨g, 0, none⟩)), Is (.pointer (some ⟨g, 0, none⟩)), Is (.pointer (some ⟨g, 1, none⟩)), Is (.int .i64 (r.at_ : Int)), Is (.int .i64 (n : Int)), PhT w.heap.size ((xs.drop r.at_).take n), PhT w.heap.size ((xs.drop r.at_).take n), PhB w.heap.size ((xs.drop r.at_).take n), Is (.int .i64 0), PhB w.heap.size ((xs.drop r.at_).take n), Is (.int .i64 0)]) (Stg [] (fun _ wx => Up w wx)) 25 rfl (by decide +kernel) (by decide +kernel) (Stg.start (up_drewN w 1)) ?_ ?_
  · refine ⟨?_, ?_, ?_, ?_, ?_, ?_, ?_, ?_, ?_, ?_, ?_, ?_, ?_, ?_, ?_, trivial⟩
    · refine opS_same rfl rfl fun L ac w1 hJ hl hc ho hd => ?_
      have s0 : ac.eval (.tmp 0) = .pointer (some ⟨g, 0, none⟩) := ho 0 rfl
      exact ⟨_, x_move (.tmp 0) rfl s0, rfl⟩
    · refine opS_same rfl rfl fun L ac w1 hJ hl hc ho hd => ?_
      have d0 : ac.eval (.tmp 8) = .pointer (some ⟨g, 0, none⟩) := hd 0 _ _ rfl rfl rfl
      exact ⟨_, x_nil (.tmp 8) rfl d0, rfl⟩
    · refine opS_same rfl rfl fun L ac w1 hJ hl hc ho hd => ?_
      have d1 : ac.eval (.tmp 9) = .pointer (some ⟨g, 0, none⟩) := hd 1 _ _ rfl rfl rfl
      exact ⟨_, x_field 59 (.tmp 9) 0 rfl d1 (fld770 _ _ _), rfl⟩
    · refine opS_same rfl rfl fun L ac w1 hJ hl hc ho hd => ?_
      have d2 : ac.eval (.tmp 10) = .pointer (some ⟨g, 0, none⟩) := hd 2 _ _ rfl rfl rfl
      obtain ⟨_, _, hU⟩ := hJ
      exact ⟨_, x_load 22 (.tmp 10) rfl d2 (run_load1 agg23 (cell_up hc0 hU)), rfl⟩
    · refine opS_same rfl rfl fun L ac w1 hJ hl hc ho hd => ?_
      have s0 : ac.eval (.tmp 0) = .pointer (some ⟨g, 0, none⟩) := ho 0 rfl
      exact ⟨_, x_move (.tmp 0) rfl s0, rfl⟩
    · refine opS_same rfl rfl fun L ac w1 hJ hl hc ho hd => ?_
      have d4 : ac.eval (.tmp 12) = .pointer (some ⟨g, 0, none⟩) := hd 4 _ _ rfl rfl rfl
      exact ⟨_, x_nil (.tmp 12) rfl d4, rfl⟩
    · refine opS_same rfl rfl fun L ac w1 hJ hl hc ho hd => ?_
      have d5 : ac.eval (.tmp 13) = .pointer (some ⟨g, 0, none⟩) := hd 5 _ _ rfl rfl rfl
      exact ⟨_, x_field 59 (.tmp 13) 1 rfl d5 (fld771 _ _ _), rfl⟩
    · refine opS_same rfl rfl fun L ac w1 hJ hl hc ho hd => ?_
      have d6 : ac.eval (.tmp 14) = .pointer (some ⟨g, 1, none⟩) := hd 6 _ _ rfl rfl rfl
      obtain ⟨_, _, hU⟩ := hJ
      exact ⟨_, x_load 3 (.tmp 14) rfl d6 (run_load1 agg3 (cell_up hc1 hU)), rfl⟩
    · refine opS_same rfl rfl fun L ac w1 hJ hl hc ho hd => ?_
      have s1 : ac.eval (.tmp 1) = .int .i64 (n : Int) := ho 1 rfl
      exact ⟨_, x_move (.tmp 1) rfl s1, rfl⟩
    · refine opS_callUp rfl rfl (fun k wa wb h hu => Up.trans h hu) (facts_keep HK) fun L ac w1 hJ hl hc ho hd => ?_
      have d3 : ac.eval (.tmp 11) = .slice A m c := hd 3 _ _ rfl rfl rfl
      have d7 : ac.eval (.tmp 15) = .int .i64 (r.at_ : Int) := hd 7 _ _ rfl rfl rfl
      have d8 : ac.eval (.tmp 16) = .int .i64 (n : Int) := hd 8 _ _ rfl rfl rfl
      obtain ⟨_, _, hU⟩ := hJ
      refine ⟨63, _, x_fcall 63 [.tmp 11, .tmp 15, .tmp 16] _ rfl (by kernel_rfl), ?_⟩
      simp only [List.map_cons, List.map_nil, d3, d7, d8]
      refine (part_any A m c r.at_ n xs w1 (HB.out.up hU) (by omega) (by have := HN.out; have := HM.out; omega)).mono fun e w2 ⟨A9, N9, c9, he, hn9, ho9, hu9⟩ => ⟨_, he, hu9.out, A9, N9, c9, rfl, ?_, ho9.out.base hU.size⟩
      have := HN.out
      rw [hn9.out]; simp; omega
    · refine opS_same rfl rfl fun L ac w1 hJ hl hc ho hd => ?_
      have d9 := hd 9 _ _ rfl rfl rfl
      exact ⟨_, x_move (.tmp 17) rfl rfl, d9⟩
    · refine opS_same rfl rfl fun L ac w1 hJ hl hc ho hd => ?_
      have d10 := hd 10 _ _ rfl rfl rfl
      obtain ⟨A9, N9, c9, e9, hn9, ho9⟩ := d10
      exact ⟨_, x_extract (.tmp 7) 0 rfl e9 rfl, A9, N9, c9, rfl, hn9, ho9⟩
    · refine opS_same rfl rfl fun L ac w1 hJ hl hc ho hd => ?_
      have d10 := hd 10 _ _ rfl rfl rfl
      obtain ⟨A9, N9, c9, e9, hn9, ho9⟩ := d10
      exact ⟨_, x_extract (.tmp 7) 1 rfl e9 rfl, rfl⟩
    · refine opS_same rfl rfl fun L ac w1 hJ hl hc ho hd => ?_
      have d11 := hd 11 _ _ rfl rfl rfl
      exact ⟨_, x_assign (.tmp 18) rfl rfl, d11⟩
    · refine opS_same rfl rfl fun L ac w1 hJ hl hc ho hd => ?_
      have d12 : ac.eval (.tmp 19) = .int .i64 0 := hd 12 _ _ rfl rfl rfl
      exact ⟨_, x_assign (.tmp 19) rfl d12, rfl⟩
  · intro L a1 w9 hI hall
    obtain ⟨k, hk, hU⟩ := hI.done hall (by simp)
    have HU := Lib.hid hU
    clear hk hU k HK hc0 hc1
    have l0 : a1.tmps.getD 0 undef = .pointer (some ⟨g, 0, none⟩) := hI.old 0 rfl
    have l1 : a1.tmps.getD 1 undef = .int .i64 (n : Int) := hI.old 1 rfl
    have l6 : a1.tmps.getD 6 undef = .int .i64 0 := hI.get hall (i := 14) rfl rfl
    obtain ⟨A5, N5, c5, l5, hn5, ho5⟩ := hI.get hall (i := 13) (d := 5) rfl rfl
    have hde : a1.defers = [] := hI.defers
    have hal := act_lit a1 25 hI.size
    clear hI
    simp only [List.range, List.range.loop, List.map_cons, List.map_nil] at hal
    rw [l0, l1, l6, l5, hde] at hal
    generalize a1.tmps.getD 2 undef = t2 at hal
    generalize a1.tmps.getD 3 undef = t3 at hal
    generalize a1.tmps.getD 4 undef = t4 at hal
    generalize a1.tmps.getD 7 undef = t7 at hal
    generalize a1.tmps.getD 8 undef = t8 at hal
    generalize a1.tmps.getD 9 undef = t9 at hal
    generalize a1.tmps.getD 10 undef = t10 at hal
    generalize a1.tmps.getD 11 undef = t11 at hal
    generalize a1.tmps.getD 12 undef = t12 at hal
    generalize a1.tmps.getD 13 undef = t13 at hal
    generalize a1.tmps.getD 14 undef = t14 at hal
    generalize a1.tmps.getD 15 undef = t15 at hal
    generalize a1.tmps.getD 16 undef = t16 at hal
    generalize a1.tmps.getD 17 undef = t17 at hal
    generalize a1.tmps.getD 18 undef = t18 at hal
    generalize a1.tmps.getD 19 undef = t19 at hal
    generalize a1.tmps.getD 20 undef = t20 at hal
    generalize a1.tmps.getD 21 undef = t21 at hal
    generalize a1.tmps.getD 22 undef = t22 at hal
    generalize a1.tmps.getD 23 undef = t23 at hal
    generalize a1.tmps.getD 24 undef = t24 at hal
    clear l0 l1 l6 l5 hde
    subst hal
    have HO5 := Lib.hid ho5
    have HN5 := Lib.hid hn5
    clear ho5 hn5
    go_wp2_with fail
    refine (rpass_ok n w9 (H.out.up HU.out) HN.out).mono ?_
    intro e w2 hp
    have HP := Lib.hid (hp.outr HU.out)
    have HO := Lib.hid hp.2.2.out
    have HH := Lib.hid (show g < w.heap.size from H.out.lt)
    obtain ⟨rfl, -⟩ := hp
    go_wp2_with fail
    go_ret
    refine ⟨A5, N5, c5, rfl, HN5, Lib.hid (HO.out.own HO5.out (fun q hq e => ?_)), HP.out.2.1, HP.out.2.2⟩
    have h1 : q = g := e
    have := (row_lt HO5.out (by rwa [ownBlock_slice] at hq)).1
    have := HH.out
    omega
set_option maxRecDepth 100000 in
set_option maxHeartbeats 2000000 in
theorem rbytes_short (w : World) (h : IsR w g xs r) (n : Nat) (hn : xs.length < r.at_ + n) : Calls Try.prog 50 #[.pointer (some ⟨g, 0, none⟩), .int .i64 (n : Int)] w (BytesPost g xs [] (failR 3 r) w) := by
  obtain ⟨A, m, c, k1, k2, k3⟩ := h.ex
  have hc0 := cell_of k1 (j := 0) rfl
  have hc1 := cell_of k1 (j := 1) rfl
  have hm : m ≤ 140737488351232 := by have := h.len; have := k2.len; omega
  have HM := Lib.hid k2.len
  have HA := Lib.hid h.at_
  have H := Lib.hid h
  have HB := Lib.hid k2
  have HN := Lib.hid hn
  clear hn
  clear h k1 k2 k3
  have HK : ∀ φ ∈ [Is (.pointer (some ⟨g, 0, none⟩)), Is (.pointer (some ⟨g, 0, none⟩)), Is (.pointer (some ⟨g, 0, none⟩)), Is (.slice A m c), Is (.pointer (some ⟨g, 0, none⟩)), Is (.pointer (some ⟨g, 0, none⟩)), Is (.pointer (some ⟨g, 1, none⟩)), Is (.int .i64 (r.at_ : Int)), Is (.int .i64 (n : Int)), Is (.tuple #[.slice none 0 0, .int .i64 3]), Is (.tuple #[.slice none 0 0, .int .i64 3]), Is (.slice none 0 0), Is (.int .i64 3), Is (.slice none 0 0), Is (.int .i64 3)], Keeps φ := by
    intro φ hφ
    simp only [List.mem_cons, List.mem_nil_iff, or_false] at hφ
    rcases hφ with rfl | rfl | rfl | rfl | rfl | rfl | rfl | rfl | rfl | rfl | rfl | rfl | rfl | rfl | rfl <;> first | exact keeps_is _ | exact keeps_PhT _ _ | exact keeps_PhB _ _
  go_enter Try.func50, Try.ntmps50
  go_upto_region 1 with (fail)
  refine staged_lit (by kernel_rfl) (facts [Is (.pointer (some ⟨g, 0, none⟩)), Is (.pointer (some ⟨g, 0, none⟩)), Is (.pointer (some ⟨g, 0, none⟩)), Is (.slice A m c), Is (.pointer (some ⟨g, 0, none⟩)), Is (.pointer (some ⟨g, 0, none⟩)), Is (.pointer (some ⟨g, 1, none⟩)), Is (.int .i64 (r.at_ : Int)), Is (.int .i64 (n : Int)), Is (.tuple #[.slice none 0 0, .int .i64 3]), Is (.tuple #[.slice none 0 0, .int .i64 3]), Is (.slice none 0 0), Is (.int .i64 3), Is (.slice none 0 0), Is (.int .i64 3)]) (Stg [] (fun _ wx => Up w wx)) 25 rfl (by decide +kernel) (by decide +kernel) (Stg.start (up_drewN w 1)) ?_ ?_
  · refine ⟨?_, ?_, ?_, ?_, ?_, ?_, ?_, ?_, ?_, ?_, ?_, ?_, ?_, ?_, ?_, trivial⟩
    · refine opS_same rfl rfl fun L ac w1 hJ hl hc ho hd => ?_
      have s0 : ac.eval (.tmp 0) = .pointer (some ⟨g, 0, none⟩) := ho 0 rfl
      exact ⟨_, x_move (.tmp 0) rfl s0, rfl⟩
    · refine opS_same rfl rfl fun L ac w1 hJ hl hc ho hd => ?_
      have d0 : ac.eval (.tmp 8) = .pointer (some ⟨g, 0, none⟩) := hd 0 _ _ rfl rfl rfl
      exact ⟨_, x_nil (.tmp 8) rfl d0, rfl⟩
    · refine opS_same rfl rfl fun L ac w1 hJ hl hc ho hd => ?_
      have d1 : ac.eval (.tmp 9) = .pointer (some ⟨g, 0, none⟩) := hd 1 _ _ rfl rfl rfl
      exact ⟨_, x_field 59 (.tmp 9) 0 rfl d1 (fld770 _ _ _), rfl⟩
    · refine opS_same rfl rfl fun L ac w1 hJ hl hc ho hd => ?_
      have d2 : ac.eval (.tmp 10) = .pointer (some ⟨g, 0, none⟩) := hd 2 _ _ rfl rfl rfl
      obtain ⟨_, _, hU⟩ := hJ
      exact ⟨_, x_load 22 (.tmp 10) rfl d2 (run_load1 agg23 (cell_up hc0 hU)), rfl⟩
    · refine opS_same rfl rfl fun L ac w1 hJ hl hc ho hd => ?_
      have s0 : ac.eval (.tmp 0) = .pointer (some ⟨g, 0, none⟩) := ho 0 rfl
      exact ⟨_, x_move (.tmp 0) rfl s0, rfl⟩
    · refine opS_same rfl rfl fun L ac w1 hJ hl hc ho hd => ?_
      have d4 : ac.eval (.tmp 12) = .pointer (some ⟨g, 0, none⟩) := hd 4 _ _ rfl rfl rfl
      exact ⟨_, x_nil (.tmp 12) rfl d4, rfl⟩
    · refine opS_same rfl rfl fun L ac w1 hJ hl hc ho hd => ?_
      have d5 : ac.eval (.tmp 13) = .pointer (some ⟨g, 0, none⟩) := hd 5 _ _ rfl rfl rfl
      exact ⟨_, x_field 59 (.tmp 13) 1 rfl d5 (fld771 _ _ _), rfl⟩
    · refine opS_same rfl rfl fun L ac w1 hJ hl hc ho hd => ?_
      have d6 : ac.eval (.tmp 14) = .pointer (some ⟨g, 1, none⟩) := hd 6 _ _ rfl rfl rfl
      obtain ⟨_, _, hU⟩ := hJ
      exact ⟨_, x_load 3 (.tmp 14) rfl d6 (run_load1 agg3 (cell_up hc1 hU)), rfl⟩
    · refine opS_same rfl rfl fun L ac w1 hJ hl hc ho hd => ?_
      have s1 : ac.eval (.tmp 1) = .int .i64 (n : Int) := ho 1 rfl
      exact ⟨_, x_move (.tmp 1) rfl s1, rfl⟩
    · refine opS_callUp rfl rfl (fun k wa wb h hu => Up.trans h hu) (facts_keep HK) fun L ac w1 hJ hl hc ho hd => ?_
      have d3 : ac.eval (.tmp 11) = .slice A m c := hd 3 _ _ rfl rfl rfl
      have d7 : ac.eval (.tmp 15) = .int .i64 (r.at_ : Int) := hd 7 _ _ rfl rfl rfl
      have d8 : ac.eval (.tmp 16) = .int .i64 (n : Int) := hd 8 _ _ rfl rfl rfl
      obtain ⟨_, _, hU⟩ := hJ
      refine ⟨63, _, x_fcall 63 [.tmp 11, .tmp 15, .tmp 16] _ rfl (by kernel_rfl), ?_⟩
      simp only [List.map_cons, List.map_nil, d3, d7, d8]
      refine (part_short A m c r.at_ n w1 (by omega) (by have := HN.out; have := HM.out; omega) (by have := HA.out; have := HM.out; omega)).mono fun e w2 ⟨he, hw⟩ => ⟨_, he, by rw [hw]; exact Up.refl _, rfl⟩
    · refine opS_same rfl rfl fun L ac w1 hJ hl hc ho hd => ?_
      have d9 : ac.eval (.tmp 17) = .tuple #[.slice none 0 0, .int .i64 3] := hd 9 _ _ rfl rfl rfl
      exact ⟨_, x_move (.tmp 17) rfl d9, rfl⟩
    · refine opS_same rfl rfl fun L ac w1 hJ hl hc ho hd => ?_
      have d10 : ac.eval (.tmp 7) = .tuple #[.slice none 0 0, .int .i64 3] := hd 10 _ _ rfl rfl rfl
      exact ⟨_, x_extract (.tmp 7) 0 rfl d10 rfl, rfl⟩
    · refine opS_same rfl rfl fun L ac w1 hJ hl hc ho hd => ?_
      have d10 : ac.eval (.tmp 7) = .tuple #[.slice none 0 0, .int .i64 3] := hd 10 _ _ rfl rfl rfl
      exact ⟨_, x_extract (.tmp 7) 1 rfl d10 rfl, rfl⟩
    · refine opS_same rfl rfl fun L ac w1 hJ hl hc ho hd => ?_
      have d11 : ac.eval (.tmp 18) = .slice none 0 0 := hd 11 _ _ rfl rfl rfl
      exact ⟨_, x_assign (.tmp 18) rfl d11, rfl⟩
    · refine opS_same rfl rfl fun L ac w1 hJ hl hc ho hd => ?_
      have d12 : ac.eval (.tmp 19) = .int .i64 3 := hd 12 _ _ rfl rfl rfl
      exact ⟨_, x_assign (.tmp 19) rfl d12, rfl⟩
  · intro L a1 w9 hI hall
    obtain ⟨k, hk, hU⟩ := hI.done hall (by simp)
    have HU := Lib.hid hU
    clear hk hU k HK hc0 hc1
    have l0 : a1.tmps.getD 0 undef = .pointer (some ⟨g, 0, none⟩) := hI.old 0 rfl
    have l1 : a1.tmps.getD 1 undef = .int .i64 (n : Int) := hI.old 1 rfl
    have l6 : a1.tmps.getD 6 undef = .int .i64 3 := hI.get hall (i := 14) rfl rfl
    have l5 : a1.tmps.getD 5 undef = .slice none 0 0 := hI.get hall (i := 13) rfl rfl
    have hde : a1.defers = [] := hI.defers
    have hal := act_lit a1 25 hI.size
    clear hI
    simp only [List.range, List.range.loop, List.map_cons, List.map_nil] at hal
    rw [l0, l1, l6, l5, hde] at hal
    generalize a1.tmps.getD 2 undef = t2 at hal
    generalize a1.tmps.getD 3 undef = t3 at hal
    generalize a1.tmps.getD 4 undef = t4 at hal
    generalize a1.tmps.getD 7 undef = t7 at hal
    generalize a1.tmps.getD 8 undef = t8 at hal
    generalize a1.tmps.getD 9 undef = t9 at hal
    generalize a1.tmps.getD 10 undef = t10 at hal
    generalize a1.tmps.getD 11 undef = t11 at hal
    generalize a1.tmps.getD 12 undef = t12 at hal
    generalize a1.tmps.getD 13 undef = t13 at hal
    generalize a1.tmps.getD 14 undef = t14 at hal
    generalize a1.tmps.getD 15 undef = t15 at hal
    generalize a1.tmps.getD 16 undef = t16 at hal
    generalize a1.tmps.getD 17 undef = t17 at hal
    generalize a1.tmps.getD 18 undef = t18 at hal
    generalize a1.tmps.getD 19 undef = t19 at hal
    generalize a1.tmps.getD 20 undef = t20 at hal
    generalize a1.tmps.getD 21 undef = t21 at hal
    generalize a1.tmps.getD 22 undef = t22 at hal
    generalize a1.tmps.getD 23 undef = t23 at hal
    generalize a1.tmps.getD 24 undef = t24 at hal
    clear l0 l1 l6 l5 hde
    subst hal
    go_wp2_with fail
    refine (rpass_err (n : Int) 3 w9 (H.out.up HU.out) (.inl rfl)).mono ?_
    intro e w2 hp
    have HP := Lib.hid (hp.outr HU.out)
    obtain ⟨rfl, -⟩ := hp
    go_wp2_with fail
    go_ret
    exact ⟨none, 0, 0, rfl, Lib.hid rfl, Lib.hid (ownI_nil _ _ _ _), HP.out.2.1, HP.out.2.2⟩
set_option maxRecDepth 100000 in
set_option maxHeartbeats 2000000 in
theorem rbytes_neg (w : World) (h : IsR w g xs r) (n : Int) (hn : n < 0) : Calls Try.prog 50 #[.pointer (some ⟨g, 0, none⟩), .int .i64 n] w (BytesPost g xs [] (failR 1 r) w) := by
  obtain ⟨A, m, c, k1, k2, k3⟩ := h.ex
  have hc0 := cell_of k1 (j := 0) rfl
  have hc1 := cell_of k1 (j := 1) rfl
  have hm : m ≤ 140737488351232 := by have := h.len; have := k2.len; omega
  have HM := Lib.hid k2.len
  have HA := Lib.hid h.at_
  have H := Lib.hid h
  have HB := Lib.hid k2
  clear h k1 k2 k3
  have HK : ∀ φ ∈ [Is (.pointer (some ⟨g, 0, none⟩)), Is (.pointer (some ⟨g, 0, none⟩)), Is (.pointer (some ⟨g, 0, none⟩)), Is (.slice A m c), Is (.pointer (some ⟨g, 0, none⟩)), Is (.pointer (some ⟨g, 0, none⟩)), Is (.pointer (some ⟨g, 1, none⟩)), Is (.int .i64 (r.at_ : Int)), Is (.int .i64 n), Is (.tuple #[.slice none 0 0, .int .i64 1]), Is (.tuple #[.slice none 0 0, .int .i64 1]), Is (.slice none 0 0), Is (.int .i64 1), Is (.slice none 0 0), Is (.int .i64 1)], Keeps φ := by
    intro φ hφ
    simp only [List.mem_cons, List.mem_nil_iff, or_false] at hφ
    rcases hφ with rfl | rfl | rfl | rfl | rfl | rfl | rfl | rfl | rfl | rfl | rfl | rfl | rfl | rfl | rfl <;> first | exact keeps_is _ | exact keeps_PhT _ _ | exact keeps_PhB _ _
  go_enter Try.func50, Try.ntmps50
  go_upto_region 1 with (fail)
  refine staged_lit (by kernel_rfl) (facts [Is (.pointer (some ⟨g, 0, none⟩)), Is (.pointer (some ⟨g, 0, none⟩)), Is (.pointer (some ⟨g, 0, none⟩)), Is (.slice A m c), Is (.pointer (some ⟨g, 0, none⟩)), Is (.pointer (some ⟨g, 0, none⟩)), Is (.pointer (some ⟨g, 1, none⟩)), Is (.int .i64 (r.at_ : Int)), Is (.int .i64 n), Is (.tuple #[.slice none 0 0, .int .i64 1]), Is (.tuple #[.slice none 0 0, .int .i64 1]), Is (.slice none 0 0), Is (.int .i64 1), Is (.slice none 0 0), Is (.int .i64 1)]) (Stg [] (fun _ wx => Up w wx)) 25 rfl (by decide +kernel) (by decide +kernel) (Stg.start (up_drewN w 1)) ?_ ?_
  · refine ⟨?_, ?_, ?_, ?_, ?_, ?_, ?_, ?_, ?_, ?_, ?_, ?_, ?_, ?_, ?_, trivial⟩
    · refine opS_same rfl rfl fun L ac w1 hJ hl hc ho hd => ?_
      have s0 : ac.eval (.tmp 0) = .pointer (some ⟨g, 0, none⟩) := ho 0 rfl
      exact ⟨_, x_move (.tmp 0) rfl s0, rfl⟩
    · refine opS_same rfl rfl fun L ac w1 hJ hl hc ho hd => ?_
      have d0 : ac.eval (.tmp 8) = .pointer (some ⟨g, 0, none⟩) := hd 0 _ _ rfl rfl rfl
      exact ⟨_, x_nil (.tmp 8) rfl d0, rfl⟩
    · refine opS_same rfl rfl fun L ac w1 hJ hl hc ho hd => ?_
      have d1 : ac.eval (.tmp 9) = .pointer (some ⟨g, 0, none⟩) := hd 1 _ _ rfl rfl rfl
      exact ⟨_, x_field 59 (.tmp 9) 0 rfl d1 (fld770 _ _ _), rfl⟩
    · refine opS_same rfl rfl fun L ac w1 hJ hl hc ho hd => ?_
      have d2 : ac.eval (.tmp 10) = .pointer (some ⟨g, 0, none⟩) := hd 2 _ _ rfl rfl rfl
      obtain ⟨_, _, hU⟩ := hJ
      exact ⟨_, x_load 22 (.tmp 10) rfl d2 (run_load1 agg23 (cell_up hc0 hU)), rfl⟩
    · refine opS_same rfl rfl fun L ac w1 hJ hl hc ho hd => ?_
      have s0 : ac.eval (.tmp 0) = .pointer (some ⟨g, 0, none⟩) := ho 0 rfl
      exact ⟨_, x_move (.tmp 0) rfl s0, rfl⟩
    · refine opS_same rfl rfl fun L ac w1 hJ hl hc ho hd => ?_
      have d4 : ac.eval (.tmp 12) = .pointer (some ⟨g, 0, none⟩) := hd 4 _ _ rfl rfl rfl
      exact ⟨_, x_nil (.tmp 12) rfl d4, rfl⟩
    · refine opS_same rfl rfl fun L ac w1 hJ hl hc ho hd => ?_
      have d5 : ac.eval (.tmp 13) = .pointer (some ⟨g, 0, none⟩) := hd 5 _ _ rfl rfl rfl
      exact ⟨_, x_field 59 (.tmp 13) 1 rfl d5 (fld771 _ _ _), rfl⟩
    · refine opS_same rfl rfl fun L ac w1 hJ hl hc ho hd => ?_
      have d6 : ac.eval (.tmp 14) = .pointer (some ⟨g, 1, none⟩) := hd 6 _ _ rfl rfl rfl
      obtain ⟨_, _, hU⟩ := hJ
      exact ⟨_, x_load 3 (.tmp 14) rfl d6 (run_load1 agg3 (cell_up hc1 hU)), rfl⟩
    · refine opS_same rfl rfl fun L ac w1 hJ hl hc ho hd => ?_
      have s1 : ac.eval (.tmp 1) = .int .i64 n := ho 1 rfl
      exact ⟨_, x_move (.tmp 1) rfl s1, rfl⟩
    · refine opS_callUp rfl rfl (fun k wa wb h hu => Up.trans h hu) (facts_keep HK) fun L ac w1 hJ hl hc ho hd => ?_
      have d3 : ac.eval (.tmp 11) = .slice A m c := hd 3 _ _ rfl rfl rfl
      have d7 : ac.eval (.tmp 15) = .int .i64 (r.at_ : Int) := hd 7 _ _ rfl rfl rfl
      have d8 : ac.eval (.tmp 16) = .int .i64 n := hd 8 _ _ rfl rfl rfl
      obtain ⟨_, _, hU⟩ := hJ
      refine ⟨63, _, x_fcall 63 [.tmp 11, .tmp 15, .tmp 16] _ rfl (by kernel_rfl), ?_⟩
      simp only [List.map_cons, List.map_nil, d3, d7, d8]
      refine (part_neg A m c r.at_ n w1 hn).mono fun e w2 ⟨he, hw⟩ => ⟨_, he, by rw [hw]; exact Up.refl _, rfl⟩
    · refine opS_same rfl rfl fun L ac w1 hJ hl hc ho hd => ?_
      have d9 : ac.eval (.tmp 17) = .tuple #[.slice none 0 0, .int .i64 1] := hd 9 _ _ rfl rfl rfl
      exact ⟨_, x_move (.tmp 17) rfl d9, rfl⟩
    · refine opS_same rfl rfl fun L ac w1 hJ hl hc ho hd => ?_
      have d10 : ac.eval (.tmp 7) = .tuple #[.slice none 0 0, .int .i64 1] := hd 10 _ _ rfl rfl rfl
      exact ⟨_, x_extract (.tmp 7) 0 rfl d10 rfl, rfl⟩
    · refine opS_same rfl rfl fun L ac w1 hJ hl hc ho hd => ?_
      have d10 : ac.eval (.tmp 7) = .tuple #[.slice none 0 0, .int .i64 1] := hd 10 _ _ rfl rfl rfl
      exact ⟨_, x_extract (.tmp 7) 1 rfl d10 rfl, rfl⟩
    · refine opS_same rfl rfl fun L ac w1 hJ hl hc ho hd => ?_
      have d11 : ac.eval (.tmp 18) = .slice none 0 0 := hd 11 _ _ rfl rfl rfl
      exact ⟨_, x_assign (.tmp 18) rfl d11, rfl⟩
    · refine opS_same rfl rfl fun L ac w1 hJ hl hc ho hd => ?_
      have d12 : ac.eval (.tmp 19) = .int .i64 1 := hd 12 _ _ rfl rfl rfl
      exact ⟨_, x_assign (.tmp 19) rfl d12, rfl⟩
  · intro L a1 w9 hI hall
    obtain ⟨k, hk, hU⟩ := hI.done hall (by simp)
    have HU := Lib.hid hU
    clear hk hU k HK hc0 hc1
    have l0 : a1.tmps.getD 0 undef = .pointer (some ⟨g, 0, none⟩) := hI.old 0 rfl
    have l1 : a1.tmps.getD 1 undef = .int .i64 n := hI.old 1 rfl
    have l6 : a1.tmps.getD 6 undef = .int .i64 1 := hI.get hall (i := 14) rfl rfl
    have l5 : a1.tmps.getD 5 undef = .slice none 0 0 := hI.get hall (i := 13) rfl rfl
    have hde : a1.defers = [] := hI.defers
    have hal := act_lit a1 25 hI.size
    clear hI
    simp only [List.range, List.range.loop, List.map_cons, List.map_nil] at hal
    rw [l0, l1, l6, l5, hde] at hal
    generalize a1.tmps.getD 2 undef = t2 at hal
    generalize a1.tmps.getD 3 undef = t3 at hal
    generalize a1.tmps.getD 4 undef = t4 at hal
    generalize a1.tmps.getD 7 undef = t7 at hal
    generalize a1.tmps.getD 8 undef = t8 at hal
    generalize a1.tmps.getD 9 undef = t9 at hal
    generalize a1.tmps.getD 10 undef = t10 at hal
    generalize a1.tmps.getD 11 undef = t11 at hal
    generalize a1.tmps.getD 12 undef = t12 at hal
    generalize a1.tmps.getD 13 undef = t13 at hal
    generalize a1.tmps.getD 14 undef = t14 at hal
    generalize a1.tmps.getD 15 undef = t15 at hal
    generalize a1.tmps.getD 16 undef = t16 at hal
    generalize a1.tmps.getD 17 undef = t17 at hal
    generalize a1.tmps.getD 18 undef = t18 at hal
    generalize a1.tmps.getD 19 undef = t19 at hal
    generalize a1.tmps.getD 20 undef = t20 at hal
    generalize a1.tmps.getD 21 undef = t21 at hal
    generalize a1.tmps.getD 22 undef = t22 at hal
    generalize a1.tmps.getD 23 undef = t23 at hal
    generalize a1.tmps.getD 24 undef = t24 at hal
    clear l0 l1 l6 l5 hde
    subst hal
    go_wp2_with fail
    refine (rpass_err n 1 w9 (H.out.up HU.out) (.inr rfl)).mono ?_
    intro e w2 hp
    have HP := Lib.hid (hp.outr HU.out)
    obtain ⟨rfl, -⟩ := hp
    go_wp2_with fail
    go_ret
    exact ⟨none, 0, 0, rfl, Lib.hid rfl, Lib.hid (ownI_nil _ _ _ _), HP.out.2.1, HP.out.2.2⟩
theorem rbytes (n : Nat) (w : World) (h : IsR w g xs r) : Calls Try.prog 50 #[.pointer (some ⟨g, 0, none⟩), .int .i64 (n : Int)] w (BytesPost g xs (rdB xs n r) (rdN xs n r) w) := by
  by_cases hn : r.at_ + n ≤ xs.length
  · rw [rdB, rdN, if_pos hn, if_pos hn]; exact rbytes_ok w h n hn
  · rw [rdB, rdN, if_neg hn, if_neg hn]; exact rbytes_short w h n (by omega)
end
end Go.Proofs.Ytjdcglioppbfhaa
namespace Go.Proofs.Ytjdcglioppbfhaa
open Go Go.RowKit
set_option linter.unusedVariables false
/-! The reader: padded bytes. -/
def rdBI (xs : List Int) (n : Int) (r : R) : List Int := if n < 0 then [] else rdB xs n.toNat r
def rdNI (xs : List Int) (n : Int) (r : R) : R := if n < 0 then failR 1 r else rdN xs n.toNat r
def zerR (zs : List Int) (r : R) : R := zs.foldl (fun r x => reqR (x == 0) r) r
theorem zerR_snoc (zs : List Int) (x : Int) (r : R) : zerR (zs ++ [x]) r = reqR (x == 0) (zerR zs r) := by simp [zerR]
/-- A padded text is read. -/
structure PdStep (xs bs : List Int) (r r' : R) : Prop where
  ex : ∃ (n : Nat) (r1 : R), RdStep xs 2 (n : Int) r r1 ∧ bs = rdBI xs ((n : Int) - 4) (reqR (decide (4 ≤ (n : Int))) r1) ∧
    r' = zerR (rdB xs (padN n) (rdNI xs ((n : Int) - 4) (reqR (decide (4 ≤ (n : Int))) r1))) (rdN xs (padN n) (rdNI xs ((n : Int) - 4) (reqR (decide (4 ≤ (n : Int))) r1)))
/-- Behind it. -/
def PadPost (g : Nat) (xs : List Int) (r : R) (w : World) (e : Ending) (w' : World) : Prop := ∃ A N c bs r', e = .returned (.slice A N c) ∧ Hid (PdStep xs bs r r') ∧ Hid (N = bs.length) ∧ Hid (Byt bs) ∧ Hid (OwnI .u8 5 w.heap.size w' A N c bs) ∧ Hid (IsR w' g xs r') ∧ Hid (Out (One g) w w')
section
variable {g : Nat} {xs : List Int} {r : R}
theorem rbytesI (n : Int) (w : World) (h : IsR w g xs r) : Calls Try.prog 50 #[.pointer (some ⟨g, 0, none⟩), .int .i64 n] w (BytesPost g xs (rdBI xs n r) (rdNI xs n r) w) := by
  by_cases hn : n < 0
  · rw [rdBI, rdNI, if_pos hn, if_pos hn]; exact rbytes_neg w h n hn
  · rw [rdBI, rdNI, if_neg hn, if_neg hn]
    have := rbytes n.toNat w h
    rwa [Int.toNat_of_nonneg (by omega)] at this
theorem own_one {w w' : World} {B : Nat} {A : Option Addr} {N c : Nat} {ys : List Int} (h : OwnI .u8 5 B w A N c ys) (ho : Out (One g) w w') (hg : g < B) : OwnI .u8 5 B w' A N c ys :=
  ho.own h (fun q hq e => by
    have h1 : q = g := e
    have := (row_lt h (by rwa [ownBlock_slice] at hq)).1
    omega)
theorem IsR.byt {w : World} (h : IsR w g xs r) : Byt xs := by
  obtain ⟨A, m, c, h1, h2, h3⟩ := h.ex
  exact h2.byt
theorem byt_rdBI {n : Int} {r : R} (h : Byt xs) : Byt (rdBI xs n r) := by
  unfold rdBI rdB
  split
  · exact byt_nil
  · split
    · exact (h.drop _).take _
    · exact byt_nil
set_option maxRecDepth 100000 in
set_option maxHeartbeats 1000000 in
theorem rpadded (w : World) (h : IsR w g xs r) : Calls Try.prog 31 #[.pointer (some ⟨g, 0, none⟩)] w (PadPost g xs r w) := by
  have H := Lib.hid h
  have HG := Lib.hid h.lt
  clear h
  go_enter Try.func31, Try.ntmps31
  go_wp2_with fail
  refine (rtwo w H.out).mono ?_
  rintro e w1 ⟨v, r1, rfl, hs, hb, hi, ho⟩
  obtain ⟨n, rfl⟩ : ∃ n : Nat, v = n := ⟨v.toNat, by have := hb.out.1; omega⟩
  have hn : (n : Int) < 65536 := by have := hb.out.2; simpa using this
  go_wp2_with fail
  refine (rrequire (decide (4 ≤ (n : Int))) w1 hi.out).mono ?_
  rintro e w2 ⟨rfl, hi2, ho2⟩
  go_wp2_with fail
  refine (rbytesI ((n : Int) - 4) w2 hi2.out).mono ?_
  rintro e w3 ⟨A3, N3, c3, rfl, hN3, hO3, hi3, ho3⟩
  go_wp2_with (first
    | (go_at_call 40; refine (pad_any n _ (by omega)).mono ?_; rintro e w' ⟨rfl, rfl⟩)
    | fail)
  refine (rbytes (padN n) w3 hi3.out).mono ?_
  rintro e w4 ⟨A4, N4, c4, rfl, hN4, hO4, hi4, ho4⟩
  obtain ⟨r4, hr4⟩ : ∃ r4, r4 = rdN xs (padN n) (rdNI xs ((n : Int) - 4) (reqR (decide (4 ≤ (n : Int))) r1)) := ⟨_, rfl⟩
  obtain ⟨zs, hzs⟩ : ∃ zs, zs = rdB xs (padN n) (rdNI xs ((n : Int) - 4) (reqR (decide (4 ≤ (n : Int))) r1)) := ⟨_, rfl⟩
  have HO4 := Lib.hid (show Out (One g) w w4 from ((ho.out.trans ho2.out (Sub.refl _ _)).trans ho3.out (Sub.refl _ _)).trans ho4.out (Sub.refl _ _))
  have hz2 : w.heap.size ≤ w2.heap.size := by have := ho.out.size; have := ho2.out.size; omega
  have hz3 : w.heap.size ≤ w3.heap.size := by have := ho3.out.size; omega
  have HZ := Lib.hid (show OwnI .u8 5 w.heap.size w4 A4 N4 c4 zs by rw [hzs]; exact hO4.out.base hz3)
  have HB3 := Lib.hid (own_one (hO3.out.base hz2) ho4.out HG.out)
  have HI4 := Lib.hid (show IsR w4 g xs r4 by rw [hr4]; exact hi4.out)
  have HNZ := Lib.hid (show N4 = zs.length by rw [hzs]; exact hN4.out)
  have HS := hs
  have HR4 := Lib.hid hr4
  have HZS := Lib.hid hzs
  have hnz : N4 ≤ 4 := by
    rw [HNZ.out, hzs]; unfold rdB; split
    · simp; have := padN_lt n; omega
    · simp
  clear hr4 hzs hz2 hz3 ho4 hi4 hO4 hN4 ho3 hO3 hi3 ho2 hi2 hs hb hi ho hn
  go_wp2_with fail
  go_loopw [23] (fun i wr => ∃ k : Nat, k ≤ N4 ∧ i = .int .i64 (k : Int) ∧ Hid (IsR wr g xs (zerR (zs.take k) r4)) ∧ Hid (Out (One g) w4 wr)) (fun i _ => N4 - (intOf i).toNat)
  case atStart => exact ⟨0, Nat.zero_le _, rfl, HI4, Lib.hid (Out.refl _ _)⟩
  case round =>
    obtain ⟨k, hk, rfl, hi, ho⟩ := hrel
    have HW := Lib.hid (own_one HZ.out ho.out HG.out)
    by_cases hlt : k < N4
    · obtain ⟨x, hx⟩ : ∃ x, zs[k]? = some x := ⟨_, List.getElem?_eq_getElem (by rw [← HNZ.out]; exact hlt)⟩
      obtain ⟨ga, rfl, ga1, ga2⟩ := HW.out.at_ (by omega)
      have hcell := HW.out.cellAt hx
      have HX := Lib.hid (show zs.take (k + 1) = zs.take k ++ [x] by
        obtain ⟨hl, he⟩ := List.getElem?_eq_some_iff.1 hx
        rw [List.take_succ_eq_append_getElem hl, he])
      clear hx
      go_wp2_with fail
      refine (rrequire (x == 0) wr hi.out).mono ?_
      rintro e w5 ⟨rfl, hi5, ho5⟩
      go_wp2_with fail
      go_roundw
      case rel => exact ⟨k + 1, by omega, by go_num, Lib.hid (by rw [HX.out, zerR_snoc]; exact hi5.out), Lib.hid (ho.out.trans ho5.out (Sub.refl _ _))⟩
      case measure => simp [intOf]; omega
    · obtain rfl : k = N4 := by omega
      go_wp2_with fail
      go_ret
      have e1 : zs.take k = zs := List.take_of_length_le (by rw [HNZ.out]; exact Nat.le_refl _)
      have h5 := hi.out
      rw [e1] at h5
      exact ⟨A3, N3, c3, _, _, rfl, Lib.hid ⟨n, r1, HS.out, rfl, rfl⟩, hN3, Lib.hid (byt_rdBI H.out.byt), Lib.hid (own_one HB3.out ho.out HG.out), Lib.hid (by rw [← HR4.out, ← HZS.out]; exact h5), Lib.hid (HO4.out.trans ho.out (Sub.refl _ _))⟩
end
end Go.Proofs.Ytjdcglioppbfhaa
namespace Go.Proofs.Ytjdcglioppbfhaa
open Go Go.RowKit
set_option linter.unusedVariables false
set_option linter.unusedSimpArgs false
/-! Mathematics of reading what was written. -/
section
variable {xs l : List Int} {r r' : R} {v : Int} {s : Nat}
theorem failR_ne {k : Int} (hk : k ≠ 0) (r : R) : (failR k r).e ≠ 0 := by
  unfold failR
  simp only
  split
  · exact hk
  · assumption
/-- Read well: what was there was the number and the rest. -/
theorem rd_fwd (h : RdStep xs s v r r') (hb : Byt xs) (he : r'.e = 0) : r.e = 0 ∧ xs.drop r.at_ = be v s ++ xs.drop r'.at_ ∧ r'.at_ = r.at_ + s ∧ r.at_ + s ≤ xs.length := by
  have h1 := h.st
  have h2 := h.val
  unfold rdN at h1
  unfold rdV at h2
  by_cases hf : r.at_ + s ≤ xs.length
  · rw [if_pos hf] at h1 h2
    subst h1
    refine ⟨he, ?_, rfl, hf⟩
    have hl : ((xs.drop r.at_).take s).length = s := by simp; omega
    have := be_num ((xs.drop r.at_).take s) ((hb.drop _).take _)
    rw [hl] at this
    rw [h2, this, ← List.drop_drop, List.take_append_drop]
  · rw [if_neg hf] at h1
    subst h1
    exact absurd he (failR_ne (by decide) r)
theorem req_fwd {b : Bool} (he : (reqR b r).e = 0) : b = true ∧ r.e = 0 ∧ reqR b r = r := by
  cases b
  · exact absurd he (failR_ne (by decide) r)
  · exact ⟨rfl, he, rfl⟩
theorem zer_fwd {zs : List Int} (hz : (zerR zs r).e = 0) : zs = List.replicate zs.length 0 ∧ r.e = 0 ∧ zerR zs r = r := by
  induction zs generalizing r with
  | nil => exact ⟨rfl, hz, rfl⟩
  | cons x zs ih =>
    have h1 : zerR (x :: zs) r = zerR zs (reqR (x == 0) r) := rfl
    rw [h1] at hz ⊢
    obtain ⟨h2, h3, h4⟩ := ih hz
    obtain ⟨k1, k2, k3⟩ := req_fwd h3
    rw [k3] at h4
    have hx : x = 0 := by simpa using k1
    subst hx
    refine ⟨?_, k2, by rw [k3]; exact h4⟩
    rw [List.length_cons, List.replicate_succ, ← h2]
theorem zer_bwd (n : Nat) (r : R) : zerR (List.replicate n 0) r = r := by
  induction n with
  | zero => rfl
  | succ n ih => rw [List.replicate_succ]; exact ih
theorem padN_add4 (n : Nat) : padN (n + 4) = padN n := by unfold padN; omega
/-- Padded bytes, read well. -/
theorem pd_fwd {bs : List Int} (h : PdStep xs bs r r') (hb : Byt xs) (he : r'.e = 0) : r.e = 0 ∧ xs.drop r.at_ = be (4 + (bs.length : Int)) 2 ++ padL bs ++ xs.drop r'.at_ ∧ bs.length + 4 < 65536 ∧ r'.at_ ≤ xs.length ∧ r'.at_ = r.at_ + 2 + bs.length + padN bs.length := by
  obtain ⟨n, r1, h1, h2, h3⟩ := h.ex
  subst h3
  obtain ⟨z1, z2, z3⟩ := zer_fwd he
  rw [z3] at he ⊢
  generalize hr2 : reqR (decide (4 ≤ (n : Int))) r1 = r2 at *
  generalize hr3 : rdNI xs ((n : Int) - 4) r2 = r3 at *
  have p1 : r3.e = 0 ∧ r3.at_ + padN n ≤ xs.length ∧ rdN xs (padN n) r3 = ⟨r3.at_ + padN n, r3.e⟩ := by
    by_cases hf : r3.at_ + padN n ≤ xs.length
    · unfold rdN at z2 ⊢; rw [if_pos hf] at z2 ⊢; exact ⟨z2, hf, rfl⟩
    · unfold rdN at z2; rw [if_neg hf] at z2; exact absurd z2 (failR_ne (by decide) r3)
  have p2 : ¬ ((n : Int) - 4 < 0) ∧ r2.e = 0 ∧ r2.at_ + (n - 4) ≤ xs.length ∧ r3 = ⟨r2.at_ + (n - 4), r2.e⟩ ∧ bs = (xs.drop r2.at_).take (n - 4) := by
    have e3 := p1.1
    rw [← hr3] at e3
    unfold rdNI at e3 hr3
    unfold rdBI at h2
    by_cases hneg : (n : Int) - 4 < 0
    · rw [if_pos hneg] at e3; exact absurd e3 (failR_ne (by decide) r2)
    · rw [if_neg hneg] at e3 hr3 h2
      have hn : ((n : Int) - 4).toNat = n - 4 := by omega
      rw [hn] at e3 hr3 h2
      by_cases hf : r2.at_ + (n - 4) ≤ xs.length
      · unfold rdN at e3 hr3; unfold rdB at h2; rw [if_pos hf] at e3 hr3 h2
        exact ⟨hneg, e3, hf, hr3.symm, h2⟩
      · unfold rdN at e3; rw [if_neg hf] at e3; exact absurd e3 (failR_ne (by decide) r2)
  obtain ⟨q1, q2, q3, q4, q5⟩ := p2
  have e2 := q2
  rw [← hr2] at e2
  obtain ⟨k1, k2, k3⟩ := req_fwd e2
  rw [k3] at hr2
  subst hr2
  obtain ⟨f1, f2, f3, f4⟩ := rd_fwd h1 hb k2
  have hl : bs.length = n - 4 := by rw [q5]; simp; omega
  have hn4 : ((4 : Int) + (bs.length : Int)) = n := by rw [hl]; omega
  have hz : rdB xs (padN n) r3 = List.replicate (padN bs.length) 0 := by
    have e1 : (rdB xs (padN n) r3).length = padN n := by unfold rdB; rw [if_pos p1.2.1]; simp; omega
    have e2 : padN n = padN bs.length := by rw [hl, ← padN_add4 (n - 4)]; congr 1; omega
    rw [e1, e2] at z1
    rw [e2]; exact z1
  have hr3a : r3.at_ = r1.at_ + (n - 4) := by rw [q4]
  refine ⟨f1, ?_, ?_, ?_, ?_⟩
  · rw [f2, hn4, List.append_assoc]
    congr 1
    unfold padL
    rw [List.append_assoc, p1.2.2]
    show xs.drop r1.at_ = bs ++ (List.replicate (padN bs.length) 0 ++ xs.drop (r3.at_ + padN n))
    rw [← hz]
    unfold rdB
    rw [if_pos p1.2.1, ← List.drop_drop, List.take_append_drop, hr3a, ← List.drop_drop, q5, List.take_append_drop]
  · have := h1.hi
    have e : (256 : Int) ^ 2 = 65536 := by decide
    omega
  · rw [p1.2.2]; exact p1.2.1
  · rw [p1.2.2]
    show r3.at_ + padN n = _
    rw [hr3a, f3]
    have e2 : padN n = padN bs.length := by rw [hl, ← padN_add4 (n - 4)]; congr 1; omega
    rw [e2, hl]
end
end Go.Proofs.Ytjdcglioppbfhaa
namespace Go.Proofs.Ytjdcglioppbfhaa
open Go Go.RowKit
set_option linter.unusedVariables false
set_option linter.unusedSimpArgs false
/-! What a side says of itself, read. -/
namespace Ck
end Ck
section
variable {xs bs : List Int} {t1 t2 t3 t4 t5 t6 : Int} {r1 r2 r3 r4 r5 r6 r7 : R}
end
/-- A reader, next to blocks that stay. -/
structure RH (g : Nat) (L : List (Nat × Obj)) (w0 : World) (xs : List Int) (r : R) (w : World) : Prop where
  isR : IsR w g xs r
  kept : ∀ p ∈ L, w.heap[p.1]? = some p.2 ∧ p.1 ≠ g
  up : Up w0 w
  g0 : w0.heap.size ≤ g
section
variable {g : Nat} {L : List (Nat × Obj)} {w0 w w' : World} {xs : List Int} {r r' : R}
theorem RH.step (h : RH g L w0 xs r w) (hi : Hid (IsR w' g xs r')) (ho : Hid (Out (One g) w w')) : RH g L w0 xs r' w' :=
  ⟨hi.out, fun p hp => ⟨ho.out.blk (h.kept p hp).1 (h.kept p hp).2, (h.kept p hp).2⟩, Below.out h.up ho.out (fun k hk => by rw [show k = g from hk]; exact h.g0) h.up.size, h.g0⟩
theorem RH.next (h : RH g L w0 xs r w) (hu : Up w w') : RH g L w0 xs r w' :=
  ⟨h.isR.up hu, fun p hp => ⟨(hu.block _ (lt_of_blk (h.kept p hp).1)).trans (h.kept p hp).1, (h.kept p hp).2⟩, h.up.trans hu, h.g0⟩
theorem RH.add (h : RH g L w0 xs r w) (o : Obj) : RH g ((w.heap.size, o) :: L) w0 xs r (w.alloc o) := by
  have h1 := h.next (up_alloc w o)
  refine ⟨h1.isR, fun p hp => ?_, h1.up, h1.g0⟩
  rcases List.mem_cons.1 hp with rfl | hp
  · exact ⟨new_at _ _, fun e => by have := h.isR.lt; simp only at e; omega⟩
  · exact h1.kept p hp
theorem RH.start {A : Option Addr} {m c : Nat} (hin : InB w0 A m c xs) (hm : m ≤ 140737488351232) (hu : Up w0 w) (hL : ∀ p ∈ L, w.heap[p.1]? = some p.2) : RH w.heap.size L w0 xs ⟨0, 0⟩ (w.alloc (.cells #[.slice A m c, .int .i64 0, .int .i64 0] 59)) := by
  have u := up_alloc w (.cells #[.slice A m c, .int .i64 0, .int .i64 0] 59)
  exact ⟨⟨⟨A, m, c, new_at _ _, (hin.up hu).up u, fun hne k hk => by have := hin.lt hne hk; have := hu.size; omega⟩, by have := hin.len; omega, Nat.zero_le _⟩, fun p hp => ⟨(u.block _ (lt_of_blk (hL p hp))).trans (hL p hp), fun e => by have := lt_of_blk (hL p hp); omega⟩, hu.trans u, hu.size⟩
end
end Go.Proofs.Ytjdcglioppbfhaa
namespace Go.Proofs.Ytjdcglioppbfhaa
open Go Go.RowKit
set_option linter.unusedVariables false
set_option linter.unusedSimpArgs false
theorem RH.cons {g : Nat} {L : List (Nat × Obj)} {w0 w : World} {xs : List Int} {r : R} {p : Nat × Obj} (H : RH g L w0 xs r w) (hp : w.heap[p.1]? = some p.2) (hne : p.1 ≠ g) : RH g (p :: L) w0 xs r w :=
  ⟨H.isR, fun q hq => (List.mem_cons.1 hq).elim (fun e => by rw [e]; exact ⟨hp, hne⟩) (H.kept q), H.up, H.g0⟩
theorem RH.tail {g : Nat} {L : List (Nat × Obj)} {w0 w : World} {xs : List Int} {r : R} {p : Nat × Obj} (H : RH g (p :: L) w0 xs r w) : RH g L w0 xs r w := ⟨H.isR, fun q hq => H.kept q (List.mem_cons_of_mem _ hq), H.up, H.g0⟩
end Go.Proofs.Ytjdcglioppbfhaa
