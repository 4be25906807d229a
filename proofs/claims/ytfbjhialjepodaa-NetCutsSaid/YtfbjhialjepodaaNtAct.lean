import Derived.Test.YtfbjhialjepodaaNtR
namespace Go.Proofs.Ytfbjhialjepodaa
open Go Go.RowKit
set_option linter.unusedVariables false
theorem agg4 (w : World) : (isAgg 4).run Try.prog w = .ok false w := by kernel_rfl
theorem agg3 (w : World) : (isAgg 3).run Try.prog w = .ok false w := by kernel_rfl
theorem fld401 (b o : Nat) (w : World) : (Instr.fieldAt 40 (.pointer (some ⟨b, o, none⟩)) 1).run Try.prog w = .ok (.pointer (some ⟨b, o + 1, none⟩)) w := by kernel_rfl
theorem fld402 (b o : Nat) (w : World) : (Instr.fieldAt 40 (.pointer (some ⟨b, o, none⟩)) 2).run Try.prog w = .ok (.pointer (some ⟨b, o + 2, none⟩)) w := by kernel_rfl
theorem fld403 (b o : Nat) (w : World) : (Instr.fieldAt 40 (.pointer (some ⟨b, o, none⟩)) 3).run Try.prog w = .ok (.pointer (some ⟨b, o + 3, none⟩)) w := by kernel_rfl
theorem fld404 (b o : Nat) (w : World) : (Instr.fieldAt 40 (.pointer (some ⟨b, o, none⟩)) 4).run Try.prog w = .ok (.pointer (some ⟨b, o + 5, none⟩)) w := by kernel_rfl
theorem fld405 (b o : Nat) (w : World) : (Instr.fieldAt 40 (.pointer (some ⟨b, o, none⟩)) 5).run Try.prog w = .ok (.pointer (some ⟨b, o + 7, none⟩)) w := by kernel_rfl
theorem fld406 (b o : Nat) (w : World) : (Instr.fieldAt 40 (.pointer (some ⟨b, o, none⟩)) 6).run Try.prog w = .ok (.pointer (some ⟨b, o + 8, none⟩)) w := by kernel_rfl
theorem fld407 (b o : Nat) (w : World) : (Instr.fieldAt 40 (.pointer (some ⟨b, o, none⟩)) 7).run Try.prog w = .ok (.pointer (some ⟨b, o + 9, none⟩)) w := by kernel_rfl
theorem fld370 (b o : Nat) (w : World) : (Instr.fieldAt 37 (.pointer (some ⟨b, o, none⟩)) 0).run Try.prog w = .ok (.pointer (some ⟨b, o, none⟩)) w := by kernel_rfl
theorem fld371 (b o : Nat) (w : World) : (Instr.fieldAt 37 (.pointer (some ⟨b, o, none⟩)) 1).run Try.prog w = .ok (.pointer (some ⟨b, o + 1, none⟩)) w := by kernel_rfl
section
variable {IsN IsR : (Nat → Prop) → World → Addr → Nt.St → Prop}
/-- Both nets. -/
def AtD (IsN IsR : (Nat → Prop) → World → Addr → Nt.St → Prop) (w0 : World) (p r : Addr) (st sr : Nt.St) (w : World) : Prop :=
  ∃ S Sr, IsN S w p st ∧ IsR Sr w r sr ∧ (∀ k, S k → ¬ Sr k) ∧ (From w0.heap.size S ∧ From w0.heap.size Sr) ∧ Below w0.heap.size w0 w
theorem atD_of {w0 w : World} {p r : Addr} {ab : Nat} {cs : Array Value} {st sr : Nt.St} (h : AtB IsN IsR w0 p r ab cs st sr w) : AtD IsN IsR w0 p r st sr w := by
  obtain ⟨S, Sr, h1, h2, h3, h4, h5, _⟩ := h
  exact ⟨S, Sr, h1, h2, h3, h4, h5⟩
theorem atB_of (C : NC IsN) (R : RC IsR) {w0 w : World} {p r : Addr} {st sr : Nt.St} (h : AtD IsN IsR w0 p r st sr w) (cs : Array Value) : AtB IsN IsR w0 p r w.heap.size cs st sr (w.alloc (.cells cs 40)) := by
  obtain ⟨S, Sr, h1, h2, h3, h4, h5⟩ := h
  have hu := up_alloc w (.cells cs 40)
  exact ⟨S, Sr, C.up h1 hu, R.keep h2 (fun k hk => hu.block k (R.lt h2 k hk)), h3, h4, h5.trans (hu.mono h5.size), ⟨fun hs => by have := C.lt h1 _ hs; omega, fun hs => by have := R.lt h2 _ hs; omega⟩, new_at _ _⟩
/-- The world while an act is carried out. -/
def ActW (IsN IsR : (Nat → Prop) → World → Addr → Nt.St → Prop) (w0 : World) (p r : Addr) (ab : Nat) (cs : Array Value) (st sr st' sr' : Nt.St) : Nat → World → Prop
  | 0, w => AtB IsN IsR w0 p r ab cs st sr w
  | 1, w => AtB IsN IsR w0 p r ab cs st' sr w
  | _ + 2, w => AtB IsN IsR w0 p r ab cs st' sr' w
theorem actW_cell {w0 w : World} {p r : Addr} {ab : Nat} {cs : Array Value} {st sr st' sr' : Nt.St} {j : Nat} {v : Value} : ∀ {k : Nat}, ActW IsN IsR w0 p r ab cs st sr st' sr' k w → cs[j]? = some v → w.cell? ⟨ab, j, none⟩ = some v
  | 0, h, hv => atB_cell (show AtB IsN IsR w0 p r ab cs st sr w from h) hv
  | 1, h, hv => atB_cell (show AtB IsN IsR w0 p r ab cs st' sr w from h) hv
  | _ + 2, h, hv => atB_cell (show AtB IsN IsR w0 p r ab cs st' sr' w from h) hv
set_option maxRecDepth 100000 in
set_option maxHeartbeats 2000000 in
theorem act_twin (C : NC IsN) (R : RC IsR) (w0 : World) (p r : Addr) (st sr : Nt.St) (x : ActD) (Ai : Option Addr) (ci : Nat) (w : World) (h : AtD IsN IsR w0 p r st sr w) (hx : ActOk w0 x Ai ci) :
    Calls Try.prog 10 #[.pointer (some p), .pointer (some r), .agg #[.int .i64 3, .int .i64 x.k, .int .i64 x.at_, .int .i64 x.fh, .int .i64 x.fp, .int .i64 x.th, .int .i64 x.tp, .slice Ai x.bytes.length ci, .int .u8 x.bits, .bool x.down]] w fun e w' => e = .returned (.bool (Nt.twinE st x.k == Nt.twinE sr x.k)) ∧ AtD IsN IsR w0 p r (Nt.twinS st x.k) (Nt.twinS sr x.k) w' := by
  have HC := Lib.hid C
  have HR := Lib.hid R
  have HX := Lib.hid hx
  have HAB := Lib.hid (atB_of C R h #[.int .i64 3, .int .i64 x.k, .int .i64 x.at_, .int .i64 x.fh, .int .i64 x.fp, .int .i64 x.th, .int .i64 x.tp, .slice Ai x.bytes.length ci, .int .u8 x.bits, .bool x.down])
  clear C R h hx
  go_enter Try.func10, Try.ntmps10
  go_upto_region 9 with (fail)
  generalize (w.alloc (.cells #[.int .i64 3, .int .i64 x.k, .int .i64 x.at_, .int .i64 x.fh, .int .i64 x.fp, .int .i64 x.th, .int .i64 x.tp, .slice Ai x.bytes.length ci, .int .u8 x.bits, .bool x.down] 40)) = W at HAB ⊢
  generalize w.heap.size = ab at HAB ⊢
  refine staged_lit (by kernel_rfl) (facts [Is (.pointer (some p)), Is (.pointer (some ⟨ab, 1, none⟩)), Is (.int .i64 x.k), Is (.int .i64 (Nt.twinE st x.k)), Is (.pointer (some r)), Is (.pointer (some ⟨ab, 1, none⟩)), Is (.int .i64 x.k), Is (.int .i64 (Nt.twinE sr x.k)), Is (.bool (Nt.twinE st x.k == Nt.twinE sr x.k)), Is (.bool (Nt.twinE st x.k == Nt.twinE sr x.k))]) (Stg [3, 7] (ActW IsN IsR w0 p r ab #[.int .i64 3, .int .i64 x.k, .int .i64 x.at_, .int .i64 x.fh, .int .i64 x.fp, .int .i64 x.th, .int .i64 x.tp, .slice Ai x.bytes.length ci, .int .u8 x.bits, .bool x.down] st sr (Nt.twinS st x.k) (Nt.twinS sr x.k))) 128 rfl (by decide +kernel) (by decide +kernel) (Stg.start (atB_up HC.out HR.out HAB.out (Up.drew W))) ?_ ?_
  · refine ⟨?_, ?_, ?_, ?_, ?_, ?_, ?_, ?_, ?_, ?_, trivial⟩
    · refine opS_same rfl rfl fun L ac w1 hJ hl hc ho hd => ?_
      have s0 : ac.eval (.tmp 0) = .pointer (some p) := ho 0 rfl
      exact ⟨_, x_move (.tmp 0) rfl s0, rfl⟩
    · refine opS_same rfl rfl fun L ac w1 hJ hl hc ho hd => ?_
      have s5 : ac.eval (.tmp 5) = .pointer (some ⟨ab, 0, none⟩) := ho 5 rfl
      exact ⟨_, x_field 40 (.tmp 5) 1 rfl s5 (fld401 _ _ _), rfl⟩
    · refine opS_same rfl rfl fun L ac w1 hJ hl hc ho hd => ?_
      have d1 : ac.eval (.tmp 61) = .pointer (some ⟨ab, 1, none⟩) := hd 1 _ _ rfl rfl rfl
      obtain ⟨_, _, hW⟩ := hJ
      exact ⟨_, x_load 3 (.tmp 61) rfl d1 (run_load1 agg3 (actW_cell hW (j := 1) rfl)), rfl⟩
    · refine opS_writeCall (j := 0) rfl (by decide) rfl (fun _ _ h => absurd h (by omega)) fun ac w1 hW ho hd => ?_
      have d0 : ac.eval (.tmp 60) = .pointer (some p) := hd 0 _ _ rfl rfl rfl
      have d2 : ac.eval (.tmp 62) = .int .i64 x.k := hd 2 _ _ rfl rfl rfl
      refine ⟨15, _, x_fcall 15 [.tmp 60, .tmp 62] _ rfl (by kernel_rfl), ?_⟩
      simp only [List.map_cons, List.map_nil, d0, d2]
      exact (atB_net HC.out HR.out (show AtB IsN IsR w0 p r ab _ st sr w1 from hW) (fun S hS => HC.out.twin S p st x.k w1 hS HX.out.i64.2.1)).mono fun e w2 ⟨he, hA⟩ => ⟨_, he, hA, rfl, fun q v _ => facts_free (by simp [free_is]) q v⟩
    · refine opS_same rfl rfl fun L ac w1 hJ hl hc ho hd => ?_
      have s1 : ac.eval (.tmp 1) = .pointer (some r) := ho 1 rfl
      exact ⟨_, x_move (.tmp 1) rfl s1, rfl⟩
    · refine opS_same rfl rfl fun L ac w1 hJ hl hc ho hd => ?_
      have s5 : ac.eval (.tmp 5) = .pointer (some ⟨ab, 0, none⟩) := ho 5 rfl
      exact ⟨_, x_field 40 (.tmp 5) 1 rfl s5 (fld401 _ _ _), rfl⟩
    · refine opS_same rfl rfl fun L ac w1 hJ hl hc ho hd => ?_
      have d5 : ac.eval (.tmp 65) = .pointer (some ⟨ab, 1, none⟩) := hd 5 _ _ rfl rfl rfl
      obtain ⟨_, _, hW⟩ := hJ
      exact ⟨_, x_load 3 (.tmp 65) rfl d5 (run_load1 agg3 (actW_cell hW (j := 1) rfl)), rfl⟩
    · refine opS_writeCall (j := 1) rfl (by decide) rfl (fun y hy _ => by cases hy; rfl) fun ac w1 hW ho hd => ?_
      have d4 : ac.eval (.tmp 64) = .pointer (some r) := hd 4 _ _ rfl rfl rfl
      have d6 : ac.eval (.tmp 66) = .int .i64 x.k := hd 6 _ _ rfl rfl rfl
      refine ⟨24, _, x_fcall 24 [.tmp 64, .tmp 66] _ rfl (by kernel_rfl), ?_⟩
      simp only [List.map_cons, List.map_nil, d4, d6]
      exact (atB_ref HC.out HR.out (show AtB IsN IsR w0 p r ab _ (Nt.twinS st x.k) sr w1 from hW) (fun S hS => HR.out.twin S r sr x.k w1 hS HX.out.i64.2.1)).mono fun e w2 ⟨he, hA⟩ => ⟨_, he, hA, rfl, fun q v _ => facts_free (by simp [free_is]) q v⟩
    · refine opS_same rfl rfl fun L ac w1 hJ hl hc ho hd => ?_
      have d3 : ac.eval (.tmp 63) = .int .i64 (Nt.twinE st x.k) := hd 3 _ _ rfl rfl rfl
      have d7 : ac.eval (.tmp 67) = .int .i64 (Nt.twinE sr x.k) := hd 7 _ _ rfl rfl rfl
      exact ⟨_, x_bin .eql 24 24 (.tmp 63) (.tmp 67) rfl d3 d7 rfl (by rw [binOp_eql]; rfl), rfl⟩
    · refine opS_same rfl rfl fun L ac w1 hJ hl hc ho hd => ?_
      have d8 : ac.eval (.tmp 68) = .bool (Nt.twinE st x.k == Nt.twinE sr x.k) := hd 8 _ _ rfl rfl rfl
      exact ⟨_, x_assign (.tmp 68) rfl d8, rfl⟩
  · intro L a1 w9 hI hall
    obtain ⟨k, hk, hW⟩ := hI.done hall (by simp)
    obtain ⟨k, rfl⟩ : ∃ q, k = q + 2 := ⟨k - 2, by simp at hk; omega⟩
    have Z := Lib.hid (show AtB IsN IsR w0 p r ab _ (Nt.twinS st x.k) (Nt.twinS sr x.k) w9 from hW)
    clear hk hW k
    have l0 : a1.tmps.getD 0 undef = .pointer (some p) := hI.old 0 rfl
    have l1 : a1.tmps.getD 1 undef = .pointer (some r) := hI.old 1 rfl
    have l5 : a1.tmps.getD 5 undef = .pointer (some ⟨ab, 0, none⟩) := hI.old 5 rfl
    have l12 : a1.tmps.getD 12 undef = .int .i64 3 := hI.old 12 rfl
    have l6 : a1.tmps.getD 6 undef = .bool (Nt.twinE st x.k == Nt.twinE sr x.k) := hI.get hall (i := 9) rfl rfl
    have hde : a1.defers = [] := hI.defers
    have hal := act_lit a1 128 hI.size
    clear hI
    simp only [List.range, List.range.loop, List.map_cons, List.map_nil] at hal
    rw [l0, l1, l5, l12, l6, hde] at hal
    generalize a1.tmps.getD 2 undef = t2 at hal
    generalize a1.tmps.getD 3 undef = t3 at hal
    generalize a1.tmps.getD 4 undef = t4 at hal
    generalize a1.tmps.getD 7 undef = t7 at hal
    generalize a1.tmps.getD 8 undef = t8 at hal
    generalize a1.tmps.getD 9 undef = t9 at hal
    generalize a1.tmps.getD 10 undef = t10 at hal
    generalize a1.tmps.getD 11 undef = t11 at hal
    generalize a1.tmps.getD 13 undef = t13 at hal
    generalize a1.tmps.getD 14 undef = t14 at hal
    generalize a1.tmps.getD 15 undef = t15 at hal
    generalize a1.tmps.getD 16 undef = t16 at hal
    generalize a1.tmps.getD 17 undef = t17 at hal
    generalize a1.tmps.getD 18 undef = t18 at hal
    generalize a1.tmps.getD 19 undef = t19 at hal
    generalize a1.tmps.getD 20 undef = t20 at hal
    generalize a1.tmps.getD 21 undef = t21 at hal
    generalize a1.tmps.getD 22 undef = t22 at hal
    generalize a1.tmps.getD 23 undef = t23 at hal
    generalize a1.tmps.getD 24 undef = t24 at hal
    generalize a1.tmps.getD 25 undef = t25 at hal
    generalize a1.tmps.getD 26 undef = t26 at hal
    generalize a1.tmps.getD 27 undef = t27 at hal
    generalize a1.tmps.getD 28 undef = t28 at hal
    generalize a1.tmps.getD 29 undef = t29 at hal
    generalize a1.tmps.getD 30 undef = t30 at hal
    generalize a1.tmps.getD 31 undef = t31 at hal
    generalize a1.tmps.getD 32 undef = t32 at hal
    generalize a1.tmps.getD 33 undef = t33 at hal
    generalize a1.tmps.getD 34 undef = t34 at hal
    generalize a1.tmps.getD 35 undef = t35 at hal
    generalize a1.tmps.getD 36 undef = t36 at hal
    generalize a1.tmps.getD 37 undef = t37 at hal
    generalize a1.tmps.getD 38 undef = t38 at hal
    generalize a1.tmps.getD 39 undef = t39 at hal
    generalize a1.tmps.getD 40 undef = t40 at hal
    generalize a1.tmps.getD 41 undef = t41 at hal
    generalize a1.tmps.getD 42 undef = t42 at hal
    generalize a1.tmps.getD 43 undef = t43 at hal
    generalize a1.tmps.getD 44 undef = t44 at hal
    generalize a1.tmps.getD 45 undef = t45 at hal
    generalize a1.tmps.getD 46 undef = t46 at hal
    generalize a1.tmps.getD 47 undef = t47 at hal
    generalize a1.tmps.getD 48 undef = t48 at hal
    generalize a1.tmps.getD 49 undef = t49 at hal
    generalize a1.tmps.getD 50 undef = t50 at hal
    generalize a1.tmps.getD 51 undef = t51 at hal
    generalize a1.tmps.getD 52 undef = t52 at hal
    generalize a1.tmps.getD 53 undef = t53 at hal
    generalize a1.tmps.getD 54 undef = t54 at hal
    generalize a1.tmps.getD 55 undef = t55 at hal
    generalize a1.tmps.getD 56 undef = t56 at hal
    generalize a1.tmps.getD 57 undef = t57 at hal
    generalize a1.tmps.getD 58 undef = t58 at hal
    generalize a1.tmps.getD 59 undef = t59 at hal
    generalize a1.tmps.getD 60 undef = t60 at hal
    generalize a1.tmps.getD 61 undef = t61 at hal
    generalize a1.tmps.getD 62 undef = t62 at hal
    generalize a1.tmps.getD 63 undef = t63 at hal
    generalize a1.tmps.getD 64 undef = t64 at hal
    generalize a1.tmps.getD 65 undef = t65 at hal
    generalize a1.tmps.getD 66 undef = t66 at hal
    generalize a1.tmps.getD 67 undef = t67 at hal
    generalize a1.tmps.getD 68 undef = t68 at hal
    generalize a1.tmps.getD 69 undef = t69 at hal
    generalize a1.tmps.getD 70 undef = t70 at hal
    generalize a1.tmps.getD 71 undef = t71 at hal
    generalize a1.tmps.getD 72 undef = t72 at hal
    generalize a1.tmps.getD 73 undef = t73 at hal
    generalize a1.tmps.getD 74 undef = t74 at hal
    generalize a1.tmps.getD 75 undef = t75 at hal
    generalize a1.tmps.getD 76 undef = t76 at hal
    generalize a1.tmps.getD 77 undef = t77 at hal
    generalize a1.tmps.getD 78 undef = t78 at hal
    generalize a1.tmps.getD 79 undef = t79 at hal
    generalize a1.tmps.getD 80 undef = t80 at hal
    generalize a1.tmps.getD 81 undef = t81 at hal
    generalize a1.tmps.getD 82 undef = t82 at hal
    generalize a1.tmps.getD 83 undef = t83 at hal
    generalize a1.tmps.getD 84 undef = t84 at hal
    generalize a1.tmps.getD 85 undef = t85 at hal
    generalize a1.tmps.getD 86 undef = t86 at hal
    generalize a1.tmps.getD 87 undef = t87 at hal
    generalize a1.tmps.getD 88 undef = t88 at hal
    generalize a1.tmps.getD 89 undef = t89 at hal
    generalize a1.tmps.getD 90 undef = t90 at hal
    generalize a1.tmps.getD 91 undef = t91 at hal
    generalize a1.tmps.getD 92 undef = t92 at hal
    generalize a1.tmps.getD 93 undef = t93 at hal
    generalize a1.tmps.getD 94 undef = t94 at hal
    generalize a1.tmps.getD 95 undef = t95 at hal
    generalize a1.tmps.getD 96 undef = t96 at hal
    generalize a1.tmps.getD 97 undef = t97 at hal
    generalize a1.tmps.getD 98 undef = t98 at hal
    generalize a1.tmps.getD 99 undef = t99 at hal
    generalize a1.tmps.getD 100 undef = t100 at hal
    generalize a1.tmps.getD 101 undef = t101 at hal
    generalize a1.tmps.getD 102 undef = t102 at hal
    generalize a1.tmps.getD 103 undef = t103 at hal
    generalize a1.tmps.getD 104 undef = t104 at hal
    generalize a1.tmps.getD 105 undef = t105 at hal
    generalize a1.tmps.getD 106 undef = t106 at hal
    generalize a1.tmps.getD 107 undef = t107 at hal
    generalize a1.tmps.getD 108 undef = t108 at hal
    generalize a1.tmps.getD 109 undef = t109 at hal
    generalize a1.tmps.getD 110 undef = t110 at hal
    generalize a1.tmps.getD 111 undef = t111 at hal
    generalize a1.tmps.getD 112 undef = t112 at hal
    generalize a1.tmps.getD 113 undef = t113 at hal
    generalize a1.tmps.getD 114 undef = t114 at hal
    generalize a1.tmps.getD 115 undef = t115 at hal
    generalize a1.tmps.getD 116 undef = t116 at hal
    generalize a1.tmps.getD 117 undef = t117 at hal
    generalize a1.tmps.getD 118 undef = t118 at hal
    generalize a1.tmps.getD 119 undef = t119 at hal
    generalize a1.tmps.getD 120 undef = t120 at hal
    generalize a1.tmps.getD 121 undef = t121 at hal
    generalize a1.tmps.getD 122 undef = t122 at hal
    generalize a1.tmps.getD 123 undef = t123 at hal
    generalize a1.tmps.getD 124 undef = t124 at hal
    generalize a1.tmps.getD 125 undef = t125 at hal
    generalize a1.tmps.getD 126 undef = t126 at hal
    generalize a1.tmps.getD 127 undef = t127 at hal
    clear l0 l1 l5 l12 l6 hde
    subst hal
    go_wp2_with fail
    go_ret
    exact ⟨rfl, atD_of Z.out⟩
set_option maxRecDepth 100000 in
set_option maxHeartbeats 2000000 in
theorem act_last (C : NC IsN) (R : RC IsR) (w0 : World) (p r : Addr) (st sr : Nt.St) (x : ActD) (Ai : Option Addr) (ci : Nat) (w : World) (h : AtD IsN IsR w0 p r st sr w) (hx : ActOk w0 x Ai ci) :
    Calls Try.prog 10 #[.pointer (some p), .pointer (some r), .agg #[.int .i64 4, .int .i64 x.k, .int .i64 x.at_, .int .i64 x.fh, .int .i64 x.fp, .int .i64 x.th, .int .i64 x.tp, .slice Ai x.bytes.length ci, .int .u8 x.bits, .bool x.down]] w fun e w' => e = .returned (.bool (Nt.lastE st x.k == Nt.lastE sr x.k)) ∧ AtD IsN IsR w0 p r (Nt.lastS st x.k) (Nt.lastS sr x.k) w' := by
  have HC := Lib.hid C
  have HR := Lib.hid R
  have HX := Lib.hid hx
  have HAB := Lib.hid (atB_of C R h #[.int .i64 4, .int .i64 x.k, .int .i64 x.at_, .int .i64 x.fh, .int .i64 x.fp, .int .i64 x.th, .int .i64 x.tp, .slice Ai x.bytes.length ci, .int .u8 x.bits, .bool x.down])
  clear C R h hx
  go_enter Try.func10, Try.ntmps10
  go_upto_region 11 with (fail)
  generalize (w.alloc (.cells #[.int .i64 4, .int .i64 x.k, .int .i64 x.at_, .int .i64 x.fh, .int .i64 x.fp, .int .i64 x.th, .int .i64 x.tp, .slice Ai x.bytes.length ci, .int .u8 x.bits, .bool x.down] 40)) = W at HAB ⊢
  generalize w.heap.size = ab at HAB ⊢
  refine staged_lit (by kernel_rfl) (facts [Is (.pointer (some p)), Is (.pointer (some ⟨ab, 1, none⟩)), Is (.int .i64 x.k), Is (.int .i64 (Nt.lastE st x.k)), Is (.pointer (some r)), Is (.pointer (some ⟨ab, 1, none⟩)), Is (.int .i64 x.k), Is (.int .i64 (Nt.lastE sr x.k)), Is (.bool (Nt.lastE st x.k == Nt.lastE sr x.k)), Is (.bool (Nt.lastE st x.k == Nt.lastE sr x.k))]) (Stg [3, 7] (ActW IsN IsR w0 p r ab #[.int .i64 4, .int .i64 x.k, .int .i64 x.at_, .int .i64 x.fh, .int .i64 x.fp, .int .i64 x.th, .int .i64 x.tp, .slice Ai x.bytes.length ci, .int .u8 x.bits, .bool x.down] st sr (Nt.lastS st x.k) (Nt.lastS sr x.k))) 128 rfl (by decide +kernel) (by decide +kernel) (Stg.start (atB_up HC.out HR.out HAB.out (Up.drew W))) ?_ ?_
  · refine ⟨?_, ?_, ?_, ?_, ?_, ?_, ?_, ?_, ?_, ?_, trivial⟩
    · refine opS_same rfl rfl fun L ac w1 hJ hl hc ho hd => ?_
      have s0 : ac.eval (.tmp 0) = .pointer (some p) := ho 0 rfl
      exact ⟨_, x_move (.tmp 0) rfl s0, rfl⟩
    · refine opS_same rfl rfl fun L ac w1 hJ hl hc ho hd => ?_
      have s5 : ac.eval (.tmp 5) = .pointer (some ⟨ab, 0, none⟩) := ho 5 rfl
      exact ⟨_, x_field 40 (.tmp 5) 1 rfl s5 (fld401 _ _ _), rfl⟩
    · refine opS_same rfl rfl fun L ac w1 hJ hl hc ho hd => ?_
      have d1 : ac.eval (.tmp 72) = .pointer (some ⟨ab, 1, none⟩) := hd 1 _ _ rfl rfl rfl
      obtain ⟨_, _, hW⟩ := hJ
      exact ⟨_, x_load 3 (.tmp 72) rfl d1 (run_load1 agg3 (actW_cell hW (j := 1) rfl)), rfl⟩
    · refine opS_writeCall (j := 0) rfl (by decide) rfl (fun _ _ h => absurd h (by omega)) fun ac w1 hW ho hd => ?_
      have d0 : ac.eval (.tmp 71) = .pointer (some p) := hd 0 _ _ rfl rfl rfl
      have d2 : ac.eval (.tmp 73) = .int .i64 x.k := hd 2 _ _ rfl rfl rfl
      refine ⟨20, _, x_fcall 20 [.tmp 71, .tmp 73] _ rfl (by kernel_rfl), ?_⟩
      simp only [List.map_cons, List.map_nil, d0, d2]
      exact (atB_net HC.out HR.out (show AtB IsN IsR w0 p r ab _ st sr w1 from hW) (fun S hS => HC.out.last S p st x.k w1 hS HX.out.i64.2.1)).mono fun e w2 ⟨he, hA⟩ => ⟨_, he, hA, rfl, fun q v _ => facts_free (by simp [free_is]) q v⟩
    · refine opS_same rfl rfl fun L ac w1 hJ hl hc ho hd => ?_
      have s1 : ac.eval (.tmp 1) = .pointer (some r) := ho 1 rfl
      exact ⟨_, x_move (.tmp 1) rfl s1, rfl⟩
    · refine opS_same rfl rfl fun L ac w1 hJ hl hc ho hd => ?_
      have s5 : ac.eval (.tmp 5) = .pointer (some ⟨ab, 0, none⟩) := ho 5 rfl
      exact ⟨_, x_field 40 (.tmp 5) 1 rfl s5 (fld401 _ _ _), rfl⟩
    · refine opS_same rfl rfl fun L ac w1 hJ hl hc ho hd => ?_
      have d5 : ac.eval (.tmp 76) = .pointer (some ⟨ab, 1, none⟩) := hd 5 _ _ rfl rfl rfl
      obtain ⟨_, _, hW⟩ := hJ
      exact ⟨_, x_load 3 (.tmp 76) rfl d5 (run_load1 agg3 (actW_cell hW (j := 1) rfl)), rfl⟩
    · refine opS_writeCall (j := 1) rfl (by decide) rfl (fun y hy _ => by cases hy; rfl) fun ac w1 hW ho hd => ?_
      have d4 : ac.eval (.tmp 75) = .pointer (some r) := hd 4 _ _ rfl rfl rfl
      have d6 : ac.eval (.tmp 77) = .int .i64 x.k := hd 6 _ _ rfl rfl rfl
      refine ⟨25, _, x_fcall 25 [.tmp 75, .tmp 77] _ rfl (by kernel_rfl), ?_⟩
      simp only [List.map_cons, List.map_nil, d4, d6]
      exact (atB_ref HC.out HR.out (show AtB IsN IsR w0 p r ab _ (Nt.lastS st x.k) sr w1 from hW) (fun S hS => HR.out.last S r sr x.k w1 hS HX.out.i64.2.1)).mono fun e w2 ⟨he, hA⟩ => ⟨_, he, hA, rfl, fun q v _ => facts_free (by simp [free_is]) q v⟩
    · refine opS_same rfl rfl fun L ac w1 hJ hl hc ho hd => ?_
      have d3 : ac.eval (.tmp 74) = .int .i64 (Nt.lastE st x.k) := hd 3 _ _ rfl rfl rfl
      have d7 : ac.eval (.tmp 78) = .int .i64 (Nt.lastE sr x.k) := hd 7 _ _ rfl rfl rfl
      exact ⟨_, x_bin .eql 24 24 (.tmp 74) (.tmp 78) rfl d3 d7 rfl (by rw [binOp_eql]; rfl), rfl⟩
    · refine opS_same rfl rfl fun L ac w1 hJ hl hc ho hd => ?_
      have d8 : ac.eval (.tmp 79) = .bool (Nt.lastE st x.k == Nt.lastE sr x.k) := hd 8 _ _ rfl rfl rfl
      exact ⟨_, x_assign (.tmp 79) rfl d8, rfl⟩
  · intro L a1 w9 hI hall
    obtain ⟨k, hk, hW⟩ := hI.done hall (by simp)
    obtain ⟨k, rfl⟩ : ∃ q, k = q + 2 := ⟨k - 2, by simp at hk; omega⟩
    have Z := Lib.hid (show AtB IsN IsR w0 p r ab _ (Nt.lastS st x.k) (Nt.lastS sr x.k) w9 from hW)
    clear hk hW k
    have l0 : a1.tmps.getD 0 undef = .pointer (some p) := hI.old 0 rfl
    have l1 : a1.tmps.getD 1 undef = .pointer (some r) := hI.old 1 rfl
    have l5 : a1.tmps.getD 5 undef = .pointer (some ⟨ab, 0, none⟩) := hI.old 5 rfl
    have l12 : a1.tmps.getD 12 undef = .int .i64 4 := hI.old 12 rfl
    have l6 : a1.tmps.getD 6 undef = .bool (Nt.lastE st x.k == Nt.lastE sr x.k) := hI.get hall (i := 9) rfl rfl
    have hde : a1.defers = [] := hI.defers
    have hal := act_lit a1 128 hI.size
    clear hI
    simp only [List.range, List.range.loop, List.map_cons, List.map_nil] at hal
    rw [l0, l1, l5, l12, l6, hde] at hal
    generalize a1.tmps.getD 2 undef = t2 at hal
    generalize a1.tmps.getD 3 undef = t3 at hal
    generalize a1.tmps.getD 4 undef = t4 at hal
    generalize a1.tmps.getD 7 undef = t7 at hal
    generalize a1.tmps.getD 8 undef = t8 at hal
    generalize a1.tmps.getD 9 undef = t9 at hal
    generalize a1.tmps.getD 10 undef = t10 at hal
    generalize a1.tmps.getD 11 undef = t11 at hal
    generalize a1.tmps.getD 13 undef = t13 at hal
    generalize a1.tmps.getD 14 undef = t14 at hal
    generalize a1.tmps.getD 15 undef = t15 at hal
    generalize a1.tmps.getD 16 undef = t16 at hal
    generalize a1.tmps.getD 17 undef = t17 at hal
    generalize a1.tmps.getD 18 undef = t18 at hal
    generalize a1.tmps.getD 19 undef = t19 at hal
    generalize a1.tmps.getD 20 undef = t20 at hal
    generalize a1.tmps.getD 21 undef = t21 at hal
    generalize a1.tmps.getD 22 undef = t22 at hal
    generalize a1.tmps.getD 23 undef = t23 at hal
    generalize a1.tmps.getD 24 undef = t24 at hal
    generalize a1.tmps.getD 25 undef = t25 at hal
    generalize a1.tmps.getD 26 undef = t26 at hal
    generalize a1.tmps.getD 27 undef = t27 at hal
    generalize a1.tmps.getD 28 undef = t28 at hal
    generalize a1.tmps.getD 29 undef = t29 at hal
    generalize a1.tmps.getD 30 undef = t30 at hal
    generalize a1.tmps.getD 31 undef = t31 at hal
    generalize a1.tmps.getD 32 undef = t32 at hal
    generalize a1.tmps.getD 33 undef = t33 at hal
    generalize a1.tmps.getD 34 undef = t34 at hal
    generalize a1.tmps.getD 35 undef = t35 at hal
    generalize a1.tmps.getD 36 undef = t36 at hal
    generalize a1.tmps.getD 37 undef = t37 at hal
    generalize a1.tmps.getD 38 undef = t38 at hal
    generalize a1.tmps.getD 39 undef = t39 at hal
    generalize a1.tmps.getD 40 undef = t40 at hal
    generalize a1.tmps.getD 41 undef = t41 at hal
    generalize a1.tmps.getD 42 undef = t42 at hal
    generalize a1.tmps.getD 43 undef = t43 at hal
    generalize a1.tmps.getD 44 undef = t44 at hal
    generalize a1.tmps.getD 45 undef = t45 at hal
    generalize a1.tmps.getD 46 undef = t46 at hal
    generalize a1.tmps.getD 47 undef = t47 at hal
    generalize a1.tmps.getD 48 undef = t48 at hal
    generalize a1.tmps.getD 49 undef = t49 at hal
    generalize a1.tmps.getD 50 undef = t50 at hal
    generalize a1.tmps.getD 51 undef = t51 at hal
    generalize a1.tmps.getD 52 undef = t52 at hal
    generalize a1.tmps.getD 53 undef = t53 at hal
    generalize a1.tmps.getD 54 undef = t54 at hal
    generalize a1.tmps.getD 55 undef = t55 at hal
    generalize a1.tmps.getD 56 undef = t56 at hal
    generalize a1.tmps.getD 57 undef = t57 at hal
    generalize a1.tmps.getD 58 undef = t58 at hal
    generalize a1.tmps.getD 59 undef = t59 at hal
    generalize a1.tmps.getD 60 undef = t60 at hal
    generalize a1.tmps.getD 61 undef = t61 at hal
    generalize a1.tmps.getD 62 undef = t62 at hal
    generalize a1.tmps.getD 63 undef = t63 at hal
    generalize a1.tmps.getD 64 undef = t64 at hal
    generalize a1.tmps.getD 65 undef = t65 at hal
    generalize a1.tmps.getD 66 undef = t66 at hal
    generalize a1.tmps.getD 67 undef = t67 at hal
    generalize a1.tmps.getD 68 undef = t68 at hal
    generalize a1.tmps.getD 69 undef = t69 at hal
    generalize a1.tmps.getD 70 undef = t70 at hal
    generalize a1.tmps.getD 71 undef = t71 at hal
    generalize a1.tmps.getD 72 undef = t72 at hal
    generalize a1.tmps.getD 73 undef = t73 at hal
    generalize a1.tmps.getD 74 undef = t74 at hal
    generalize a1.tmps.getD 75 undef = t75 at hal
    generalize a1.tmps.getD 76 undef = t76 at hal
    generalize a1.tmps.getD 77 undef = t77 at hal
    generalize a1.tmps.getD 78 undef = t78 at hal
    generalize a1.tmps.getD 79 undef = t79 at hal
    generalize a1.tmps.getD 80 undef = t80 at hal
    generalize a1.tmps.getD 81 undef = t81 at hal
    generalize a1.tmps.getD 82 undef = t82 at hal
    generalize a1.tmps.getD 83 undef = t83 at hal
    generalize a1.tmps.getD 84 undef = t84 at hal
    generalize a1.tmps.getD 85 undef = t85 at hal
    generalize a1.tmps.getD 86 undef = t86 at hal
    generalize a1.tmps.getD 87 undef = t87 at hal
    generalize a1.tmps.getD 88 undef = t88 at hal
    generalize a1.tmps.getD 89 undef = t89 at hal
    generalize a1.tmps.getD 90 undef = t90 at hal
    generalize a1.tmps.getD 91 undef = t91 at hal
    generalize a1.tmps.getD 92 undef = t92 at hal
    generalize a1.tmps.getD 93 undef = t93 at hal
    generalize a1.tmps.getD 94 undef = t94 at hal
    generalize a1.tmps.getD 95 undef = t95 at hal
    generalize a1.tmps.getD 96 undef = t96 at hal
    generalize a1.tmps.getD 97 undef = t97 at hal
    generalize a1.tmps.getD 98 undef = t98 at hal
    generalize a1.tmps.getD 99 undef = t99 at hal
    generalize a1.tmps.getD 100 undef = t100 at hal
    generalize a1.tmps.getD 101 undef = t101 at hal
    generalize a1.tmps.getD 102 undef = t102 at hal
    generalize a1.tmps.getD 103 undef = t103 at hal
    generalize a1.tmps.getD 104 undef = t104 at hal
    generalize a1.tmps.getD 105 undef = t105 at hal
    generalize a1.tmps.getD 106 undef = t106 at hal
    generalize a1.tmps.getD 107 undef = t107 at hal
    generalize a1.tmps.getD 108 undef = t108 at hal
    generalize a1.tmps.getD 109 undef = t109 at hal
    generalize a1.tmps.getD 110 undef = t110 at hal
    generalize a1.tmps.getD 111 undef = t111 at hal
    generalize a1.tmps.getD 112 undef = t112 at hal
    generalize a1.tmps.getD 113 undef = t113 at hal
    generalize a1.tmps.getD 114 undef = t114 at hal
    generalize a1.tmps.getD 115 undef = t115 at hal
    generalize a1.tmps.getD 116 undef = t116 at hal
    generalize a1.tmps.getD 117 undef = t117 at hal
    generalize a1.tmps.getD 118 undef = t118 at hal
    generalize a1.tmps.getD 119 undef = t119 at hal
    generalize a1.tmps.getD 120 undef = t120 at hal
    generalize a1.tmps.getD 121 undef = t121 at hal
    generalize a1.tmps.getD 122 undef = t122 at hal
    generalize a1.tmps.getD 123 undef = t123 at hal
    generalize a1.tmps.getD 124 undef = t124 at hal
    generalize a1.tmps.getD 125 undef = t125 at hal
    generalize a1.tmps.getD 126 undef = t126 at hal
    generalize a1.tmps.getD 127 undef = t127 at hal
    clear l0 l1 l5 l12 l6 hde
    subst hal
    go_wp2_with fail
    go_ret
    exact ⟨rfl, atD_of Z.out⟩
set_option maxRecDepth 100000 in
set_option maxHeartbeats 2000000 in
theorem act_turn (C : NC IsN) (R : RC IsR) (w0 : World) (p r : Addr) (st sr : Nt.St) (x : ActD) (Ai : Option Addr) (ci : Nat) (w : World) (h : AtD IsN IsR w0 p r st sr w) (hx : ActOk w0 x Ai ci) :
    Calls Try.prog 10 #[.pointer (some p), .pointer (some r), .agg #[.int .i64 5, .int .i64 x.k, .int .i64 x.at_, .int .i64 x.fh, .int .i64 x.fp, .int .i64 x.th, .int .i64 x.tp, .slice Ai x.bytes.length ci, .int .u8 x.bits, .bool x.down]] w fun e w' => e = .returned (.bool (Nt.turnE st x.k x.at_ x.bits == Nt.turnE sr x.k x.at_ x.bits)) ∧ AtD IsN IsR w0 p r (Nt.turnS st x.k x.at_ x.bits) (Nt.turnS sr x.k x.at_ x.bits) w' := by
  have HC := Lib.hid C
  have HR := Lib.hid R
  have HX := Lib.hid hx
  have HAB := Lib.hid (atB_of C R h #[.int .i64 5, .int .i64 x.k, .int .i64 x.at_, .int .i64 x.fh, .int .i64 x.fp, .int .i64 x.th, .int .i64 x.tp, .slice Ai x.bytes.length ci, .int .u8 x.bits, .bool x.down])
  clear C R h hx
  go_enter Try.func10, Try.ntmps10
  go_upto_region 13 with (fail)
  generalize (w.alloc (.cells #[.int .i64 5, .int .i64 x.k, .int .i64 x.at_, .int .i64 x.fh, .int .i64 x.fp, .int .i64 x.th, .int .i64 x.tp, .slice Ai x.bytes.length ci, .int .u8 x.bits, .bool x.down] 40)) = W at HAB ⊢
  generalize w.heap.size = ab at HAB ⊢
  refine staged_lit (by kernel_rfl) (facts [Is (.pointer (some p)), Is (.pointer (some ⟨ab, 1, none⟩)), Is (.int .i64 x.k), Is (.pointer (some ⟨ab, 2, none⟩)), Is (.int .i64 x.at_), Is (.pointer (some ⟨ab, 8, none⟩)), Is (.int .u8 x.bits), Is (.int .i64 (Nt.turnE st x.k x.at_ x.bits)), Is (.pointer (some r)), Is (.pointer (some ⟨ab, 1, none⟩)), Is (.int .i64 x.k), Is (.pointer (some ⟨ab, 2, none⟩)), Is (.int .i64 x.at_), Is (.pointer (some ⟨ab, 8, none⟩)), Is (.int .u8 x.bits), Is (.int .i64 (Nt.turnE sr x.k x.at_ x.bits)), Is (.bool (Nt.turnE st x.k x.at_ x.bits == Nt.turnE sr x.k x.at_ x.bits)), Is (.bool (Nt.turnE st x.k x.at_ x.bits == Nt.turnE sr x.k x.at_ x.bits))]) (Stg [7, 15] (ActW IsN IsR w0 p r ab #[.int .i64 5, .int .i64 x.k, .int .i64 x.at_, .int .i64 x.fh, .int .i64 x.fp, .int .i64 x.th, .int .i64 x.tp, .slice Ai x.bytes.length ci, .int .u8 x.bits, .bool x.down] st sr (Nt.turnS st x.k x.at_ x.bits) (Nt.turnS sr x.k x.at_ x.bits))) 128 rfl (by decide +kernel) (by decide +kernel) (Stg.start (atB_up HC.out HR.out HAB.out (Up.drew W))) ?_ ?_
  · refine ⟨?_, ?_, ?_, ?_, ?_, ?_, ?_, ?_, ?_, ?_, ?_, ?_, ?_, ?_, ?_, ?_, ?_, ?_, trivial⟩
    · refine opS_same rfl rfl fun L ac w1 hJ hl hc ho hd => ?_
      have s0 : ac.eval (.tmp 0) = .pointer (some p) := ho 0 rfl
      exact ⟨_, x_move (.tmp 0) rfl s0, rfl⟩
    · refine opS_same rfl rfl fun L ac w1 hJ hl hc ho hd => ?_
      have s5 : ac.eval (.tmp 5) = .pointer (some ⟨ab, 0, none⟩) := ho 5 rfl
      exact ⟨_, x_field 40 (.tmp 5) 1 rfl s5 (fld401 _ _ _), rfl⟩
    · refine opS_same rfl rfl fun L ac w1 hJ hl hc ho hd => ?_
      have d1 : ac.eval (.tmp 83) = .pointer (some ⟨ab, 1, none⟩) := hd 1 _ _ rfl rfl rfl
      obtain ⟨_, _, hW⟩ := hJ
      exact ⟨_, x_load 3 (.tmp 83) rfl d1 (run_load1 agg3 (actW_cell hW (j := 1) rfl)), rfl⟩
    · refine opS_same rfl rfl fun L ac w1 hJ hl hc ho hd => ?_
      have s5 : ac.eval (.tmp 5) = .pointer (some ⟨ab, 0, none⟩) := ho 5 rfl
      exact ⟨_, x_field 40 (.tmp 5) 2 rfl s5 (fld402 _ _ _), rfl⟩
    · refine opS_same rfl rfl fun L ac w1 hJ hl hc ho hd => ?_
      have d3 : ac.eval (.tmp 85) = .pointer (some ⟨ab, 2, none⟩) := hd 3 _ _ rfl rfl rfl
      obtain ⟨_, _, hW⟩ := hJ
      exact ⟨_, x_load 3 (.tmp 85) rfl d3 (run_load1 agg3 (actW_cell hW (j := 2) rfl)), rfl⟩
    · refine opS_same rfl rfl fun L ac w1 hJ hl hc ho hd => ?_
      have s5 : ac.eval (.tmp 5) = .pointer (some ⟨ab, 0, none⟩) := ho 5 rfl
      exact ⟨_, x_field 40 (.tmp 5) 6 rfl s5 (fld406 _ _ _), rfl⟩
    · refine opS_same rfl rfl fun L ac w1 hJ hl hc ho hd => ?_
      have d5 : ac.eval (.tmp 87) = .pointer (some ⟨ab, 8, none⟩) := hd 5 _ _ rfl rfl rfl
      obtain ⟨_, _, hW⟩ := hJ
      exact ⟨_, x_load 5 (.tmp 87) rfl d5 (run_load1 agg5 (actW_cell hW (j := 8) rfl)), rfl⟩
    · refine opS_writeCall (j := 0) rfl (by decide) rfl (fun _ _ h => absurd h (by omega)) fun ac w1 hW ho hd => ?_
      have d0 : ac.eval (.tmp 82) = .pointer (some p) := hd 0 _ _ rfl rfl rfl
      have d2 : ac.eval (.tmp 84) = .int .i64 x.k := hd 2 _ _ rfl rfl rfl
      have d4 : ac.eval (.tmp 86) = .int .i64 x.at_ := hd 4 _ _ rfl rfl rfl
      have d6 : ac.eval (.tmp 88) = .int .u8 x.bits := hd 6 _ _ rfl rfl rfl
      refine ⟨19, _, x_fcall 19 [.tmp 82, .tmp 84, .tmp 86, .tmp 88] _ rfl (by kernel_rfl), ?_⟩
      simp only [List.map_cons, List.map_nil, d0, d2, d4, d6]
      exact (atB_net HC.out HR.out (show AtB IsN IsR w0 p r ab _ st sr w1 from hW) (fun S hS => HC.out.turn S p st x.k x.at_ x.bits w1 hS HX.out.i64.2.1 HX.out.i64.2.2.1 HX.out.bits.1 HX.out.bits.2)).mono fun e w2 ⟨he, hA⟩ => ⟨_, he, hA, rfl, fun q v _ => facts_free (by simp [free_is]) q v⟩
    · refine opS_same rfl rfl fun L ac w1 hJ hl hc ho hd => ?_
      have s1 : ac.eval (.tmp 1) = .pointer (some r) := ho 1 rfl
      exact ⟨_, x_move (.tmp 1) rfl s1, rfl⟩
    · refine opS_same rfl rfl fun L ac w1 hJ hl hc ho hd => ?_
      have s5 : ac.eval (.tmp 5) = .pointer (some ⟨ab, 0, none⟩) := ho 5 rfl
      exact ⟨_, x_field 40 (.tmp 5) 1 rfl s5 (fld401 _ _ _), rfl⟩
    · refine opS_same rfl rfl fun L ac w1 hJ hl hc ho hd => ?_
      have d9 : ac.eval (.tmp 91) = .pointer (some ⟨ab, 1, none⟩) := hd 9 _ _ rfl rfl rfl
      obtain ⟨_, _, hW⟩ := hJ
      exact ⟨_, x_load 3 (.tmp 91) rfl d9 (run_load1 agg3 (actW_cell hW (j := 1) rfl)), rfl⟩
    · refine opS_same rfl rfl fun L ac w1 hJ hl hc ho hd => ?_
      have s5 : ac.eval (.tmp 5) = .pointer (some ⟨ab, 0, none⟩) := ho 5 rfl
      exact ⟨_, x_field 40 (.tmp 5) 2 rfl s5 (fld402 _ _ _), rfl⟩
    · refine opS_same rfl rfl fun L ac w1 hJ hl hc ho hd => ?_
      have d11 : ac.eval (.tmp 93) = .pointer (some ⟨ab, 2, none⟩) := hd 11 _ _ rfl rfl rfl
      obtain ⟨_, _, hW⟩ := hJ
      exact ⟨_, x_load 3 (.tmp 93) rfl d11 (run_load1 agg3 (actW_cell hW (j := 2) rfl)), rfl⟩
    · refine opS_same rfl rfl fun L ac w1 hJ hl hc ho hd => ?_
      have s5 : ac.eval (.tmp 5) = .pointer (some ⟨ab, 0, none⟩) := ho 5 rfl
      exact ⟨_, x_field 40 (.tmp 5) 6 rfl s5 (fld406 _ _ _), rfl⟩
    · refine opS_same rfl rfl fun L ac w1 hJ hl hc ho hd => ?_
      have d13 : ac.eval (.tmp 95) = .pointer (some ⟨ab, 8, none⟩) := hd 13 _ _ rfl rfl rfl
      obtain ⟨_, _, hW⟩ := hJ
      exact ⟨_, x_load 5 (.tmp 95) rfl d13 (run_load1 agg5 (actW_cell hW (j := 8) rfl)), rfl⟩
    · refine opS_writeCall (j := 1) rfl (by decide) rfl (fun y hy _ => by cases hy; rfl) fun ac w1 hW ho hd => ?_
      have d8 : ac.eval (.tmp 90) = .pointer (some r) := hd 8 _ _ rfl rfl rfl
      have d10 : ac.eval (.tmp 92) = .int .i64 x.k := hd 10 _ _ rfl rfl rfl
      have d12 : ac.eval (.tmp 94) = .int .i64 x.at_ := hd 12 _ _ rfl rfl rfl
      have d14 : ac.eval (.tmp 96) = .int .u8 x.bits := hd 14 _ _ rfl rfl rfl
      refine ⟨26, _, x_fcall 26 [.tmp 90, .tmp 92, .tmp 94, .tmp 96] _ rfl (by kernel_rfl), ?_⟩
      simp only [List.map_cons, List.map_nil, d8, d10, d12, d14]
      exact (atB_ref HC.out HR.out (show AtB IsN IsR w0 p r ab _ (Nt.turnS st x.k x.at_ x.bits) sr w1 from hW) (fun S hS => HR.out.turn S r sr x.k x.at_ x.bits w1 hS HX.out.i64.2.1 HX.out.i64.2.2.1 HX.out.bits.1 HX.out.bits.2)).mono fun e w2 ⟨he, hA⟩ => ⟨_, he, hA, rfl, fun q v _ => facts_free (by simp [free_is]) q v⟩
    · refine opS_same rfl rfl fun L ac w1 hJ hl hc ho hd => ?_
      have d7 : ac.eval (.tmp 89) = .int .i64 (Nt.turnE st x.k x.at_ x.bits) := hd 7 _ _ rfl rfl rfl
      have d15 : ac.eval (.tmp 97) = .int .i64 (Nt.turnE sr x.k x.at_ x.bits) := hd 15 _ _ rfl rfl rfl
      exact ⟨_, x_bin .eql 24 24 (.tmp 89) (.tmp 97) rfl d7 d15 rfl (by rw [binOp_eql]; rfl), rfl⟩
    · refine opS_same rfl rfl fun L ac w1 hJ hl hc ho hd => ?_
      have d16 : ac.eval (.tmp 98) = .bool (Nt.turnE st x.k x.at_ x.bits == Nt.turnE sr x.k x.at_ x.bits) := hd 16 _ _ rfl rfl rfl
      exact ⟨_, x_assign (.tmp 98) rfl d16, rfl⟩
  · intro L a1 w9 hI hall
    obtain ⟨k, hk, hW⟩ := hI.done hall (by simp)
    obtain ⟨k, rfl⟩ : ∃ q, k = q + 2 := ⟨k - 2, by simp at hk; omega⟩
    have Z := Lib.hid (show AtB IsN IsR w0 p r ab _ (Nt.turnS st x.k x.at_ x.bits) (Nt.turnS sr x.k x.at_ x.bits) w9 from hW)
    clear hk hW k
    have l0 : a1.tmps.getD 0 undef = .pointer (some p) := hI.old 0 rfl
    have l1 : a1.tmps.getD 1 undef = .pointer (some r) := hI.old 1 rfl
    have l5 : a1.tmps.getD 5 undef = .pointer (some ⟨ab, 0, none⟩) := hI.old 5 rfl
    have l12 : a1.tmps.getD 12 undef = .int .i64 5 := hI.old 12 rfl
    have l6 : a1.tmps.getD 6 undef = .bool (Nt.turnE st x.k x.at_ x.bits == Nt.turnE sr x.k x.at_ x.bits) := hI.get hall (i := 17) rfl rfl
    have hde : a1.defers = [] := hI.defers
    have hal := act_lit a1 128 hI.size
    clear hI
    simp only [List.range, List.range.loop, List.map_cons, List.map_nil] at hal
    rw [l0, l1, l5, l12, l6, hde] at hal
    generalize a1.tmps.getD 2 undef = t2 at hal
    generalize a1.tmps.getD 3 undef = t3 at hal
    generalize a1.tmps.getD 4 undef = t4 at hal
    generalize a1.tmps.getD 7 undef = t7 at hal
    generalize a1.tmps.getD 8 undef = t8 at hal
    generalize a1.tmps.getD 9 undef = t9 at hal
    generalize a1.tmps.getD 10 undef = t10 at hal
    generalize a1.tmps.getD 11 undef = t11 at hal
    generalize a1.tmps.getD 13 undef = t13 at hal
    generalize a1.tmps.getD 14 undef = t14 at hal
    generalize a1.tmps.getD 15 undef = t15 at hal
    generalize a1.tmps.getD 16 undef = t16 at hal
    generalize a1.tmps.getD 17 undef = t17 at hal
    generalize a1.tmps.getD 18 undef = t18 at hal
    generalize a1.tmps.getD 19 undef = t19 at hal
    generalize a1.tmps.getD 20 undef = t20 at hal
    generalize a1.tmps.getD 21 undef = t21 at hal
    generalize a1.tmps.getD 22 undef = t22 at hal
    generalize a1.tmps.getD 23 undef = t23 at hal
    generalize a1.tmps.getD 24 undef = t24 at hal
    generalize a1.tmps.getD 25 undef = t25 at hal
    generalize a1.tmps.getD 26 undef = t26 at hal
    generalize a1.tmps.getD 27 undef = t27 at hal
    generalize a1.tmps.getD 28 undef = t28 at hal
    generalize a1.tmps.getD 29 undef = t29 at hal
    generalize a1.tmps.getD 30 undef = t30 at hal
    generalize a1.tmps.getD 31 undef = t31 at hal
    generalize a1.tmps.getD 32 undef = t32 at hal
    generalize a1.tmps.getD 33 undef = t33 at hal
    generalize a1.tmps.getD 34 undef = t34 at hal
    generalize a1.tmps.getD 35 undef = t35 at hal
    generalize a1.tmps.getD 36 undef = t36 at hal
    generalize a1.tmps.getD 37 undef = t37 at hal
    generalize a1.tmps.getD 38 undef = t38 at hal
    generalize a1.tmps.getD 39 undef = t39 at hal
    generalize a1.tmps.getD 40 undef = t40 at hal
    generalize a1.tmps.getD 41 undef = t41 at hal
    generalize a1.tmps.getD 42 undef = t42 at hal
    generalize a1.tmps.getD 43 undef = t43 at hal
    generalize a1.tmps.getD 44 undef = t44 at hal
    generalize a1.tmps.getD 45 undef = t45 at hal
    generalize a1.tmps.getD 46 undef = t46 at hal
    generalize a1.tmps.getD 47 undef = t47 at hal
    generalize a1.tmps.getD 48 undef = t48 at hal
    generalize a1.tmps.getD 49 undef = t49 at hal
    generalize a1.tmps.getD 50 undef = t50 at hal
    generalize a1.tmps.getD 51 undef = t51 at hal
    generalize a1.tmps.getD 52 undef = t52 at hal
    generalize a1.tmps.getD 53 undef = t53 at hal
    generalize a1.tmps.getD 54 undef = t54 at hal
    generalize a1.tmps.getD 55 undef = t55 at hal
    generalize a1.tmps.getD 56 undef = t56 at hal
    generalize a1.tmps.getD 57 undef = t57 at hal
    generalize a1.tmps.getD 58 undef = t58 at hal
    generalize a1.tmps.getD 59 undef = t59 at hal
    generalize a1.tmps.getD 60 undef = t60 at hal
    generalize a1.tmps.getD 61 undef = t61 at hal
    generalize a1.tmps.getD 62 undef = t62 at hal
    generalize a1.tmps.getD 63 undef = t63 at hal
    generalize a1.tmps.getD 64 undef = t64 at hal
    generalize a1.tmps.getD 65 undef = t65 at hal
    generalize a1.tmps.getD 66 undef = t66 at hal
    generalize a1.tmps.getD 67 undef = t67 at hal
    generalize a1.tmps.getD 68 undef = t68 at hal
    generalize a1.tmps.getD 69 undef = t69 at hal
    generalize a1.tmps.getD 70 undef = t70 at hal
    generalize a1.tmps.getD 71 undef = t71 at hal
    generalize a1.tmps.getD 72 undef = t72 at hal
    generalize a1.tmps.getD 73 undef = t73 at hal
    generalize a1.tmps.getD 74 undef = t74 at hal
    generalize a1.tmps.getD 75 undef = t75 at hal
    generalize a1.tmps.getD 76 undef = t76 at hal
    generalize a1.tmps.getD 77 undef = t77 at hal
    generalize a1.tmps.getD 78 undef = t78 at hal
    generalize a1.tmps.getD 79 undef = t79 at hal
    generalize a1.tmps.getD 80 undef = t80 at hal
    generalize a1.tmps.getD 81 undef = t81 at hal
    generalize a1.tmps.getD 82 undef = t82 at hal
    generalize a1.tmps.getD 83 undef = t83 at hal
    generalize a1.tmps.getD 84 undef = t84 at hal
    generalize a1.tmps.getD 85 undef = t85 at hal
    generalize a1.tmps.getD 86 undef = t86 at hal
    generalize a1.tmps.getD 87 undef = t87 at hal
    generalize a1.tmps.getD 88 undef = t88 at hal
    generalize a1.tmps.getD 89 undef = t89 at hal
    generalize a1.tmps.getD 90 undef = t90 at hal
    generalize a1.tmps.getD 91 undef = t91 at hal
    generalize a1.tmps.getD 92 undef = t92 at hal
    generalize a1.tmps.getD 93 undef = t93 at hal
    generalize a1.tmps.getD 94 undef = t94 at hal
    generalize a1.tmps.getD 95 undef = t95 at hal
    generalize a1.tmps.getD 96 undef = t96 at hal
    generalize a1.tmps.getD 97 undef = t97 at hal
    generalize a1.tmps.getD 98 undef = t98 at hal
    generalize a1.tmps.getD 99 undef = t99 at hal
    generalize a1.tmps.getD 100 undef = t100 at hal
    generalize a1.tmps.getD 101 undef = t101 at hal
    generalize a1.tmps.getD 102 undef = t102 at hal
    generalize a1.tmps.getD 103 undef = t103 at hal
    generalize a1.tmps.getD 104 undef = t104 at hal
    generalize a1.tmps.getD 105 undef = t105 at hal
    generalize a1.tmps.getD 106 undef = t106 at hal
    generalize a1.tmps.getD 107 undef = t107 at hal
    generalize a1.tmps.getD 108 undef = t108 at hal
    generalize a1.tmps.getD 109 undef = t109 at hal
    generalize a1.tmps.getD 110 undef = t110 at hal
    generalize a1.tmps.getD 111 undef = t111 at hal
    generalize a1.tmps.getD 112 undef = t112 at hal
    generalize a1.tmps.getD 113 undef = t113 at hal
    generalize a1.tmps.getD 114 undef = t114 at hal
    generalize a1.tmps.getD 115 undef = t115 at hal
    generalize a1.tmps.getD 116 undef = t116 at hal
    generalize a1.tmps.getD 117 undef = t117 at hal
    generalize a1.tmps.getD 118 undef = t118 at hal
    generalize a1.tmps.getD 119 undef = t119 at hal
    generalize a1.tmps.getD 120 undef = t120 at hal
    generalize a1.tmps.getD 121 undef = t121 at hal
    generalize a1.tmps.getD 122 undef = t122 at hal
    generalize a1.tmps.getD 123 undef = t123 at hal
    generalize a1.tmps.getD 124 undef = t124 at hal
    generalize a1.tmps.getD 125 undef = t125 at hal
    generalize a1.tmps.getD 126 undef = t126 at hal
    generalize a1.tmps.getD 127 undef = t127 at hal
    clear l0 l1 l5 l12 l6 hde
    subst hal
    go_wp2_with fail
    go_ret
    exact ⟨rfl, atD_of Z.out⟩
set_option maxRecDepth 100000 in
set_option maxHeartbeats 2000000 in
theorem act_cut (C : NC IsN) (R : RC IsR) (w0 : World) (p r : Addr) (st sr : Nt.St) (x : ActD) (Ai : Option Addr) (ci : Nat) (w : World) (h : AtD IsN IsR w0 p r st sr w) (hx : ActOk w0 x Ai ci) :
    Calls Try.prog 10 #[.pointer (some p), .pointer (some r), .agg #[.int .i64 6, .int .i64 x.k, .int .i64 x.at_, .int .i64 x.fh, .int .i64 x.fp, .int .i64 x.th, .int .i64 x.tp, .slice Ai x.bytes.length ci, .int .u8 x.bits, .bool x.down]] w fun e w' => e = .returned (.bool (Nt.cutE st x.fh x.th x.fp == Nt.cutE sr x.fh x.th x.fp)) ∧ AtD IsN IsR w0 p r (Nt.cutS st x.fh x.th x.fp x.down) (Nt.cutS sr x.fh x.th x.fp x.down) w' := by
  have HC := Lib.hid C
  have HR := Lib.hid R
  have HX := Lib.hid hx
  have HAB := Lib.hid (atB_of C R h #[.int .i64 6, .int .i64 x.k, .int .i64 x.at_, .int .i64 x.fh, .int .i64 x.fp, .int .i64 x.th, .int .i64 x.tp, .slice Ai x.bytes.length ci, .int .u8 x.bits, .bool x.down])
  clear C R h hx
  go_enter Try.func10, Try.ntmps10
  go_upto_region 15 with (fail)
  generalize (w.alloc (.cells #[.int .i64 6, .int .i64 x.k, .int .i64 x.at_, .int .i64 x.fh, .int .i64 x.fp, .int .i64 x.th, .int .i64 x.tp, .slice Ai x.bytes.length ci, .int .u8 x.bits, .bool x.down] 40)) = W at HAB ⊢
  generalize w.heap.size = ab at HAB ⊢
  refine staged_lit (by kernel_rfl) (facts [Is (.pointer (some p)), Is (.pointer (some ⟨ab, 3, none⟩)), Is (.pointer (some ⟨ab, 3, none⟩)), Is (.int .i64 x.fh), Is (.pointer (some ⟨ab, 5, none⟩)), Is (.pointer (some ⟨ab, 5, none⟩)), Is (.int .i64 x.th), Is (.pointer (some ⟨ab, 3, none⟩)), Is (.pointer (some ⟨ab, 4, none⟩)), Is (.int .i64 x.fp), Is (.pointer (some ⟨ab, 9, none⟩)), Is (.bool x.down), Is (.int .i64 (Nt.cutE st x.fh x.th x.fp)), Is (.pointer (some r)), Is (.pointer (some ⟨ab, 3, none⟩)), Is (.pointer (some ⟨ab, 3, none⟩)), Is (.int .i64 x.fh), Is (.pointer (some ⟨ab, 5, none⟩)), Is (.pointer (some ⟨ab, 5, none⟩)), Is (.int .i64 x.th), Is (.pointer (some ⟨ab, 3, none⟩)), Is (.pointer (some ⟨ab, 4, none⟩)), Is (.int .i64 x.fp), Is (.pointer (some ⟨ab, 9, none⟩)), Is (.bool x.down), Is (.int .i64 (Nt.cutE sr x.fh x.th x.fp)), Is (.bool (Nt.cutE st x.fh x.th x.fp == Nt.cutE sr x.fh x.th x.fp)), Is (.bool (Nt.cutE st x.fh x.th x.fp == Nt.cutE sr x.fh x.th x.fp))]) (Stg [12, 25] (ActW IsN IsR w0 p r ab #[.int .i64 6, .int .i64 x.k, .int .i64 x.at_, .int .i64 x.fh, .int .i64 x.fp, .int .i64 x.th, .int .i64 x.tp, .slice Ai x.bytes.length ci, .int .u8 x.bits, .bool x.down] st sr (Nt.cutS st x.fh x.th x.fp x.down) (Nt.cutS sr x.fh x.th x.fp x.down))) 128 rfl (by decide +kernel) (by decide +kernel) (Stg.start (atB_up HC.out HR.out HAB.out (Up.drew W))) ?_ ?_
  · refine ⟨?_, ?_, ?_, ?_, ?_, ?_, ?_, ?_, ?_, ?_, ?_, ?_, ?_, ?_, ?_, ?_, ?_, ?_, ?_, ?_, ?_, ?_, ?_, ?_, ?_, ?_, ?_, ?_, trivial⟩
    · refine opS_same rfl rfl fun L ac w1 hJ hl hc ho hd => ?_
      have s0 : ac.eval (.tmp 0) = .pointer (some p) := ho 0 rfl
      exact ⟨_, x_move (.tmp 0) rfl s0, rfl⟩
    · refine opS_same rfl rfl fun L ac w1 hJ hl hc ho hd => ?_
      have s5 : ac.eval (.tmp 5) = .pointer (some ⟨ab, 0, none⟩) := ho 5 rfl
      exact ⟨_, x_field 40 (.tmp 5) 3 rfl s5 (fld403 _ _ _), rfl⟩
    · refine opS_same rfl rfl fun L ac w1 hJ hl hc ho hd => ?_
      have d1 : ac.eval (.tmp 102) = .pointer (some ⟨ab, 3, none⟩) := hd 1 _ _ rfl rfl rfl
      exact ⟨_, x_field 37 (.tmp 102) 0 rfl d1 (fld370 _ _ _), rfl⟩
    · refine opS_same rfl rfl fun L ac w1 hJ hl hc ho hd => ?_
      have d2 : ac.eval (.tmp 103) = .pointer (some ⟨ab, 3, none⟩) := hd 2 _ _ rfl rfl rfl
      obtain ⟨_, _, hW⟩ := hJ
      exact ⟨_, x_load 3 (.tmp 103) rfl d2 (run_load1 agg3 (actW_cell hW (j := 3) rfl)), rfl⟩
    · refine opS_same rfl rfl fun L ac w1 hJ hl hc ho hd => ?_
      have s5 : ac.eval (.tmp 5) = .pointer (some ⟨ab, 0, none⟩) := ho 5 rfl
      exact ⟨_, x_field 40 (.tmp 5) 4 rfl s5 (fld404 _ _ _), rfl⟩
    · refine opS_same rfl rfl fun L ac w1 hJ hl hc ho hd => ?_
      have d4 : ac.eval (.tmp 105) = .pointer (some ⟨ab, 5, none⟩) := hd 4 _ _ rfl rfl rfl
      exact ⟨_, x_field 37 (.tmp 105) 0 rfl d4 (fld370 _ _ _), rfl⟩
    · refine opS_same rfl rfl fun L ac w1 hJ hl hc ho hd => ?_
      have d5 : ac.eval (.tmp 106) = .pointer (some ⟨ab, 5, none⟩) := hd 5 _ _ rfl rfl rfl
      obtain ⟨_, _, hW⟩ := hJ
      exact ⟨_, x_load 3 (.tmp 106) rfl d5 (run_load1 agg3 (actW_cell hW (j := 5) rfl)), rfl⟩
    · refine opS_same rfl rfl fun L ac w1 hJ hl hc ho hd => ?_
      have s5 : ac.eval (.tmp 5) = .pointer (some ⟨ab, 0, none⟩) := ho 5 rfl
      exact ⟨_, x_field 40 (.tmp 5) 3 rfl s5 (fld403 _ _ _), rfl⟩
    · refine opS_same rfl rfl fun L ac w1 hJ hl hc ho hd => ?_
      have d7 : ac.eval (.tmp 108) = .pointer (some ⟨ab, 3, none⟩) := hd 7 _ _ rfl rfl rfl
      exact ⟨_, x_field 37 (.tmp 108) 1 rfl d7 (fld371 _ _ _), rfl⟩
    · refine opS_same rfl rfl fun L ac w1 hJ hl hc ho hd => ?_
      have d8 : ac.eval (.tmp 109) = .pointer (some ⟨ab, 4, none⟩) := hd 8 _ _ rfl rfl rfl
      obtain ⟨_, _, hW⟩ := hJ
      exact ⟨_, x_load 3 (.tmp 109) rfl d8 (run_load1 agg3 (actW_cell hW (j := 4) rfl)), rfl⟩
    · refine opS_same rfl rfl fun L ac w1 hJ hl hc ho hd => ?_
      have s5 : ac.eval (.tmp 5) = .pointer (some ⟨ab, 0, none⟩) := ho 5 rfl
      exact ⟨_, x_field 40 (.tmp 5) 7 rfl s5 (fld407 _ _ _), rfl⟩
    · refine opS_same rfl rfl fun L ac w1 hJ hl hc ho hd => ?_
      have d10 : ac.eval (.tmp 111) = .pointer (some ⟨ab, 9, none⟩) := hd 10 _ _ rfl rfl rfl
      obtain ⟨_, _, hW⟩ := hJ
      exact ⟨_, x_load 4 (.tmp 111) rfl d10 (run_load1 agg4 (actW_cell hW (j := 9) rfl)), rfl⟩
    · refine opS_writeCall (j := 0) rfl (by decide) rfl (fun _ _ h => absurd h (by omega)) fun ac w1 hW ho hd => ?_
      have d0 : ac.eval (.tmp 101) = .pointer (some p) := hd 0 _ _ rfl rfl rfl
      have d3 : ac.eval (.tmp 104) = .int .i64 x.fh := hd 3 _ _ rfl rfl rfl
      have d6 : ac.eval (.tmp 107) = .int .i64 x.th := hd 6 _ _ rfl rfl rfl
      have d9 : ac.eval (.tmp 110) = .int .i64 x.fp := hd 9 _ _ rfl rfl rfl
      have d11 : ac.eval (.tmp 112) = .bool x.down := hd 11 _ _ rfl rfl rfl
      refine ⟨18, _, x_fcall 18 [.tmp 101, .tmp 104, .tmp 107, .tmp 110, .tmp 112] _ rfl (by kernel_rfl), ?_⟩
      simp only [List.map_cons, List.map_nil, d0, d3, d6, d9, d11]
      exact (atB_net HC.out HR.out (show AtB IsN IsR w0 p r ab _ st sr w1 from hW) (fun S hS => HC.out.cut S p st x.fh x.th x.fp x.down w1 hS HX.out.i64.2.2.2.1 HX.out.i64.2.2.2.2.2.1 HX.out.i64.2.2.2.2.1)).mono fun e w2 ⟨he, hA⟩ => ⟨_, he, hA, rfl, fun q v _ => facts_free (by simp [free_is]) q v⟩
    · refine opS_same rfl rfl fun L ac w1 hJ hl hc ho hd => ?_
      have s1 : ac.eval (.tmp 1) = .pointer (some r) := ho 1 rfl
      exact ⟨_, x_move (.tmp 1) rfl s1, rfl⟩
    · refine opS_same rfl rfl fun L ac w1 hJ hl hc ho hd => ?_
      have s5 : ac.eval (.tmp 5) = .pointer (some ⟨ab, 0, none⟩) := ho 5 rfl
      exact ⟨_, x_field 40 (.tmp 5) 3 rfl s5 (fld403 _ _ _), rfl⟩
    · refine opS_same rfl rfl fun L ac w1 hJ hl hc ho hd => ?_
      have d14 : ac.eval (.tmp 115) = .pointer (some ⟨ab, 3, none⟩) := hd 14 _ _ rfl rfl rfl
      exact ⟨_, x_field 37 (.tmp 115) 0 rfl d14 (fld370 _ _ _), rfl⟩
    · refine opS_same rfl rfl fun L ac w1 hJ hl hc ho hd => ?_
      have d15 : ac.eval (.tmp 116) = .pointer (some ⟨ab, 3, none⟩) := hd 15 _ _ rfl rfl rfl
      obtain ⟨_, _, hW⟩ := hJ
      exact ⟨_, x_load 3 (.tmp 116) rfl d15 (run_load1 agg3 (actW_cell hW (j := 3) rfl)), rfl⟩
    · refine opS_same rfl rfl fun L ac w1 hJ hl hc ho hd => ?_
      have s5 : ac.eval (.tmp 5) = .pointer (some ⟨ab, 0, none⟩) := ho 5 rfl
      exact ⟨_, x_field 40 (.tmp 5) 4 rfl s5 (fld404 _ _ _), rfl⟩
    · refine opS_same rfl rfl fun L ac w1 hJ hl hc ho hd => ?_
      have d17 : ac.eval (.tmp 118) = .pointer (some ⟨ab, 5, none⟩) := hd 17 _ _ rfl rfl rfl
      exact ⟨_, x_field 37 (.tmp 118) 0 rfl d17 (fld370 _ _ _), rfl⟩
    · refine opS_same rfl rfl fun L ac w1 hJ hl hc ho hd => ?_
      have d18 : ac.eval (.tmp 119) = .pointer (some ⟨ab, 5, none⟩) := hd 18 _ _ rfl rfl rfl
      obtain ⟨_, _, hW⟩ := hJ
      exact ⟨_, x_load 3 (.tmp 119) rfl d18 (run_load1 agg3 (actW_cell hW (j := 5) rfl)), rfl⟩
    · refine opS_same rfl rfl fun L ac w1 hJ hl hc ho hd => ?_
      have s5 : ac.eval (.tmp 5) = .pointer (some ⟨ab, 0, none⟩) := ho 5 rfl
      exact ⟨_, x_field 40 (.tmp 5) 3 rfl s5 (fld403 _ _ _), rfl⟩
    · refine opS_same rfl rfl fun L ac w1 hJ hl hc ho hd => ?_
      have d20 : ac.eval (.tmp 121) = .pointer (some ⟨ab, 3, none⟩) := hd 20 _ _ rfl rfl rfl
      exact ⟨_, x_field 37 (.tmp 121) 1 rfl d20 (fld371 _ _ _), rfl⟩
    · refine opS_same rfl rfl fun L ac w1 hJ hl hc ho hd => ?_
      have d21 : ac.eval (.tmp 122) = .pointer (some ⟨ab, 4, none⟩) := hd 21 _ _ rfl rfl rfl
      obtain ⟨_, _, hW⟩ := hJ
      exact ⟨_, x_load 3 (.tmp 122) rfl d21 (run_load1 agg3 (actW_cell hW (j := 4) rfl)), rfl⟩
    · refine opS_same rfl rfl fun L ac w1 hJ hl hc ho hd => ?_
      have s5 : ac.eval (.tmp 5) = .pointer (some ⟨ab, 0, none⟩) := ho 5 rfl
      exact ⟨_, x_field 40 (.tmp 5) 7 rfl s5 (fld407 _ _ _), rfl⟩
    · refine opS_same rfl rfl fun L ac w1 hJ hl hc ho hd => ?_
      have d23 : ac.eval (.tmp 124) = .pointer (some ⟨ab, 9, none⟩) := hd 23 _ _ rfl rfl rfl
      obtain ⟨_, _, hW⟩ := hJ
      exact ⟨_, x_load 4 (.tmp 124) rfl d23 (run_load1 agg4 (actW_cell hW (j := 9) rfl)), rfl⟩
    · refine opS_writeCall (j := 1) rfl (by decide) rfl (fun y hy _ => by cases hy; rfl) fun ac w1 hW ho hd => ?_
      have d13 : ac.eval (.tmp 114) = .pointer (some r) := hd 13 _ _ rfl rfl rfl
      have d16 : ac.eval (.tmp 117) = .int .i64 x.fh := hd 16 _ _ rfl rfl rfl
      have d19 : ac.eval (.tmp 120) = .int .i64 x.th := hd 19 _ _ rfl rfl rfl
      have d22 : ac.eval (.tmp 123) = .int .i64 x.fp := hd 22 _ _ rfl rfl rfl
      have d24 : ac.eval (.tmp 125) = .bool x.down := hd 24 _ _ rfl rfl rfl
      refine ⟨27, _, x_fcall 27 [.tmp 114, .tmp 117, .tmp 120, .tmp 123, .tmp 125] _ rfl (by kernel_rfl), ?_⟩
      simp only [List.map_cons, List.map_nil, d13, d16, d19, d22, d24]
      exact (atB_ref HC.out HR.out (show AtB IsN IsR w0 p r ab _ (Nt.cutS st x.fh x.th x.fp x.down) sr w1 from hW) (fun S hS => HR.out.cut S r sr x.fh x.th x.fp x.down w1 hS HX.out.i64.2.2.2.1 HX.out.i64.2.2.2.2.2.1 HX.out.i64.2.2.2.2.1)).mono fun e w2 ⟨he, hA⟩ => ⟨_, he, hA, rfl, fun q v _ => facts_free (by simp [free_is]) q v⟩
    · refine opS_same rfl rfl fun L ac w1 hJ hl hc ho hd => ?_
      have d12 : ac.eval (.tmp 113) = .int .i64 (Nt.cutE st x.fh x.th x.fp) := hd 12 _ _ rfl rfl rfl
      have d25 : ac.eval (.tmp 126) = .int .i64 (Nt.cutE sr x.fh x.th x.fp) := hd 25 _ _ rfl rfl rfl
      exact ⟨_, x_bin .eql 24 24 (.tmp 113) (.tmp 126) rfl d12 d25 rfl (by rw [binOp_eql]; rfl), rfl⟩
    · refine opS_same rfl rfl fun L ac w1 hJ hl hc ho hd => ?_
      have d26 : ac.eval (.tmp 127) = .bool (Nt.cutE st x.fh x.th x.fp == Nt.cutE sr x.fh x.th x.fp) := hd 26 _ _ rfl rfl rfl
      exact ⟨_, x_assign (.tmp 127) rfl d26, rfl⟩
  · intro L a1 w9 hI hall
    obtain ⟨k, hk, hW⟩ := hI.done hall (by simp)
    obtain ⟨k, rfl⟩ : ∃ q, k = q + 2 := ⟨k - 2, by simp at hk; omega⟩
    have Z := Lib.hid (show AtB IsN IsR w0 p r ab _ (Nt.cutS st x.fh x.th x.fp x.down) (Nt.cutS sr x.fh x.th x.fp x.down) w9 from hW)
    clear hk hW k
    have l0 : a1.tmps.getD 0 undef = .pointer (some p) := hI.old 0 rfl
    have l1 : a1.tmps.getD 1 undef = .pointer (some r) := hI.old 1 rfl
    have l5 : a1.tmps.getD 5 undef = .pointer (some ⟨ab, 0, none⟩) := hI.old 5 rfl
    have l12 : a1.tmps.getD 12 undef = .int .i64 6 := hI.old 12 rfl
    have l6 : a1.tmps.getD 6 undef = .bool (Nt.cutE st x.fh x.th x.fp == Nt.cutE sr x.fh x.th x.fp) := hI.get hall (i := 27) rfl rfl
    have hde : a1.defers = [] := hI.defers
    have hal := act_lit a1 128 hI.size
    clear hI
    simp only [List.range, List.range.loop, List.map_cons, List.map_nil] at hal
    rw [l0, l1, l5, l12, l6, hde] at hal
    generalize a1.tmps.getD 2 undef = t2 at hal
    generalize a1.tmps.getD 3 undef = t3 at hal
    generalize a1.tmps.getD 4 undef = t4 at hal
    generalize a1.tmps.getD 7 undef = t7 at hal
    generalize a1.tmps.getD 8 undef = t8 at hal
    generalize a1.tmps.getD 9 undef = t9 at hal
    generalize a1.tmps.getD 10 undef = t10 at hal
    generalize a1.tmps.getD 11 undef = t11 at hal
    generalize a1.tmps.getD 13 undef = t13 at hal
    generalize a1.tmps.getD 14 undef = t14 at hal
    generalize a1.tmps.getD 15 undef = t15 at hal
    generalize a1.tmps.getD 16 undef = t16 at hal
    generalize a1.tmps.getD 17 undef = t17 at hal
    generalize a1.tmps.getD 18 undef = t18 at hal
    generalize a1.tmps.getD 19 undef = t19 at hal
    generalize a1.tmps.getD 20 undef = t20 at hal
    generalize a1.tmps.getD 21 undef = t21 at hal
    generalize a1.tmps.getD 22 undef = t22 at hal
    generalize a1.tmps.getD 23 undef = t23 at hal
    generalize a1.tmps.getD 24 undef = t24 at hal
    generalize a1.tmps.getD 25 undef = t25 at hal
    generalize a1.tmps.getD 26 undef = t26 at hal
    generalize a1.tmps.getD 27 undef = t27 at hal
    generalize a1.tmps.getD 28 undef = t28 at hal
    generalize a1.tmps.getD 29 undef = t29 at hal
    generalize a1.tmps.getD 30 undef = t30 at hal
    generalize a1.tmps.getD 31 undef = t31 at hal
    generalize a1.tmps.getD 32 undef = t32 at hal
    generalize a1.tmps.getD 33 undef = t33 at hal
    generalize a1.tmps.getD 34 undef = t34 at hal
    generalize a1.tmps.getD 35 undef = t35 at hal
    generalize a1.tmps.getD 36 undef = t36 at hal
    generalize a1.tmps.getD 37 undef = t37 at hal
    generalize a1.tmps.getD 38 undef = t38 at hal
    generalize a1.tmps.getD 39 undef = t39 at hal
    generalize a1.tmps.getD 40 undef = t40 at hal
    generalize a1.tmps.getD 41 undef = t41 at hal
    generalize a1.tmps.getD 42 undef = t42 at hal
    generalize a1.tmps.getD 43 undef = t43 at hal
    generalize a1.tmps.getD 44 undef = t44 at hal
    generalize a1.tmps.getD 45 undef = t45 at hal
    generalize a1.tmps.getD 46 undef = t46 at hal
    generalize a1.tmps.getD 47 undef = t47 at hal
    generalize a1.tmps.getD 48 undef = t48 at hal
    generalize a1.tmps.getD 49 undef = t49 at hal
    generalize a1.tmps.getD 50 undef = t50 at hal
    generalize a1.tmps.getD 51 undef = t51 at hal
    generalize a1.tmps.getD 52 undef = t52 at hal
    generalize a1.tmps.getD 53 undef = t53 at hal
    generalize a1.tmps.getD 54 undef = t54 at hal
    generalize a1.tmps.getD 55 undef = t55 at hal
    generalize a1.tmps.getD 56 undef = t56 at hal
    generalize a1.tmps.getD 57 undef = t57 at hal
    generalize a1.tmps.getD 58 undef = t58 at hal
    generalize a1.tmps.getD 59 undef = t59 at hal
    generalize a1.tmps.getD 60 undef = t60 at hal
    generalize a1.tmps.getD 61 undef = t61 at hal
    generalize a1.tmps.getD 62 undef = t62 at hal
    generalize a1.tmps.getD 63 undef = t63 at hal
    generalize a1.tmps.getD 64 undef = t64 at hal
    generalize a1.tmps.getD 65 undef = t65 at hal
    generalize a1.tmps.getD 66 undef = t66 at hal
    generalize a1.tmps.getD 67 undef = t67 at hal
    generalize a1.tmps.getD 68 undef = t68 at hal
    generalize a1.tmps.getD 69 undef = t69 at hal
    generalize a1.tmps.getD 70 undef = t70 at hal
    generalize a1.tmps.getD 71 undef = t71 at hal
    generalize a1.tmps.getD 72 undef = t72 at hal
    generalize a1.tmps.getD 73 undef = t73 at hal
    generalize a1.tmps.getD 74 undef = t74 at hal
    generalize a1.tmps.getD 75 undef = t75 at hal
    generalize a1.tmps.getD 76 undef = t76 at hal
    generalize a1.tmps.getD 77 undef = t77 at hal
    generalize a1.tmps.getD 78 undef = t78 at hal
    generalize a1.tmps.getD 79 undef = t79 at hal
    generalize a1.tmps.getD 80 undef = t80 at hal
    generalize a1.tmps.getD 81 undef = t81 at hal
    generalize a1.tmps.getD 82 undef = t82 at hal
    generalize a1.tmps.getD 83 undef = t83 at hal
    generalize a1.tmps.getD 84 undef = t84 at hal
    generalize a1.tmps.getD 85 undef = t85 at hal
    generalize a1.tmps.getD 86 undef = t86 at hal
    generalize a1.tmps.getD 87 undef = t87 at hal
    generalize a1.tmps.getD 88 undef = t88 at hal
    generalize a1.tmps.getD 89 undef = t89 at hal
    generalize a1.tmps.getD 90 undef = t90 at hal
    generalize a1.tmps.getD 91 undef = t91 at hal
    generalize a1.tmps.getD 92 undef = t92 at hal
    generalize a1.tmps.getD 93 undef = t93 at hal
    generalize a1.tmps.getD 94 undef = t94 at hal
    generalize a1.tmps.getD 95 undef = t95 at hal
    generalize a1.tmps.getD 96 undef = t96 at hal
    generalize a1.tmps.getD 97 undef = t97 at hal
    generalize a1.tmps.getD 98 undef = t98 at hal
    generalize a1.tmps.getD 99 undef = t99 at hal
    generalize a1.tmps.getD 100 undef = t100 at hal
    generalize a1.tmps.getD 101 undef = t101 at hal
    generalize a1.tmps.getD 102 undef = t102 at hal
    generalize a1.tmps.getD 103 undef = t103 at hal
    generalize a1.tmps.getD 104 undef = t104 at hal
    generalize a1.tmps.getD 105 undef = t105 at hal
    generalize a1.tmps.getD 106 undef = t106 at hal
    generalize a1.tmps.getD 107 undef = t107 at hal
    generalize a1.tmps.getD 108 undef = t108 at hal
    generalize a1.tmps.getD 109 undef = t109 at hal
    generalize a1.tmps.getD 110 undef = t110 at hal
    generalize a1.tmps.getD 111 undef = t111 at hal
    generalize a1.tmps.getD 112 undef = t112 at hal
    generalize a1.tmps.getD 113 undef = t113 at hal
    generalize a1.tmps.getD 114 undef = t114 at hal
    generalize a1.tmps.getD 115 undef = t115 at hal
    generalize a1.tmps.getD 116 undef = t116 at hal
    generalize a1.tmps.getD 117 undef = t117 at hal
    generalize a1.tmps.getD 118 undef = t118 at hal
    generalize a1.tmps.getD 119 undef = t119 at hal
    generalize a1.tmps.getD 120 undef = t120 at hal
    generalize a1.tmps.getD 121 undef = t121 at hal
    generalize a1.tmps.getD 122 undef = t122 at hal
    generalize a1.tmps.getD 123 undef = t123 at hal
    generalize a1.tmps.getD 124 undef = t124 at hal
    generalize a1.tmps.getD 125 undef = t125 at hal
    generalize a1.tmps.getD 126 undef = t126 at hal
    generalize a1.tmps.getD 127 undef = t127 at hal
    clear l0 l1 l5 l12 l6 hde
    subst hal
    go_wp2_with fail
    go_ret
    exact ⟨rfl, atD_of Z.out⟩
end
end Go.Proofs.Ytfbjhialjepodaa
