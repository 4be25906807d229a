import Derived.Test.YtdlehchofmdjbaaSqL2
import Derived.Test.YtdlehchofmdjbaaSqT2
namespace Go.Proofs.Ytdlehchofmdjbaa
open Go Go.RowKit Go.Shelf Sq
set_option linter.unusedVariables false
set_option linter.unusedSimpArgs false
attribute [local go_sem] Oper.semAt_some
/-! on. -/
theorem on_any (p : Option Addr) (path : Int) (w : World) : Calls Try.prog 24 #[.pointer p, .int .i64 path] w fun e w' => e = .returned (.func (.func 34) #[] #[.pointer (some ⟨w.heap.size, 0, none⟩), .pointer (some ⟨w.heap.size + 1, 0, none⟩)]) ∧ Hid (w' = (w.alloc (.cells #[.pointer p] 23)).alloc (.cells #[.int .i64 path] 3)) := by
  have hmf : ∀ (fn : Fn) (first cap : Array Value) (w : World), (Instr.makeFunc fn first cap).run Try.prog w = .ok (.func fn first cap) w := fun _ _ _ _ => rfl
  go_enter Try.func24, Try.ntmps24
  go_wp2_with fail
  go_ret
  exact ⟨rfl, Lib.hid rfl⟩
namespace Sq
def pathB (L : List ItB) (path : Int) (j : Nat) : Bool := match L[j]? with | some y => decide (y.x.path = path) | none => false
def onU (L : List ItB) (path : Int) (i : Nat) : List Nat := (flU L i).filter (pathB L path)
def nxtO (L : List ItB) (m : Nat) (path : Int) (pre : List Nat) (x : Nat) : Prop := x < m ∧ pre = onU L path x ∧ fliesB L x = true ∧ pathB L path x = true
def InO (qb pb q cu : Nat) (A : Option Addr) (n c o : Nat) (path : Int) (L : List ItB) (pre : List Nat) (W : World) : Prop := W.heap[qb]? = some (.cells #[.pointer (some ⟨q, 0, none⟩)] 23 (0, 0)) ∧ W.heap[pb]? = some (.cells #[.int .i64 path] 3 (0, 0)) ∧ W.heap[q]? = some (.cells (qcl cu A n c o) 52 (0, 0)) ∧
  ∃ M : List ItB, W.ownsRow 0 56 11 (.slice A n c) n (M.flatMap itc) ∧ ∀ j, (∀ k ∈ pre, k < j) → M[j]? = L[j]?
end Sq
namespace Sq
def FlI (A : Option Addr) (m c B : Nat) (v : Value) (w : World) : Prop := ∃ b, v = .func (.func 39) #[] #[.pointer (some ⟨b, 0, none⟩)] ∧ w.heap[b]? = some (.cells #[.slice A m c] 50 (0, 0)) ∧ B ≤ b
def Upf (φ : Value → World → Prop) : Prop := ∀ v w w', φ v w → Up w w' → φ v w'
theorem upf_is (x : Value) : Upf (Is x) := fun _ _ _ h _ => h
theorem upf_fl (A : Option Addr) (m c B : Nat) : Upf (FlI A m c B) := fun _ _ _ ⟨b, h1, h2, h3⟩ hu => ⟨b, h1, (hu.block _ (lt_of_blk h2)).trans h2, h3⟩
theorem facts_up {l : List (Value → World → Prop)} (h : ∀ φ ∈ l, Upf φ) (i : Nat) (v : Value) (w w' : World) (hf : facts l i v w) (hu : Up w w') : facts l i v w' := by
  unfold facts at *
  rw [List.getD] at *
  cases hx : l[i]? with
  | none => simp
  | some φ =>
    rw [hx] at hf
    exact h φ (List.mem_of_getElem? hx) v w w' hf hu
theorem run_sl50 (A : Option Addr) (n c o : Nat) (w : World) (h : o ≤ c) : (Instr.sliceAt 50 (.slice A n c) none (some (.int .i64 (o : Int))) none).run Try.prog w = .ok (.slice A o c) w := by
  have hel : Try.prog.elem 50 = 56 := by kernel_rfl
  have hu : Try.prog.underlying 50 = some (.slice (Try.prog.elem 50)) := by rw [hel]; exact Try.underlying50
  have hr := run_slice_h (P := Try.prog) w 50 A n c hu .i64 (o : Int) (by omega) (by omega)
  have hsz : (sizeOf 56).run Try.prog w = .ok 11 w := by kernel_rfl
  rw [hel, hsz, ← run_sliceAt_slice (P := Try.prog) w 50 _ _ _ _ hu] at hr
  rw [hr]
  have e0 : (if c = 0 then A else A.map (·.add 0)) = A := by
    split
    · rfl
    · cases A <;> rfl
  simp only [Result.andThen, sliced, Int.toNat_natCast, Nat.sub_zero, Nat.zero_mul, e0]
theorem agg23 (w : World) : (isAgg 23).run Try.prog w = .ok false w := by kernel_rfl
theorem agg83 (w : World) : (isAgg 83).run Try.prog w = .ok false w := by kernel_rfl
theorem run_eql3 (a b : Int) (v : Bool) (h : decide (a = b) = v) (w : World) : (binOp .eql 3 (.int .i64 a) (.int .i64 b)).run Try.prog w = .ok (.bool v) w := by subst h; simp [go_sem]; rfl
theorem grdE3 (x y : Operand) (a b : Int) (w : World) : (eqGuard .eql 3 x y (.int .i64 a) (.int .i64 b)).run Try.prog w = .ok () w := by kernel_rfl
theorem yieldAt_any {m m' lr : Nat} {P : Program} {l : Nat} {args : Array Value} {W : World} {R : Ending → World → Prop} (h : YieldAt Fence.wide m P l args W R) : YieldAt (Fence.wide.inRound lr) m' P l args W R := by
  obtain ⟨fn, tmps, assign, body, hy, h1, h2⟩ := h
  exact ⟨fn, tmps, assign, body, hy, h1, fun c cs _ => h2 c cs (room_wide _)⟩
theorem keep_later {B B' : Nat} {W W1 : World} (hB : B ≤ B') (h : KeepAll B W W1) : KeepAll B' W W1 := ⟨h.1, fun k hk => h.2 k (Nat.le_trans hB hk)⟩
theorem keep_up {B : Nat} {W W1 W2 : World} (hu : Up W W1) (h : KeepAll B W1 W2) : KeepAll B W W2 := ⟨Nat.le_trans hu.size h.1, fun k hB hk => (h.2 k hB (Nat.lt_of_lt_of_le hk hu.size)).trans (hu.block k hk)⟩
/-- What is known of the world while a region runs of which one operation, the c-th, calls yield. -/
def YJ (c : Nat) (w0 : World) (R : World → Prop) (L : Nat → Bool) (w : World) : Prop := (L c = false → Up w0 w) ∧ (L c = true → R w)
theorem YJ.same {c : Nat} {w0 w : World} {R : World → Prop} {L : Nat → Bool} (h : YJ c w0 R L w) {i : Nat} (hi : c ≠ i) : YJ c w0 R (upd L i) w := ⟨fun hl => h.1 (by unfold upd at hl; rwa [if_neg hi] at hl), fun hl => h.2 (by unfold upd at hl; rwa [if_neg hi] at hl)⟩
section
variable {P : Program} {ops : Array Oper} {Φ : Nat → Value → World → Prop} {a0 : Act}
theorem opJ_same {c : Nat} {w0 : World} {R : World → Prop} {i : Nat} {o : Oper} (hg : o.guard = none) (hi : c ≠ i)
    (h : ∀ (L : Nat → Bool) (a : Act) (w : World), YJ c w0 R L w → L i = false → Closed ops L → (∀ t, oldB ops t = true → a.tmps.getD t undef = a0.tmps.getD t undef) →
      (∀ (j : Nat) (oj : Oper) (d : Tmp), (o.after.toList.any fun e => e.on == j && Region.binds .any e) = true → ops[j]? = some oj → oj.dst = some d → Φ j (a.tmps.getD d undef) w) → ∃ v, (execOp a.eval o).run P w = .ok (.value v) w ∧ Φ i v w) : OpS P ops Φ (YJ c w0 R) a0 i o := by
  intro L a w hJ hl hc _ _ ho hd
  rw [if_pos (by simp [Region.wanted, hg])]
  obtain ⟨v, hr, hv⟩ := h L a w hJ hl hc ho hd
  unfold Oper.wp
  rw [hr]
  exact ⟨⟨v, rfl, hv⟩, hJ.same hi, fun _ _ _ h => h⟩
theorem opJ_sameG {c : Nat} {w0 : World} {R : World → Prop} {i : Nat} {o : Oper} (j : Nat) (b : Bool) (oj : Oper) (d : Tmp) (hg : o.guard = some (j, b)) (hin : (o.after.toList.any fun e => e.on == j && Region.binds .any e) = true) (hj : ops[j]? = some oj) (hdj : oj.dst = some d) (hv : ∀ v w, Φ j v w → v = .bool b) (hi : c ≠ i)
    (h : ∀ (L : Nat → Bool) (a : Act) (w : World), YJ c w0 R L w → L i = false → Closed ops L → (∀ t, oldB ops t = true → a.tmps.getD t undef = a0.tmps.getD t undef) →
      (∀ (j : Nat) (oj : Oper) (d : Tmp), (o.after.toList.any fun e => e.on == j && Region.binds .any e) = true → ops[j]? = some oj → oj.dst = some d → Φ j (a.tmps.getD d undef) w) → ∃ v, (execOp a.eval o).run P w = .ok (.value v) w ∧ Φ i v w) : OpS P ops Φ (YJ c w0 R) a0 i o := by
  intro L a w hJ hl hc _ _ ho hd
  have hy := yielded_of (tmps := a.tmps) hj hdj (hv _ w (hd j oj d hin hj hdj))
  rw [if_pos (by simp [Region.wanted, hg, hy])]
  obtain ⟨v, hr, hv⟩ := h L a w hJ hl hc ho hd
  unfold Oper.wp
  rw [hr]
  exact ⟨⟨v, rfl, hv⟩, hJ.same hi, fun _ _ _ h => h⟩
end
/-- What holds between the rounds of on's loop. -/
def OnI (J : List Nat → World → Prop) (L : List ItB) (path : Int) (yb bx l : Nat) (A : Option Addr) (o c : Nat) (pre : List Nat) (W : World) : Prop := J (pre.filter (pathB L path)) W ∧ W.heap[yb]? = some (.cells #[.func (.yield l) #[] #[]] 83 (0, 0)) ∧ W.heap[bx]? = some (.cells #[.slice A o c] 50 (0, 0))
theorem blk_grown {W W' : World} {row : Option Nat} {b : Nat} {cs : Array Value} {T : Nat} (h : W.heap[b]? = some (.cells cs T (0, 0))) (hg : W.grownBy W' row) (hr : ∀ r, row = some r → ∃ o : Obj, W.heap[r]? = some o ∧ o.isCells = false) : W'.heap[b]? = some (.cells cs T (0, 0)) :=
  (hg.block _ (lt_of_blk h) (fun e => by obtain ⟨o, ho, hc⟩ := hr b e.symm; rw [h] at ho; cases ho; cases hc)).trans h
theorem onI_own {J : List Nat → World → Prop} {L : List ItB} {path : Int} {yb bx l : Nat} {A : Option Addr} {o c B B' : Nat} (hJ : OwnFrom B J) (hB : B ≤ B') : OwnFrom B' (OnI J L path yb bx l A o c) := fun pre W W' row ⟨h1, h2, h3⟩ hg hr =>
  ⟨OwnFrom.later hJ hB _ W W' row h1 hg hr, blk_grown h2 hg (fun r e => (hr r e).2), blk_grown h3 hg (fun r e => (hr r e).2)⟩
theorem onI_in {J : List Nat → World → Prop} {qb pb q cu : Nat} {A : Option Addr} {n c o : Nat} {path : Int} {L : List ItB} {yb bx l : Nat} (h : ∀ pre W, J pre W → InO qb pb q cu A n c o path L pre W) : ∀ pre W, OnI J L path yb bx l A o c pre W → InF bx A n c o L pre W := fun pre W ⟨h1, _, h3⟩ =>
  let ⟨_, _, _, M, h4, h5⟩ := h _ _ h1
  ⟨h3, M, h4, fun j hj => h5 j fun k hk => hj k (List.mem_filter.1 hk).1⟩
end Sq
set_option maxRecDepth 100000 in
set_option maxHeartbeats 2000000 in
theorem on_seq (n' : Nat) (hn' : 1 ≤ n') (qb pb q cu : Nat) (A : Option Addr) (n c o : Nat) (path : Int) (L : List ItB) (hn : n = L.length) (ho : o ≤ n) (hn2 : n ≤ 256) : SeqK n' Try.prog 34 #[.pointer (some ⟨qb, 0, none⟩), .pointer (some ⟨pb, 0, none⟩)] (encF A) (nxtO L o path) (fun xs => xs = onU L path o) (InO qb pb q cu A n c o path L) := by
  intro l J W hJ hIn hY h0
  refine callsIn_of_wp_marks Try.func34 rfl trivial ?_ rfl
  refine wpIn_wide.2 ?_
  simp only [Try.ntmps34, List.size_toArray, List.length_cons, List.length_nil, Nat.reduceAdd, Nat.reduceSub, Array.replicate_succ, Array.replicate_zero, List.push_toArray, List.append_toArray, List.nil_append, List.cons_append]
  have HN := Lib.hid hn
  have HIN := Lib.hid hIn
  have HY := Lib.hid hY
  have HJ := Lib.hid hJ
  obtain ⟨yb, hyb⟩ : ∃ yb, yb = W.heap.size := ⟨_, rfl⟩
  have HYB := Lib.hid hyb
  have HB := Lib.hid (show (W.alloc (.cells #[.func (.yield l) #[] #[]] 83)).heap[yb]? = some (.cells #[.func (.yield l) #[] #[]] 83 (0, 0)) by rw [hyb]; exact new_at W _)
  have HU1 := Lib.hid (up_alloc W (.cells #[.func (.yield l) #[] #[]] 83))
  have HJ1 := Lib.hid (OwnFrom.up hJ h0 HU1.out)
  obtain ⟨h1, h2, h3, M, h4, h5⟩ := hIn _ _ HJ1.out
  have b0 := cell_of h1 (j := 0) rfl
  have p0 := cell_of h2 (j := 0) rfl
  have q1 := cell_of h3 (j := 1) rfl
  have q2 := cell_of h3 (j := 2) rfl
  have hcap := (row_cap h4).1
  clear hn hIn hY hJ h0 h1 h2 h3 h4 h5 M
  go_upto_region 2 with (fail)
  rw [← hyb]
  clear hyb
  generalize W.alloc (.cells #[.func (.yield l) #[] #[]] 83) = w1 at HB HU1 HJ1 b0 p0 q1 q2 ⊢
  refine staged_lit (by kernel_rfl) (facts [Is (.pointer (some ⟨q, 0, none⟩)), Is (.pointer (some ⟨q, 0, none⟩)), Is (.pointer (some ⟨q, 0 + 1, none⟩)), Is (.slice A n c), Is (.pointer (some ⟨q, 0, none⟩)), Is (.pointer (some ⟨q, 0, none⟩)), Is (.pointer (some ⟨q, 0 + 2, none⟩)), Is (.int .i64 (o : Int)), Is (.slice A o c), FlI A o c w1.heap.size]) (Stg [] (fun _ x => Up w1 x)) 30 rfl rfl rfl (Stg.start (Up.drew w1)) ?_ ?_
  · refine ⟨?_, ?_, ?_, ?_, ?_, ?_, ?_, ?_, ?_, ?_, trivial⟩
    · refine opS_same rfl rfl fun Lx ac w2 hJ hl hc ho hd => ?_
      have s1 : ac.eval (.tmp 1) = .pointer (some ⟨qb, 0, none⟩) := ho 1 rfl
      obtain ⟨_, _, hUx⟩ := hJ
      exact ⟨_, x_load 23 (.tmp 1) rfl s1 (run_load1 agg23 (cell_up b0 hUx)), rfl⟩
    · refine opS_same rfl rfl fun Lx ac w2 hJ hl hc ho hd => ?_
      have d0 : ac.eval (.tmp 7) = .pointer (some ⟨q, 0, none⟩) := hd 0 _ _ rfl rfl rfl
      exact ⟨_, x_nil (.tmp 7) rfl d0, rfl⟩
    · refine opS_same rfl rfl fun Lx ac w2 hJ hl hc ho hd => ?_
      have d1 : ac.eval (.tmp 8) = .pointer (some ⟨q, 0, none⟩) := hd 1 _ _ rfl rfl rfl
      exact ⟨_, x_field 52 (.tmp 8) 1 rfl d1 (fld521 _ _ _), rfl⟩
    · refine opS_same rfl rfl fun Lx ac w2 hJ hl hc ho hd => ?_
      have d2 : ac.eval (.tmp 9) = .pointer (some ⟨q, 0 + 1, none⟩) := hd 2 _ _ rfl rfl rfl
      obtain ⟨_, _, hUx⟩ := hJ
      exact ⟨_, x_load 50 (.tmp 9) rfl d2 (run_load1 agg50 (cell_up q1 hUx)), rfl⟩
    · refine opS_same rfl rfl fun Lx ac w2 hJ hl hc ho hd => ?_
      have s1 : ac.eval (.tmp 1) = .pointer (some ⟨qb, 0, none⟩) := ho 1 rfl
      obtain ⟨_, _, hUx⟩ := hJ
      exact ⟨_, x_load 23 (.tmp 1) rfl s1 (run_load1 agg23 (cell_up b0 hUx)), rfl⟩
    · refine opS_same rfl rfl fun Lx ac w2 hJ hl hc ho hd => ?_
      have d4 : ac.eval (.tmp 11) = .pointer (some ⟨q, 0, none⟩) := hd 4 _ _ rfl rfl rfl
      exact ⟨_, x_nil (.tmp 11) rfl d4, rfl⟩
    · refine opS_same rfl rfl fun Lx ac w2 hJ hl hc ho hd => ?_
      have d5 : ac.eval (.tmp 12) = .pointer (some ⟨q, 0, none⟩) := hd 5 _ _ rfl rfl rfl
      exact ⟨_, x_field 52 (.tmp 12) 2 rfl d5 (fld522 _ _ _), rfl⟩
    · refine opS_same rfl rfl fun Lx ac w2 hJ hl hc ho hd => ?_
      have d6 : ac.eval (.tmp 13) = .pointer (some ⟨q, 0 + 2, none⟩) := hd 6 _ _ rfl rfl rfl
      obtain ⟨_, _, hUx⟩ := hJ
      exact ⟨_, x_load 3 (.tmp 13) rfl d6 (run_load1 agg3 (cell_up q2 hUx)), rfl⟩
    · refine opS_same rfl rfl fun Lx ac w2 hJ hl hc ho hd => ?_
      have d3 : ac.eval (.tmp 10) = .slice A n c := hd 3 _ _ rfl rfl rfl
      have d7 : ac.eval (.tmp 14) = .int .i64 (o : Int) := hd 7 _ _ rfl rfl rfl
      exact ⟨_, x_slice 50 (.tmp 10) (.tmp 14) rfl d3 d7 (run_sl50 A n c o w2 (by omega)), rfl⟩
    · refine opS_callUp rfl rfl (fun k wa wb h hu => Up.trans h hu) (facts_up (by simp [upf_is, upf_fl])) fun Lx ac w2 hJ hl hc ho hd => ?_
      have d8 : ac.eval (.tmp 15) = .slice A o c := hd 8 _ _ rfl rfl rfl
      obtain ⟨_, _, hUx⟩ := hJ
      refine ⟨31, _, x_fcall 31 [.tmp 15] _ rfl (by kernel_rfl), ?_⟩
      simp only [List.map_cons, List.map_nil, d8]
      refine (inFl_any A o c w2).mono fun e w3 ⟨he, hw⟩ => ⟨_, he, by rw [hw]; exact up_alloc _ _, ?_⟩
      exact ⟨_, rfl, by rw [hw]; exact new_at _ _, Below.size (show Up w1 w2 from hUx)⟩
  · intro L9 a9 w2 hI hall
    obtain ⟨k, hk, hUF⟩ := hI.done hall (by simp)
    have HU2 := Lib.hid (show Up w1 w2 from hUF)
    clear hk hUF k
    have hf : FlI A o c w1.heap.size (a9.tmps.getD 16 undef) w2 := hI.get hall (i := 9) rfl rfl
    obtain ⟨bx, hv, hX, hbx⟩ := hf
    have HX := Lib.hid hX
    have HBX := Lib.hid hbx
    clear hX hbx
    have l0 : a9.tmps.getD 0 undef = .func (.yield l) #[] #[] := hI.old 0 rfl
    have l1 : a9.tmps.getD 1 undef = .pointer (some ⟨qb, 0, none⟩) := hI.old 1 rfl
    have l2 : a9.tmps.getD 2 undef = .pointer (some ⟨pb, 0, none⟩) := hI.old 2 rfl
    have l3 : a9.tmps.getD 3 undef = .pointer (some ⟨yb, 0, none⟩) := hI.old 3 rfl
    have hde : a9.defers = [] := hI.defers
    have hal := act_lit a9 30 hI.size
    clear hI
    simp only [List.range, List.range.loop, List.map_cons, List.map_nil] at hal
    rw [l0, l1, l2, l3, hv, hde] at hal
    generalize a9.tmps.getD 4 undef = t4 at hal
    generalize a9.tmps.getD 5 undef = t5 at hal
    generalize a9.tmps.getD 6 undef = t6 at hal
    generalize a9.tmps.getD 7 undef = t7 at hal
    generalize a9.tmps.getD 8 undef = t8 at hal
    generalize a9.tmps.getD 9 undef = t9 at hal
    generalize a9.tmps.getD 10 undef = t10 at hal
    generalize a9.tmps.getD 11 undef = t11 at hal
    generalize a9.tmps.getD 12 undef = t12 at hal
    generalize a9.tmps.getD 13 undef = t13 at hal
    generalize a9.tmps.getD 14 undef = t14 at hal
    generalize a9.tmps.getD 15 undef = t15 at hal
    generalize a9.tmps.getD 17 undef = t17 at hal
    generalize a9.tmps.getD 18 undef = t18 at hal
    generalize a9.tmps.getD 19 undef = t19 at hal
    generalize a9.tmps.getD 20 undef = t20 at hal
    generalize a9.tmps.getD 21 undef = t21 at hal
    generalize a9.tmps.getD 22 undef = t22 at hal
    generalize a9.tmps.getD 23 undef = t23 at hal
    generalize a9.tmps.getD 24 undef = t24 at hal
    generalize a9.tmps.getD 25 undef = t25 at hal
    generalize a9.tmps.getD 26 undef = t26 at hal
    generalize a9.tmps.getD 27 undef = t27 at hal
    generalize a9.tmps.getD 28 undef = t28 at hal
    generalize a9.tmps.getD 29 undef = t29 at hal
    clear l0 l1 l2 l3 hv hde
    subst hal
    have HJ2 := Lib.hid (OwnFrom.up HJ.out HJ1.out HU2.out)
    have HB2 := Lib.hid ((HU2.out.block _ (lt_of_blk HB.out)).trans HB.out)
    have HS2 := Lib.hid (show W.heap.size ≤ w2.heap.size from Nat.le_trans HU1.out.size HU2.out.size)
    have HW1 := Lib.hid (show W.heap.size < w1.heap.size from HYB.out ▸ lt_of_blk HB.out)
    clear HU1 HB HJ1 HU2 b0 p0 q1 q2
    go_wp2_with fail
    refine (wpIn_wide (n := n' + 1)).1 ?_
    refine range_I (by omega) (gf := 39) (lb := #[.pointer (some ⟨bx, 0, none⟩)]) rfl (enters_of Try.func39 (by kernel_rfl) rfl)
      (inFl_seq n' hn' bx A n c o L HN.out ho hn2) (fun _ => rfl) (OnI J L path yb bx l A o c) (onI_own HJ.out HS2.out) (onI_in HIN.out) ?start
      (fun x => { tmps := #[.func (.yield l) #[] #[], .pointer (some ⟨qb, 0, none⟩), .pointer (some ⟨pb, 0, none⟩), .pointer (some ⟨yb, 0, none⟩), .pointer (A.map fun a => ⟨a.block, x * 11, none⟩), t5, t6, t7, t8, t9, t10, t11, t12, t13, t14, t15, .func (.func 39) #[] #[.pointer (some ⟨bx, 0, none⟩)], .pointer (A.map fun a => ⟨a.block, x * 11, none⟩), t18, t19, t20, t21, t22, t23, t24, t25, t26, t27, t28, t29], defers := [] }) ?assign ?body ?done
    case start => exact ⟨HJ2.out, HB2.out, HX.out⟩
    case assign =>
      intro l x W K hK
      simp only [encF]
      gi_wp2
      exact hK
    case body =>
      rintro l2 pre x w3 ⟨hJ3, hB3, hX3⟩ ⟨hxm, hpre, hfl⟩
      obtain ⟨h1, h2, h3, M, h4, h5⟩ := HIN.out _ _ hJ3
      have hlt : ∀ k ∈ pre.filter (pathB L path), k < x := fun k hk => by
        have := (List.mem_filter.1 hk).1
        rw [hpre] at this
        exact flU_lt k this
      obtain ⟨y, hy⟩ : ∃ y, L[x]? = some y := ⟨_, List.getElem?_eq_getElem (by rw [← HN.out]; omega)⟩
      have hyM : M[x]? = some y := (h5 x hlt).trans hy
      obtain ⟨g, rfl⟩ := row_at h4 (by omega)
      have k7 : w3.cell? ⟨g, x * 11 + 7, none⟩ = some (.int .i64 y.x.path) := row_cell h4 (rowG_at itc 11 itc_len hyM (j := 7) rfl)
      have p0 : w3.cell? ⟨pb, 0, none⟩ = some (.int .i64 path) := cell_of h2 rfl
      have y0 : w3.cell? ⟨yb, 0, none⟩ = some (.func (.yield l) #[] #[]) := cell_of hB3 rfl
      have hpB : pathB L path x = decide (y.x.path = path) := by unfold pathB; rw [hy]
      have HI := Lib.hid (And.intro hJ3 (And.intro hB3 hX3))
      have HPRE := Lib.hid hpre
      clear h1 h2 h3 h4 h5 hlt hyM hJ3 hB3 hX3
      simp only [Option.map_some]
      have mixed : Try.prog.follows .mixedOrders = true := by kernel_rfl
      by_cases hp : y.x.path = path
      · have hnx : nxtO L o path (pre.filter (pathB L path)) x := ⟨hxm, by rw [hpre]; rfl, hfl, by rw [hpB, decide_eq_true hp]⟩
        have HNX := Lib.hid hnx
        have hfe : (pre ++ [x]).filter (pathB L path) = pre.filter (pathB L path) ++ [x] := by
          rw [List.filter_append]; simp [hpB, hp]
        have HFE := Lib.hid hfe
        clear hnx hpre hfl hfe hpB
        gi_wp2
        refine stagedInI_lit (by kernel_rfl) (facts [Is (.pointer (some ⟨g, x * 11, none⟩)), Is (.pointer (some ⟨g, x * 11, none⟩)), Is (.pointer (some ⟨g, x * 11 + 7, none⟩)), Is (.int .i64 y.x.path), Is (.int .i64 path), Is (.bool true), Is (.bool true), Is (.func (.yield l) #[] #[]), Is (.pointer (some ⟨g, x * 11, none⟩)), Is (.bool true), Is (.bool false), Is (.bool false)]) (YJ 9 w3 fun w' => J (pre.filter (pathB L path) ++ [x]) w' ∧ KeepAll W.heap.size w3 w') 30 rfl rfl rfl ⟨fun _ => Up.drew w3, fun h => (by cases h)⟩ ?_ ?_
        · refine ⟨?_, ?_, ?_, ?_, ?_, ?_, ?_, ?_, ?_, ?_, ?_, ?_, trivial⟩
          · refine OpS.inRound rfl (opJ_same rfl (by decide) ?_); intro Lx ac w1 hJ hl hc ho hd
            have s4 : ac.eval (.tmp 4) = .pointer (some ⟨g, x * 11, none⟩) := ho 4 rfl
            exact ⟨_, x_move (.tmp 4) rfl s4, rfl⟩
          · refine OpS.inRound rfl (opJ_same rfl (by decide) ?_); intro Lx ac w1 hJ hl hc ho hd
            have d0 : ac.eval (.tmp 18) = .pointer (some ⟨g, x * 11, none⟩) := hd 0 _ _ rfl rfl rfl
            exact ⟨_, x_nil (.tmp 18) rfl d0, rfl⟩
          · refine OpS.inRound rfl (opJ_same rfl (by decide) ?_); intro Lx ac w1 hJ hl hc ho hd
            have d1 : ac.eval (.tmp 19) = .pointer (some ⟨g, x * 11, none⟩) := hd 1 _ _ rfl rfl rfl
            exact ⟨_, x_field 56 (.tmp 19) 1 rfl d1 (fld561 _ _ _), rfl⟩
          · refine OpS.inRound rfl (opJ_same rfl (by decide) ?_); intro Lx ac w1 hJ hl hc ho hd
            have d2 : ac.eval (.tmp 20) = .pointer (some ⟨g, x * 11 + 7, none⟩) := hd 2 _ _ rfl rfl rfl
            have hUx : Up w3 w1 := hJ.1 (reach_not hc (i := 3) (n := 12) rfl hl)
            exact ⟨_, x_load 3 (.tmp 20) rfl d2 (run_load1 agg3 (cell_up k7 hUx)), rfl⟩
          · refine OpS.inRound rfl (opJ_same rfl (by decide) ?_); intro Lx ac w1 hJ hl hc ho hd
            have s2 : ac.eval (.tmp 2) = .pointer (some ⟨pb, 0, none⟩) := ho 2 rfl
            have hUx : Up w3 w1 := hJ.1 (reach_not hc (i := 4) (n := 12) rfl hl)
            exact ⟨_, x_load 3 (.tmp 2) rfl s2 (run_load1 agg3 (cell_up p0 hUx)), rfl⟩
          · refine OpS.inRound rfl (opJ_same rfl (by decide) ?_); intro Lx ac w1 hJ hl hc ho hd
            have d3 : ac.eval (.tmp 21) = .int .i64 y.x.path := hd 3 _ _ rfl rfl rfl
            have d4 : ac.eval (.tmp 22) = .int .i64 path := hd 4 _ _ rfl rfl rfl
            exact ⟨_, x_bin .eql 3 3 (.tmp 21) (.tmp 22) rfl d3 d4 (grdE3 _ _ _ _ _) (run_eql3 _ _ _ (decide_eq_true hp) _), rfl⟩
          · refine OpS.inRound rfl (opJ_same rfl (by decide) ?_); intro Lx ac w1 hJ hl hc ho hd
            have d5 : ac.eval (.tmp 23) = .bool true := hd 5 _ _ rfl rfl rfl
            exact ⟨_, x_move (.tmp 23) rfl d5, rfl⟩
          · refine OpS.inRound rfl (opJ_sameG 6 true _ _ rfl rfl rfl rfl (fun _ _ h => h) (by decide) ?_); intro Lx ac w1 hJ hl hc ho hd
            have s3 : ac.eval (.tmp 3) = .pointer (some ⟨yb, 0, none⟩) := ho 3 rfl
            have hUx : Up w3 w1 := hJ.1 (reach_not hc (i := 7) (n := 12) rfl hl)
            exact ⟨_, x_load 83 (.tmp 3) rfl s3 (run_load1 agg83 (cell_up y0 hUx)), rfl⟩
          · refine OpS.inRound rfl (opJ_sameG 6 true _ _ rfl rfl rfl rfl (fun _ _ h => h) (by decide) ?_); intro Lx ac w1 hJ hl hc ho hd
            have s4 : ac.eval (.tmp 4) = .pointer (some ⟨g, x * 11, none⟩) := ho 4 rfl
            exact ⟨_, x_move (.tmp 4) rfl s4, rfl⟩
          · refine opSI_yield 6 true _ _ rfl rfl rfl rfl (fun _ _ h => h) rfl fun Lx ac w1 hJ hl hc ho hd => ?_
            have d7 : ac.eval (.tmp 25) = .func (.yield l) #[] #[] := hd 7 _ _ rfl rfl rfl
            have d8 : ac.eval (.tmp 26) = .pointer (some ⟨g, x * 11, none⟩) := hd 8 _ _ rfl rfl rfl
            have hUx : Up w3 w1 := hJ.1 hl
            refine ⟨l, _, x_yield (.tmp 25) (.tmp 26) 59 rfl d7 d8, YieldAt.mono (yieldAt_any (HY.out _ x w1 (OwnFrom.up HJ.out HI.out.1 hUx) HNX.out)) ?_⟩
            rintro e w2 ⟨rfl, hJ4, hK4⟩
            exact ⟨_, rfl, rfl, ⟨fun h => by simp [upd] at h, fun _ => ⟨hJ4, keep_up hUx hK4⟩⟩, fun q v _ hf => facts_free (by simp [free_is]) q v hf⟩
          · refine OpS.inRound rfl (opJ_sameG 6 true _ _ rfl rfl rfl rfl (fun _ _ h => h) (by decide) ?_); intro Lx ac w1 hJ hl hc ho hd
            have d9 : ac.eval (.tmp 27) = .bool true := hd 9 _ _ rfl rfl rfl
            exact ⟨_, x_not 4 (.tmp 27) rfl d9, rfl⟩
          · refine OpS.inRound rfl (opJ_same rfl (by decide) ?_); intro Lx ac w1 hJ hl hc ho hd
            have d6 : ac.eval (.tmp 24) = .bool true := hd 6 _ _ rfl rfl rfl
            have d10 : ac.eval (.tmp 28) = .bool false := hd 10 _ _ rfl rfl rfl
            exact ⟨_, x_pick (.tmp 24) (.tmp 28) (.const (.bool false)) (b := true) (Y := .bool false) rfl d6 (fun _ => d10) (fun h => absurd h (by decide)), rfl⟩

        · intro L8 a8 w4 hI8 hall8
          have hJ8 := hI8.world.2 (hall8 9 (by decide))
          have HJ8 := Lib.hid hJ8.1
          have HK8 := Lib.hid hJ8.2
          clear hJ8
          have l0 : a8.tmps.getD 0 undef = .func (.yield l) #[] #[] := hI8.old 0 rfl
          have l1 : a8.tmps.getD 1 undef = .pointer (some ⟨qb, 0, none⟩) := hI8.old 1 rfl
          have l2 : a8.tmps.getD 2 undef = .pointer (some ⟨pb, 0, none⟩) := hI8.old 2 rfl
          have l3 : a8.tmps.getD 3 undef = .pointer (some ⟨yb, 0, none⟩) := hI8.old 3 rfl
          have l4 : a8.tmps.getD 4 undef = .pointer (some ⟨g, x * 11, none⟩) := hI8.old 4 rfl
          have l16 : a8.tmps.getD 16 undef = .func (.func 39) #[] #[.pointer (some ⟨bx, 0, none⟩)] := hI8.old 16 rfl
          have l17 : a8.tmps.getD 17 undef = .pointer (some ⟨g, x * 11, none⟩) := hI8.old 17 rfl
          have l29 : a8.tmps.getD 29 undef = .bool false := hI8.get hall8 (i := 11) rfl rfl
          have hde : a8.defers = [] := hI8.defers
          have hal := act_lit a8 30 hI8.size
          clear hI8
          simp only [List.range, List.range.loop, List.map_cons, List.map_nil] at hal
          rw [l0, l1, l2, l3, l4, l16, l17, l29, hde] at hal
          generalize a8.tmps.getD 5 undef = t5 at hal
          generalize a8.tmps.getD 6 undef = t6 at hal
          generalize a8.tmps.getD 7 undef = t7 at hal
          generalize a8.tmps.getD 8 undef = t8 at hal
          generalize a8.tmps.getD 9 undef = t9 at hal
          generalize a8.tmps.getD 10 undef = t10 at hal
          generalize a8.tmps.getD 11 undef = t11 at hal
          generalize a8.tmps.getD 12 undef = t12 at hal
          generalize a8.tmps.getD 13 undef = t13 at hal
          generalize a8.tmps.getD 14 undef = t14 at hal
          generalize a8.tmps.getD 15 undef = t15 at hal
          generalize a8.tmps.getD 18 undef = t18 at hal
          generalize a8.tmps.getD 19 undef = t19 at hal
          generalize a8.tmps.getD 20 undef = t20 at hal
          generalize a8.tmps.getD 21 undef = t21 at hal
          generalize a8.tmps.getD 22 undef = t22 at hal
          generalize a8.tmps.getD 23 undef = t23 at hal
          generalize a8.tmps.getD 24 undef = t24 at hal
          generalize a8.tmps.getD 25 undef = t25 at hal
          generalize a8.tmps.getD 26 undef = t26 at hal
          generalize a8.tmps.getD 27 undef = t27 at hal
          generalize a8.tmps.getD 28 undef = t28 at hal
          clear l0 l1 l2 l3 l4 l16 l17 l29 hde
          subst hal

          gi_wp2
          refine ⟨KeepAll.from (keep_later HS2.out HK8.out), by rw [HFE.out]; exact HJ8.out, KeepAll.blk HK8.out (by have := HYB.out; omega) HI.out.2.1, KeepAll.blk HK8.out (by have := HBX.out; have := HW1.out; omega) HI.out.2.2⟩
      · have hfe : (pre ++ [x]).filter (pathB L path) = pre.filter (pathB L path) := by
          rw [List.filter_append]; simp [hpB, hp]
        have HFE := Lib.hid hfe
        clear hpre hfl hfe hpB
        gi_wp2
        refine stagedIn_lit rfl (by kernel_rfl) (facts [Is (.pointer (some ⟨g, x * 11, none⟩)), Is (.pointer (some ⟨g, x * 11, none⟩)), Is (.pointer (some ⟨g, x * 11 + 7, none⟩)), Is (.int .i64 y.x.path), Is (.int .i64 path), Is (.bool false), Is (.bool false), Tru, Tru, Tru, Tru, Is (.bool false)]) (Stg [] (fun _ x => Up w3 x)) 30 rfl rfl rfl (Stg.start (Up.drew w3)) ?_ ?_
        · refine ⟨?_, ?_, ?_, ?_, ?_, ?_, ?_, ?_, ?_, ?_, ?_, ?_, trivial⟩
          · refine opS_same rfl rfl fun Lx ac w1 hJ hl hc ho hd => ?_
            have s4 : ac.eval (.tmp 4) = .pointer (some ⟨g, x * 11, none⟩) := ho 4 rfl
            exact ⟨_, x_move (.tmp 4) rfl s4, rfl⟩
          · refine opS_same rfl rfl fun Lx ac w1 hJ hl hc ho hd => ?_
            have d0 : ac.eval (.tmp 18) = .pointer (some ⟨g, x * 11, none⟩) := hd 0 _ _ rfl rfl rfl
            exact ⟨_, x_nil (.tmp 18) rfl d0, rfl⟩
          · refine opS_same rfl rfl fun Lx ac w1 hJ hl hc ho hd => ?_
            have d1 : ac.eval (.tmp 19) = .pointer (some ⟨g, x * 11, none⟩) := hd 1 _ _ rfl rfl rfl
            exact ⟨_, x_field 56 (.tmp 19) 1 rfl d1 (fld561 _ _ _), rfl⟩
          · refine opS_same rfl rfl fun Lx ac w1 hJ hl hc ho hd => ?_
            have d2 : ac.eval (.tmp 20) = .pointer (some ⟨g, x * 11 + 7, none⟩) := hd 2 _ _ rfl rfl rfl
            obtain ⟨_, _, hUx⟩ := hJ
            exact ⟨_, x_load 3 (.tmp 20) rfl d2 (run_load1 agg3 (cell_up k7 hUx)), rfl⟩
          · refine opS_same rfl rfl fun Lx ac w1 hJ hl hc ho hd => ?_
            have s2 : ac.eval (.tmp 2) = .pointer (some ⟨pb, 0, none⟩) := ho 2 rfl
            obtain ⟨_, _, hUx⟩ := hJ
            exact ⟨_, x_load 3 (.tmp 2) rfl s2 (run_load1 agg3 (cell_up p0 hUx)), rfl⟩
          · refine opS_same rfl rfl fun Lx ac w1 hJ hl hc ho hd => ?_
            have d3 : ac.eval (.tmp 21) = .int .i64 y.x.path := hd 3 _ _ rfl rfl rfl
            have d4 : ac.eval (.tmp 22) = .int .i64 path := hd 4 _ _ rfl rfl rfl
            exact ⟨_, x_bin .eql 3 3 (.tmp 21) (.tmp 22) rfl d3 d4 (grdE3 _ _ _ _ _) (run_eql3 _ _ _ (decide_eq_false hp) _), rfl⟩
          · refine opS_same rfl rfl fun Lx ac w1 hJ hl hc ho hd => ?_
            have d5 : ac.eval (.tmp 23) = .bool false := hd 5 _ _ rfl rfl rfl
            exact ⟨_, x_move (.tmp 23) rfl d5, rfl⟩
          · exact opS_skip 6 true false (by decide) _ _ rfl rfl rfl rfl (fun _ _ h => h) rfl (fun _ => trivial)
          · exact opS_skip 6 true false (by decide) _ _ rfl rfl rfl rfl (fun _ _ h => h) rfl (fun _ => trivial)
          · exact opS_skip 6 true false (by decide) _ _ rfl rfl rfl rfl (fun _ _ h => h) rfl (fun _ => trivial)
          · exact opS_skip 6 true false (by decide) _ _ rfl rfl rfl rfl (fun _ _ h => h) rfl (fun _ => trivial)
          · refine opS_same rfl rfl fun Lx ac w1 hJ hl hc ho hd => ?_
            have d6 : ac.eval (.tmp 24) = .bool false := hd 6 _ _ rfl rfl rfl
            have d10 := hd 10 _ _ rfl rfl rfl
            exact ⟨_, x_pick (.tmp 24) (.tmp 28) (.const (.bool false)) (b := false) (X := .bool true) rfl d6 (fun h => absurd h (by decide)) (fun _ => rfl), rfl⟩

        · intro L8 a8 w4 hI8 hall8
          obtain ⟨k, hk, hUF⟩ := hI8.done hall8 (by simp)
          have HU8 := Lib.hid (show Up w3 w4 from hUF)
          clear hk hUF k
          have l0 : a8.tmps.getD 0 undef = .func (.yield l) #[] #[] := hI8.old 0 rfl
          have l1 : a8.tmps.getD 1 undef = .pointer (some ⟨qb, 0, none⟩) := hI8.old 1 rfl
          have l2 : a8.tmps.getD 2 undef = .pointer (some ⟨pb, 0, none⟩) := hI8.old 2 rfl
          have l3 : a8.tmps.getD 3 undef = .pointer (some ⟨yb, 0, none⟩) := hI8.old 3 rfl
          have l4 : a8.tmps.getD 4 undef = .pointer (some ⟨g, x * 11, none⟩) := hI8.old 4 rfl
          have l16 : a8.tmps.getD 16 undef = .func (.func 39) #[] #[.pointer (some ⟨bx, 0, none⟩)] := hI8.old 16 rfl
          have l17 : a8.tmps.getD 17 undef = .pointer (some ⟨g, x * 11, none⟩) := hI8.old 17 rfl
          have l29 : a8.tmps.getD 29 undef = .bool false := hI8.get hall8 (i := 11) rfl rfl
          have hde : a8.defers = [] := hI8.defers
          have hal := act_lit a8 30 hI8.size
          clear hI8
          simp only [List.range, List.range.loop, List.map_cons, List.map_nil] at hal
          rw [l0, l1, l2, l3, l4, l16, l17, l29, hde] at hal
          generalize a8.tmps.getD 5 undef = t5 at hal
          generalize a8.tmps.getD 6 undef = t6 at hal
          generalize a8.tmps.getD 7 undef = t7 at hal
          generalize a8.tmps.getD 8 undef = t8 at hal
          generalize a8.tmps.getD 9 undef = t9 at hal
          generalize a8.tmps.getD 10 undef = t10 at hal
          generalize a8.tmps.getD 11 undef = t11 at hal
          generalize a8.tmps.getD 12 undef = t12 at hal
          generalize a8.tmps.getD 13 undef = t13 at hal
          generalize a8.tmps.getD 14 undef = t14 at hal
          generalize a8.tmps.getD 15 undef = t15 at hal
          generalize a8.tmps.getD 18 undef = t18 at hal
          generalize a8.tmps.getD 19 undef = t19 at hal
          generalize a8.tmps.getD 20 undef = t20 at hal
          generalize a8.tmps.getD 21 undef = t21 at hal
          generalize a8.tmps.getD 22 undef = t22 at hal
          generalize a8.tmps.getD 23 undef = t23 at hal
          generalize a8.tmps.getD 24 undef = t24 at hal
          generalize a8.tmps.getD 25 undef = t25 at hal
          generalize a8.tmps.getD 26 undef = t26 at hal
          generalize a8.tmps.getD 27 undef = t27 at hal
          generalize a8.tmps.getD 28 undef = t28 at hal
          clear l0 l1 l2 l3 l4 l16 l17 l29 hde
          subst hal

          gi_wp2
          exact ⟨⟨HU8.out.size, fun k o _ hk _ => (HU8.out.block _ (Array.getElem?_eq_some_iff.1 hk).1).trans hk⟩, by rw [HFE.out]; exact OwnFrom.up HJ.out HI.out.1 HU8.out, (HU8.out.block _ (lt_of_blk HI.out.2.1)).trans HI.out.2.1, (HU8.out.block _ (lt_of_blk HI.out.2.2)).trans HI.out.2.2⟩
    case done =>
      intro D xs Wd hD hxs hI hK
      subst hxs
      obtain ⟨h1, _, _⟩ := hI
      go_wp2_with fail
      refine ⟨by simp, .inl ⟨_, _, rfl, run_takeDeferred hK, ?_⟩⟩
      exact ⟨_, results_none rfl _ _ _, ⟨_, rfl⟩, _, rfl, OwnFrom.putObj HJ.out _ h1 (by have := HS2.out; omega) hK rfl⟩
set_option maxRecDepth 100000 in
theorem on0_seq (n' : Nat) (qb pb : Nat) : SeqK n' Try.prog 34 #[.pointer (some ⟨qb, 0, none⟩), .pointer (some ⟨pb, 0, none⟩)] (encF none) (fun _ _ => False) (fun xs => xs = []) (fun _ W => W.heap[qb]? = some (.cells #[.pointer none] 23 (0, 0))) := by
  intro l J W hJ hIn hY h0
  refine callsIn_of_wp_marks Try.func34 rfl trivial ?_ rfl
  refine wpIn_wide.2 ?_
  simp only [Try.ntmps34, List.size_toArray, List.length_cons, List.length_nil, Nat.reduceAdd, Nat.reduceSub, Array.replicate_succ, Array.replicate_zero, List.push_toArray, List.append_toArray, List.nil_append, List.cons_append]
  have HU1 := up_alloc W (.cells #[.func (.yield l) #[] #[]] 83)
  have HJ1 := Lib.hid (OwnFrom.up hJ h0 HU1)
  have b0 : (W.alloc (.cells #[.func (.yield l) #[] #[]] 83)).cell? ⟨qb, 0, none⟩ = some (.pointer none) := cell_of ((HU1.block _ (lt_of_blk (hIn _ _ h0))).trans (hIn _ _ h0)) rfl
  clear hJ hIn hY h0 HU1
  go_wp2_with fail
  show LeavesIn _ _ _ _ _ _ [] _ _
  exact ⟨_, results_none rfl _ _ _, ⟨_, rfl⟩, _, rfl, HJ1.out⟩
end Go.Proofs.Ytdlehchofmdjbaa
