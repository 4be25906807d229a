import Derived.Test.YtgcabidhpnaoiaaFgZ
import Derived.Test.YtgcabidhpnaoiaaSmP
import Derived.Test.YtgcabidhpnaoiaaStaged
import Derived.Test.YtgcabidhpnaoiaaLwN
namespace Go.Proofs.Ytgcabidhpnaoiaa
open Go Go.RowKit Go.Shelf Fg
set_option linter.unusedVariables false
set_option linter.unusedSimpArgs false
/-! FragPuts. -/
namespace Fg
theorem BX.noRB {base : Nat} {w : World} {b : Nat} {q1 q2 q3 : Option Nat} {l : List PcB} {m : List LtB} {nx : Nat → Nat} (h : BX base w b q1 q2 q3 l m nx) {d : Nat} {H W : Option Addr} {cH dW : Nat} {l2 : List PcB} {m2 : List LtB} {nx2 : Nat → Nat} (r : RB w d H cH l2 W dW m2 nx2) : ∀ k, BS b q1 q2 q3 k → ¬ (k = d ∨ blk? H = some k ∨ blk? W = some k) := by
  intro k hk e
  rcases e with e | e | e
  · rw [e] at hk; exact h.offC r.top (by decide) hk
  · exact h.off r.row (by decide) k (by rw [ownBlock_slice]; exact e) hk
  · exact h.off r.rowW (by decide) k (by rw [ownBlock_slice]; exact e) hk
theorem RB.outBX {base : Nat} {w w' : World} {b : Nat} {q1 q2 q3 : Option Nat} {l : List PcB} {m : List LtB} {nx : Nat → Nat} (h : BX base w b q1 q2 q3 l m nx) {d : Nat} {H W : Option Addr} {cH dW : Nat} {l2 : List PcB} {m2 : List LtB} {nx2 : Nat → Nat} (r : RB w d H cH l2 W dW m2 nx2) (ho : Out (BS b q1 q2 q3) w w') : RB w' d H cH l2 W dW m2 nx2 :=
  ⟨ho.blk r.top (h.offC r.top (by decide)), Out.own ho r.row (h.off r.row (by decide)), Out.own ho r.rowW (h.off r.rowW (by decide)), fun x hx => ⟨Out.own ho (r.by_ x hx).1 (h.off (r.by_ x hx).1 (by decide)), (r.by_ x hx).2⟩, fun x hx => ⟨Out.own ho (r.byW x hx).1 (h.off (r.byW x hx).1 (by decide)), (r.byW x hx).2⟩, r.bd⟩
theorem BX.outRB {base : Nat} {w w' : World} {b : Nat} {q1 q2 q3 : Option Nat} {l : List PcB} {m : List LtB} {nx : Nat → Nat} (h : BX base w b q1 q2 q3 l m nx) {d : Nat} {H W : Option Addr} {cH dW : Nat} {l2 : List PcB} {m2 : List LtB} {nx2 : Nat → Nat} (r : RB w d H cH l2 W dW m2 nx2) (ho : Out (fun k => k = d ∨ blk? H = some k ∨ blk? W = some k) w w') : BX base w' b q1 q2 q3 l m nx :=
  h.out ho (h.noRB r) (fun k _ ⟨cs, f, hk⟩ e => by
    rcases e with e | e | e
    · rw [e, r.top] at hk
      injection hk with hk; injection hk with _ hk; exact absurd hk (by decide)
    · rcases r.row.2 with ⟨h1, _⟩ | ⟨g, cap, cur, hv, _, hh, _⟩
      · injection h1 with h1; rw [h1] at e; cases e
      · injection hv with hv
        rw [hv] at e
        have : g = k := by simpa [blk?] using e
        rw [this, hk] at hh
        injection hh with hh; injection hh with _ hh; exact absurd hh (by decide)
    · rcases r.rowW.2 with ⟨h1, _⟩ | ⟨g, cap, cur, hv, _, hh, _⟩
      · injection h1 with h1; rw [h1] at e; cases e
      · injection hv with hv
        rw [hv] at e
        have : g = k := by simpa [blk?] using e
        rw [this, hk] at hh
        injection hh with hh; injection hh with _ hh; exact absurd hh (by decide))
/-- A row of messages of its own. -/
theorem own_inM {w : World} {B B' n c : Nat} {A : Option Addr} {l : List MsB} (hr : w.ownsRow B 32 2 (.slice A n c) n (l.flatMap mc)) (hb : ∀ x ∈ l, OwnI .u8 5 B' w x.A x.m.2.length x.c x.m.2 ∧ Byt x.m.2 ∧ x.m.2.length ≤ 131072) (hn : n = l.length) : InM w A n c l :=
  ⟨row_cells hr, fun x hx => own_inB (hb x hx).1 (hb x hx).2.1, hn.symm⟩
theorem PutR.le512 {B B' : Bx} {p : Pc} {r : Int} {ms : List (Nat × List Int)} (h : PutR B p r ms B') (hl : B.held.length ≤ 512) : B'.held.length ≤ 512 := by
  rcases h with ⟨_, _, _, rfl⟩ | ⟨_, _, _, _, rfl⟩ | ⟨_, _, _, _, _, rfl⟩ | ⟨_, _, h1, _, h⟩
  · exact hl
  · exact hl
  · exact hl
  · rcases h with ⟨_, _, h2, _⟩ | ⟨t, n, _, h2, _⟩
    · rw [h2.length_eq]; simp; omega
    · rw [h2.length_eq]
      have : (rest (p :: B.held) t n).length ≤ (p :: B.held).length := List.length_filter_le _ _
      simp at this
      omega
theorem RB.outC {w w' : World} {d : Nat} {H W : Option Addr} {cH dW : Nat} {l2 : List PcB} {m2 : List LtB} {nx2 : Nat → Nat} (r : RB w d H cH l2 W dW m2 nx2) {s T : Nat} {cs : Array Value} (ho : Out (fun k => k = s) w w') (hs : w.heap[s]? = some (.cells cs T (0, 0))) (h1 : T ≠ 48) (h2 : 90 ≠ T) (h3 : 5 ≠ T) (hH : ¬ blk? H = some s) : RB w' d H cH l2 W dW m2 nx2 := by
  have hd : d ≠ s := fun e => by
    have h4 := r.top
    rw [e, hs] at h4
    injection h4 with h4; injection h4 with _ h4; exact h1 h4
  exact ⟨ho.blk r.top hd, Out.own ho r.row (fun g hg e => hH (by rw [ownBlock_slice] at hg; rw [← e]; exact hg)), Out.own ho r.rowW (own_ne r.rowW hs h2), fun x hx => ⟨Out.own ho (r.by_ x hx).1 (own_ne (r.by_ x hx).1 hs h3), (r.by_ x hx).2⟩, fun x hx => ⟨Out.own ho (r.byW x hx).1 (own_ne (r.byW x hx).1 hs h3), (r.byW x hx).2⟩, r.bd⟩
theorem Turns.mlen {s : Nat} {W W' : List Lt} {nx nx' : Nat → Nat} {ms : List (Nat × List Int)} (h : Turns s W nx ms W' nx') : ms.length ≤ W.length := by
  induction h with
  | stop _ _ => simp
  | go x hx h1 h2 h ih =>
    rename_i W0 W0' n0 n0' ms0
    have h3 : (W0.filter fun y => !(decide (y.1 = s) && decide (y.2.1 = n0 s))).length < W0.length := List.length_filter_lt_length_iff_exists.2 ⟨x, hx, by simp [h1, h2]⟩
    simp only [List.length_cons]
    omega
theorem PutR.mlen {B B' : Bx} {p : Pc} {r : Int} {ms : List (Nat × List Int)} (h : PutR B p r ms B') : ms.length ≤ B.wait.length + 1 := by
  rcases h with ⟨_, _, rfl, _⟩ | ⟨_, _, _, rfl, _⟩ | ⟨_, _, _, _, rfl, _⟩ | ⟨_, _, h1, _, h⟩
  · simp
  · simp
  · simp
  · rcases h with ⟨_, rfl, _⟩ | ⟨t, n, _, _, h⟩
    · simp
    · rcases h with ⟨_, rfl, _⟩ | ⟨_, h⟩
      · simp
      · have h2 := h.mlen
        have h3 : (addW B.wait (p.st, p.sq, bytesOf (p :: B.held) t n)).length ≤ B.wait.length + 1 := by
          unfold addW
          split
          · omega
          · simp
        omega
structure FrameP (b d : Nat) (q1 q2 q3 : Option Nat) (H W : Option Addr) (w0 : World) : Prop where
  f1 : From w0.heap.size (BS b q1 q2 q3)
  f2 : From w0.heap.size (fun k => k = d ∨ blk? H = some k ∨ blk? W = some k)
end Fg
theorem x_not {P : Program} {o : Oper} {a : Act} {w : World} (x : Operand) (t : TypeId) {b : Bool} (ho : o.op = .unOp .not t x) (hx : a.eval x = .bool b) : (execOp a.eval o).run P w = .ok (.value (.bool (!b))) w := by
  have hr : (Op.unary .not (.bool b)).run P w = .ok (.bool (!b)) w := by simp [go_sem]
  simp [execOp, ho, hx, hr, Result.andThen]
theorem opS_callG {P : Program} {ops : Array Oper} {Φ : Nat → Value → World → Prop} {a0 : Act} {ws : List Nat} {W : Nat → World → Prop} {i : Nat} {o : Oper} (j : Nat) (b : Bool) (oj : Oper) (d : Tmp) (hg : o.guard = some (j, b)) (hin : (o.after.toList.any fun e => e.on == j && Region.binds .any e) = true) (hj : ops[j]? = some oj) (hdj : oj.dst = some d) (hv : ∀ v w, Φ j v w → v = .bool b) (hi : ws.contains i = false)
    (h : ∀ (L : Nat → Bool) (a : Act) (w : World), Stg ws W L w → L i = false → Closed ops L → (∀ t, oldB ops t = true → a.tmps.getD t undef = a0.tmps.getD t undef) →
      (∀ (j : Nat) (oj : Oper) (d : Tmp), (o.after.toList.any fun e => e.on == j && Region.binds .any e) = true → ops[j]? = some oj → oj.dst = some d → Φ j (a.tmps.getD d undef) w) → ∃ f args v, (execOp a.eval o).run P w = .ok (.enter f args) w ∧ Φ i v w ∧ Calls P f args w fun e w' => e = .returned v ∧ w' = w) : OpS P ops Φ (Stg ws W) a0 i o := by
  intro L a w hJ hl hc _ _ ho hd
  have hy := yielded_of (tmps := a.tmps) hj hdj (hv _ w (hd j oj d hin hj hdj))
  rw [if_pos (by simp [Region.wanted, hg, hy])]
  obtain ⟨f, args, v, hr, hv, hcall⟩ := h L a w hJ hl hc ho hd
  unfold Oper.wp
  rw [hr]
  refine Calls.mono hcall fun e w' ⟨he, hw⟩ => ?_
  subst he
  subst hw
  exact ⟨⟨v, rfl, hv⟩, hJ.same hi (fun _ h => h), fun _ _ _ h => h⟩
theorem run_neq36 (a b : Int) (v : Bool) (h : (a != b) = v) (w : World) : (binOp .neq 36 (.int .i64 a) (.int .i64 b)).run Try.prog w = .ok (.bool v) w := by subst h; simp [go_sem]
theorem run_neq3 (a b : Int) (v : Bool) (h : (a != b) = v) (w : World) : (binOp .neq 3 (.int .i64 a) (.int .i64 b)).run Try.prog w = .ok (.bool v) w := by subst h; simp [go_sem]
theorem grdN (x y : Operand) (a b : Int) (w : World) : (eqGuard .neq 36 x y (.int .i64 a) (.int .i64 b)).run Try.prog w = .ok () w := by kernel_rfl
theorem grdN3 (x y : Operand) (a b : Int) (w : World) : (eqGuard .neq 3 x y (.int .i64 a) (.int .i64 b)).run Try.prog w = .ok () w := by kernel_rfl
theorem fl48_0 (b o : Nat) (w : World) : (Instr.fieldAt 48 (.pointer (some ⟨b, o, none⟩)) 0).run Try.prog w = .ok (.pointer (some ⟨b, o, none⟩)) w := by kernel_rfl
theorem agg35 (w : World) : (isAgg 35).run Try.prog w = .ok false w := by kernel_rfl
set_option maxRecDepth 100000 in
set_option maxHeartbeats 4000000 in
theorem law_puts (A : Option Addr) (n c : Nat) (l : List PcB) (w : World) (hA : InP w A n c l) (hbd : ∀ x ∈ l, x.p.bs.length ≤ 140737488351232 ∧ x.p.tsn < 4294967296 ∧ x.p.st < 65536 ∧ x.p.sq < 65536) :
    Calls Try.prog 4 #[.slice A n c] w (RetB true w) := by
  have HA := Lib.hid hA
  have HBD := Lib.hid hbd
  clear hA hbd
  go_enter Try.func4, Try.ntmps4
  go_wp2_with fail
  refine (newbox_any 0 w).mono ?_
  rintro e w1 ⟨rfl, HC1, HU1⟩
  have hb1 := lt_of_blk HC1.out.top
  obtain ⟨b, hb⟩ : ∃ b, b = w.heap.size := ⟨_, rfl⟩
  rw [← hb] at HC1 hb1 ⊢
  have HBW := Lib.hid hb
  clear hb
  go_upto_region 2 with (fail)
  have HD2 : Hid (RB (w1.alloc (.cells #[.slice none 0 0, .slice none 0 0, .int .u16 0, .int .u16 0, .int .u16 0, .int .u16 0, .int .u16 0, .int .u16 0, .int .u16 0, .int .u16 0] 48)) w1.heap.size none 0 [] none 0 [] (fun _ => 0)) := Lib.hid ⟨new_at w1 (.cells #[.slice none 0 0, .slice none 0 0, .int .u16 0, .int .u16 0, .int .u16 0, .int .u16 0, .int .u16 0, .int .u16 0, .int .u16 0, .int .u16 0] 48), World.ownsRow_nil _ _ _ _, World.ownsRow_nil _ _ _ _, by simp, by simp, by simp⟩
  have HU2 := Lib.hid (up_alloc w1 (.cells #[.slice none 0 0, .slice none 0 0, .int .u16 0, .int .u16 0, .int .u16 0, .int .u16 0, .int .u16 0, .int .u16 0, .int .u16 0, .int .u16 0] 48))
  generalize w1.alloc (.cells #[.slice none 0 0, .slice none 0 0, .int .u16 0, .int .u16 0, .int .u16 0, .int .u16 0, .int .u16 0, .int .u16 0, .int .u16 0, .int .u16 0] 48) = w2 at HD2 HU2 ⊢
  have hd1 : w.heap.size ≤ w1.heap.size := HU1.out.size
  generalize w1.heap.size = d at HD2 hd1 ⊢
  have HC2 := Lib.hid (HC1.out.up HU2.out)
  have HUU := Lib.hid (HU1.out.trans HU2.out)
  have HF0 : Hid (FrameP b d none none none none none w) := Lib.hid (by
    refine ⟨fun k hk => ?_, fun k hk => ?_⟩
    · rcases hk with h | h | h | h
      · rw [h, HBW.out]; exact Nat.le_refl _
      all_goals cases h
    · rcases hk with h | h | h
      · rw [h]; exact hd1
      all_goals cases h)
  clear HC1 HU1 HU2 hb1
  go_wp2_with fail
  go_loopw [5] (fun iv wr => ∃ (i : Nat) (q1 q2 q3 : Option Nat) (H W : Option Addr) (cH dW : Nat) (l1 l2 : List PcB) (m1 m2 : List LtB) (nx1 nx2 : Nat → Nat), iv = .int .i64 (i : Int) ∧ i ≤ n ∧ i ≤ 60 ∧ m1.length ≤ i ∧ m2.length ≤ i ∧ l1.length ≤ 512 ∧ Hid (BX 0 wr b q1 q2 q3 l1 m1 nx1) ∧ Hid (RB wr d H cH l2 W dW m2 nx2) ∧ Hid (Same ⟨ps l1, ts m1, nx1⟩ ⟨ps l2, ts m2, nx2⟩) ∧ Hid (FrameP b d q1 q2 q3 H W w) ∧ Hid ((∀ s, nx1 s < 65536) ∧ (∀ y ∈ l2, y.p.bs.length ≤ 256) ∧ (∀ y ∈ m2, y.x.2.2.length ≤ 131072)) ∧ Hid (Up w wr)) (fun iv _ => 60 - (intOf iv).toNat)
  case atStart => exact ⟨0, none, none, none, none, none, 0, 0, [], [], [], [], fun _ => 0, fun _ => 0, rfl, by omega, by omega, by simp, by simp, by simp, HC2, HD2, Lib.hid ⟨List.Perm.refl _, List.Perm.refl _, rfl⟩, Lib.hid ⟨HF0.out.f1, HF0.out.f2⟩, Lib.hid ⟨by simp, by simp, by simp⟩, HUU⟩
  case round =>
    obtain ⟨i, q1, q2, q3, H, W, cH, dW, l1, l2, m1, m2, nx1, nx2, rfl, hin, hi60, hm1, hm2, hl1, hB, hR, hS, hF, hX, hU⟩ := hrel
    by_cases hlt : i < n ∧ i < 60
    · obtain ⟨hl3, hl4⟩ := hlt
      have d1 : decide ((i : Int) < (n : Int)) = true := by simp; omega
      have d2 : decide ((i : Int) < 60) = true := by simp; omega
      have hiI : (i : Int) < (n : Int) := by omega
      obtain ⟨x, g, o, hx, hgo, hc, hxb⟩ := (HA.out.up hU.out).at_ hl3
      subst hgo
      have HXD := Lib.hid (HBD.out x (List.mem_of_getElem? hx))
      have HX0 := Lib.hid (HA.out.by_ x (List.mem_of_getElem? hx))
      have HXI := Lib.hid hx
      have k0 : wr.cell? ⟨g, o + i * 7, none⟩ = some (.int .u32 x.p.tsn) := hc 0 _ rfl
      have k1 : wr.cell? ⟨g, o + i * 7 + 1, none⟩ = some (.int .u16 x.p.st) := hc 1 _ rfl
      have k2 : wr.cell? ⟨g, o + i * 7 + 2, none⟩ = some (.int .u16 x.p.sq) := hc 2 _ rfl
      have k3 : wr.cell? ⟨g, o + i * 7 + 3, none⟩ = some (.bool x.p.bg) := hc 3 _ rfl
      have k4 : wr.cell? ⟨g, o + i * 7 + 4, none⟩ = some (.bool x.p.en) := hc 4 _ rfl
      have k5 : wr.cell? ⟨g, o + i * 7 + 5, none⟩ = some (.bool x.p.un) := hc 5 _ rfl
      have k6 : wr.cell? ⟨g, o + i * 7 + 6, none⟩ = some (.slice x.A x.p.bs.length x.c) := hc 6 _ rfl
      have HXB0 := Lib.hid hxb
      have hxl := HXD.out.1
      clear hx hc hxb
      obtain ⟨nb, hnb⟩ : ∃ nb, nb = x.p.bs.length := ⟨_, rfl⟩
      rw [← hnb] at k6 hxl
      have HXB : Hid (InB wr x.A nb x.c x.p.bs) := Lib.hid (by have := HXB0.out; rwa [← hnb] at this)
      have HNB := Lib.hid hnb
      clear hnb
      go_upto_region 6 with (fail)
      have M5 := Lib.hid (new_at wr (.cells #[.int .u32 x.p.tsn, .int .u16 x.p.st, .int .u16 x.p.sq, .bool x.p.bg, .bool x.p.en, .bool x.p.un, .slice x.A nb x.c] 51))
      have U5 := Lib.hid (up_alloc wr (.cells #[.int .u32 x.p.tsn, .int .u16 x.p.st, .int .u16 x.p.sq, .bool x.p.bg, .bool x.p.en, .bool x.p.un, .slice x.A nb x.c] 51))
      clear k0 k1 k2 k3 k4 k5 k6
      generalize wr.alloc (.cells #[.int .u32 x.p.tsn, .int .u16 x.p.st, .int .u16 x.p.sq, .bool x.p.bg, .bool x.p.en, .bool x.p.un, .slice x.A nb x.c] 51) = w5 at M5 U5 ⊢
      have hs5 : w.heap.size ≤ wr.heap.size := hU.out.size
      generalize hse : wr.heap.size = s5 at M5 hs5 ⊢
      have X5 := Lib.hid (HXB.out.up U5.out)
      have B5 := Lib.hid (hB.out.up U5.out)
      have R5 := Lib.hid (hR.out.up U5.out)
      have HU5 := Lib.hid (hU.out.trans U5.out)
      have b6 : w5.cell? ⟨s5, 6, none⟩ = some (.slice x.A nb x.c) := cell_of M5.out rfl
      have b6a : (w5.alloc (.cells #[] 5)).cell? ⟨s5, 6, none⟩ = some (.slice x.A nb x.c) := cell_up b6 (up_alloc w5 _)
      go_upto_region 7 with (at_builtin; refine wpList_appendI rfl (.tmp 28) (.tmp 30) 30 rfl .u8 w5.heap.size 5 1 Try.underlying30 info5 (some ⟨w5.heap.size, 0, none⟩) 0 0 [] rfl (ownI_new _ _ _) x.A nb x.c x.p.bs rfl X5.out.len (X5.out.cells.alloc _) (by omega) (by omega) (by simp) ((Below.refl _ _).alloc (Nat.le_refl _) _) ?_; intro A6 N6 c6 w6 HN6 HW6 HU6 hsz6; have M6 := Lib.hid ((HU6.out.block _ (lt_of_blk M5.out)).trans M5.out); have b6' : w6.cell? ⟨s5, 6, none⟩ = some (.slice x.A nb x.c) := cell_of M6.out rfl; have f6' : w6.frozen? ⟨s5, 6, none⟩ = false := frozen_at M6.out)
      have hN6 : N6 = nb := by have := HN6.out; omega
      subst hN6
      have M7 := Lib.hid (setCell_at (j := 6) (.slice A6 N6 c6) M6.out)
      have O7 := setCell_out w6 s5 6 (.slice A6 N6 c6)
      have B6 := B5.out.up HU6.out
      have R6 := R5.out.up HU6.out
      have B7 := Lib.hid (B6.out O7 (fun k hk e => B6.offC M6.out (by decide) (by rw [← e]; exact hk)) (fun k _ ⟨cs, f, h⟩ e => by
        rw [e, M6.out] at h
        injection h with h; injection h with _ h; exact absurd h (by decide)))
      have hHs : ¬ blk? H = some s5 := fun e => by have h2 := (row_lt hR.out.row e).2; omega
      have R7 := Lib.hid (R6.outC O7 M6.out (by decide) (by decide) (by decide) hHs)
      have HU7 : Hid (Up w (w6.setCell ⟨s5, 6, none⟩ (.slice A6 N6 c6))) := Lib.hid (Below.out (HU5.out.trans HU6.out) O7 (fun k hk => by rw [hk]; exact hs5) (HU5.out.trans HU6.out).size)
      have W7 : Hid (InB (w6.setCell ⟨s5, 6, none⟩ (.slice A6 N6 c6)) A6 N6 c6 x.p.bs) := Lib.hid (own_inB (by have h := Out.own O7 HW6.out (own_ne HW6.out M6.out (by decide)); rw [List.nil_append] at h; exact h) X5.out.byt)
      clear B6 R6 O7 hHs M5 U5 X5 B5 R5 b6 b6a b6' f6' HU6 HW6 hsz6 M6 HN6 HU5
      generalize w6.setCell ⟨s5, 6, none⟩ (.slice A6 N6 c6) = w7 at M7 B7 R7 HU7 W7 ⊢
      have hz7 : w.heap.size ≤ w7.heap.size := HU7.out.size
      have k0 : w7.cell? ⟨s5, 0, none⟩ = some (.int .u32 x.p.tsn) := cell_of M7.out rfl
      have k1 : w7.cell? ⟨s5, 1, none⟩ = some (.int .u16 x.p.st) := cell_of M7.out rfl
      have k2 : w7.cell? ⟨s5, 2, none⟩ = some (.int .u16 x.p.sq) := cell_of M7.out rfl
      have k3 : w7.cell? ⟨s5, 3, none⟩ = some (.bool x.p.bg) := cell_of M7.out rfl
      have k4 : w7.cell? ⟨s5, 4, none⟩ = some (.bool x.p.en) := cell_of M7.out rfl
      have k5 : w7.cell? ⟨s5, 5, none⟩ = some (.bool x.p.un) := cell_of M7.out rfl
      have k6 : w7.cell? ⟨s5, 6, none⟩ = some (.slice A6 N6 c6) := cell_of M7.out rfl
      go_wp2_with fail
      refine (put_any 0 b x.p.tsn x.p.st x.p.sq N6 c6 x.p.bg x.p.en x.p.un A6 x.p.bs q1 q2 q3 l1 m1 nx1 w7 B7.out W7.out hxl HXD.out.2.1 HXD.out.2.2.1 HXD.out.2.2.2 hX.out.1 (by omega) (by omega)).mono ?_
      rintro e w8 ⟨r8, A8, N8, c8, ms8, p1, p2, p3, l8, m8, nx8, rfl, HP⟩
      have R8 := Lib.hid (RB.outBX B7.out R7.out HP.out.out)
      have HU8 : Hid (Up w w8) := Lib.hid (Below.out HU7.out HP.out.out hF.out.f1 hz7)
      have hz8 : w.heap.size ≤ w8.heap.size := HU8.out.size
      have HA8 := HA.out.up HU8.out
      clear k0 k1 k2 k3 k4 k5 k6
      obtain ⟨x', g', o', hx', hgo', hc', hxb'⟩ := HA8.at_ hl3
      have hxx : x' = x := by rw [HXI.out] at hx'; exact (Option.some.inj hx').symm
      subst hxx
      have hgg : g' = g ∧ o' = o := by injection hgo' with h; injection h with h1 h2; exact ⟨h1.symm, h2.symm⟩
      obtain ⟨hg1, ho1⟩ := hgg
      subst hg1
      subst ho1
      have k0 : w8.cell? ⟨g', o' + i * 7, none⟩ = some (.int .u32 x'.p.tsn) := hc' 0 _ rfl
      have k1 : w8.cell? ⟨g', o' + i * 7 + 1, none⟩ = some (.int .u16 x'.p.st) := hc' 1 _ rfl
      have k2 : w8.cell? ⟨g', o' + i * 7 + 2, none⟩ = some (.int .u16 x'.p.sq) := hc' 2 _ rfl
      have k3 : w8.cell? ⟨g', o' + i * 7 + 3, none⟩ = some (.bool x'.p.bg) := hc' 3 _ rfl
      have k4 : w8.cell? ⟨g', o' + i * 7 + 4, none⟩ = some (.bool x'.p.en) := hc' 4 _ rfl
      have k5 : w8.cell? ⟨g', o' + i * 7 + 5, none⟩ = some (.bool x'.p.un) := hc' 5 _ rfl
      have k6 : w8.cell? ⟨g', o' + i * 7 + 6, none⟩ = some (.slice x'.A N6 x'.c) := by rw [HNB.out]; exact hc' 6 _ rfl
      have X8 : Hid (InB w8 x'.A N6 x'.c x'.p.bs) := Lib.hid (by rw [HNB.out]; exact hxb')
      have hok := hB.out.ok.1
      have hok2 : Apart (ps l2) ∧ KApart (ts m2) := ⟨hok.held.perm hS.out.held, hok.wait.perm hS.out.wait⟩
      have hl2 : l2.length = l1.length := by have := hS.out.held.length_eq; simpa [ps] using this.symm
      have hnx2 : nx1 = nx2 := hS.out.next
      have HO2 := Lib.hid hok2
      clear hc' hx' hgo' hxb' hok hok2 HA8
      go_wp2_with fail
      refine (rput_any d x'.p.tsn x'.p.st x'.p.sq N6 x'.c x'.p.bg x'.p.en x'.p.un x'.A H W cH dW nx2 l2 m2 x'.p.bs w8 R8.out X8.out hxl HXD.out.2.1 HXD.out.2.2.2 HO2.out.1 HO2.out.2 hX.out.2.1 hX.out.2.2 (by rw [← hnx2]; exact hX.out.1) (by omega) (by omega)).mono ?_
      rintro e w9 ⟨r9, A9, N9, c9, ms9, H9, cH9, l9, W9, d9, m9, nx9, rfl, HQ⟩
      obtain ⟨hr, hms, hsame⟩ := PutR.det hB.out.ok.1 HXD.out.2.1 hS.out HP.out.put HQ.out.put
      subst hr
      have B9 := Lib.hid (BX.outRB HP.out.bx R8.out HQ.out.out)
      have HU9 : Hid (Up w w9) := Lib.hid (Below.out HU8.out HQ.out.out hF.out.f2 hz8)
      have HF9 : Hid (FrameP b d p1 p2 p3 H9 W9 w) := Lib.hid (by
        refine ⟨hF.out.f1.sub HP.out.sub hz7, fun k hk => ?_⟩
        rcases hk with h | h | h
        · exact hF.out.f2 k (.inl h)
        · rcases HQ.out.subH k h with h2 | h2
          · exact hF.out.f2 k (.inr (.inl h2))
          · omega
        · rcases HQ.out.subW k h with h2 | h2
          · exact hF.out.f2 k (.inr (.inr h2))
          · omega)
      have IM9 : Hid (InM w9 A9 N9 c9 ms9) := Lib.hid (own_inM HQ.out.row HQ.out.by_ HQ.out.len)
      have IM8 : Hid (InM w9 A8 N8 c8 ms8) := Lib.hid (by
        have hne : ∀ {B e s n c : Nat} {A : Option Addr} {zs : List Value}, w8.ownsRow B e s (.slice A n c) n zs → e ≠ 48 → e ≠ 51 → e ≠ 90 → w9.ownsRow B e s (.slice A n c) n zs := fun {B e s n c A zs} h h1 h2 h3 => Out.own HQ.out.out h (fun g hg e => by
          rcases e with e | e | e
          · exact own_ne h R8.out.top h1 g hg e
          · exact rows_ne h R8.out.row h2 g hg (by rw [ownBlock_slice]; exact e)
          · exact rows_ne h R8.out.rowW h3 g hg (by rw [ownBlock_slice]; exact e))
        exact own_inM (hne HP.out.row (by decide) (by decide) (by decide)) (fun y hy => ⟨hne (HP.out.by_ y hy).1 (by decide) (by decide) (by decide), (HP.out.by_ y hy).2⟩) HP.out.len)
      have hN8 : N8 ≤ 100000 := by
        have h1 := HP.out.put.mlen
        rw [HP.out.len]
        simp [ts] at h1
        omega
      have hN9 : N9 ≤ 100000 := by
        have h1 := HQ.out.put.mlen
        rw [HQ.out.len]
        simp [ts] at h1
        omega
      have R9 := Lib.hid HQ.out.rb
      have hl8 : l8.length ≤ 512 := by have := PutR.le512 HP.out.put (by unfold ps; simpa using hl1); simpa [ps] using this
      have hl9 : l9.length = l8.length := by have := hsame.held.length_eq; simpa [ps] using this.symm
      have hm8 := HP.out.le
      have hm9 := HQ.out.le
      have HS9 := Lib.hid hsame
      have HX9 : Hid ((∀ s, nx8 s < 65536) ∧ (∀ y ∈ l9, y.p.bs.length ≤ 256) ∧ (∀ y ∈ m9, y.x.2.2.length ≤ 131072)) := Lib.hid ⟨HP.out.lt, HQ.out.l256, HQ.out.mW⟩
      have HMS := Lib.hid (show decide (ms8.map (·.m) = ms9.map (·.m)) = true from decide_eq_true hms)
      clear HP HQ k0 k1 k2 k3 k4 k5 k6 hms hsame
      have kd : w9.cell? ⟨d, 0, none⟩ = some (.slice H9 l8.length cH9) := by
        have h1 : w9.cell? ⟨d, 0, none⟩ = some (.slice H9 l9.length cH9) := cell_of R9.out.top rfl
        rw [h1, hl9]
      have kdd := fun w' (hu : Up w9 w') => cell_up kd hu
      generalize hL8 : l8.length = L8 at kd hl8 kdd
      have HL8 := Lib.hid hL8
      clear hL8
      go_upto_region 11 with (fail)
      go_cut [68] (fun v wx => v = .bool false ∧ Hid (Up w9 wx))
      case first =>
        have HK : ∀ φ ∈ [Is (.slice A8 N8 c8), Is (.slice A9 N9 c9), Is (.bool true), Is (.bool false), Is (.bool false), Is (.int .i64 r8), Is (.int .i64 r8), Is (.bool false), Is (.bool false), Is (.bool false), Is (.pointer (some ⟨b, 0, none⟩)), Is (.int .i64 (L8 : Int)), Is (.pointer (some ⟨d, 0, none⟩)), Is (.pointer (some ⟨d, 0, none⟩)), Is (.pointer (some ⟨d, 0, none⟩)), Is (.slice H9 L8 cH9), Is (.int .i64 (L8 : Int)), Is (.bool false), Is (.bool false)], Keeps φ := by
          intro φ hφ
          simp only [List.mem_cons, List.mem_nil_iff, or_false] at hφ
          rcases hφ with rfl | rfl | rfl | rfl | rfl | rfl | rfl | rfl | rfl | rfl | rfl | rfl | rfl | rfl | rfl | rfl | rfl | rfl | rfl <;> exact keeps_is _
        refine staged_lit (by kernel_rfl) (facts [Is (.slice A8 N8 c8), Is (.slice A9 N9 c9), Is (.bool true), Is (.bool false), Is (.bool false), Is (.int .i64 r8), Is (.int .i64 r8), Is (.bool false), Is (.bool false), Is (.bool false), Is (.pointer (some ⟨b, 0, none⟩)), Is (.int .i64 (L8 : Int)), Is (.pointer (some ⟨d, 0, none⟩)), Is (.pointer (some ⟨d, 0, none⟩)), Is (.pointer (some ⟨d, 0, none⟩)), Is (.slice H9 L8 cH9), Is (.int .i64 (L8 : Int)), Is (.bool false), Is (.bool false)]) (Stg [] (fun _ wx => Up w9 wx)) 70 rfl (by decide +kernel) (by decide +kernel) (Stg.start (Up.drew w9)) ?_ ?_
        · refine ⟨?_, ?_, ?_, ?_, ?_, ?_, ?_, ?_, ?_, ?_, ?_, ?_, ?_, ?_, ?_, ?_, ?_, ?_, ?_, trivial⟩
          · refine opS_same rfl rfl fun L ac w1 hJ hl hc ho hd => ?_
            have s7 : ac.eval (.tmp 7) = .slice A8 N8 c8 := ho 7 rfl
            exact ⟨_, x_move (.tmp 7) rfl s7, rfl⟩
          · refine opS_same rfl rfl fun L ac w1 hJ hl hc ho hd => ?_
            have s9 : ac.eval (.tmp 9) = .slice A9 N9 c9 := ho 9 rfl
            exact ⟨_, x_move (.tmp 9) rfl s9, rfl⟩
          · refine opS_callUp rfl rfl (fun k wa wb h hu => Up.trans h hu) (facts_keep HK) fun L ac w1 hJ hl hc ho hd => ?_
            have d0 : ac.eval (.tmp 50) = .slice A8 N8 c8 := hd 0 _ _ rfl rfl rfl
            have d1 : ac.eval (.tmp 51) = .slice A9 N9 c9 := hd 1 _ _ rfl rfl rfl
            obtain ⟨_, _, hU⟩ := hJ
            refine ⟨18, _, x_fcall 18 [.tmp 50, .tmp 51] _ rfl (by kernel_rfl), ?_⟩
            simp only [List.map_cons, List.map_nil, d0, d1]
            refine (sameM A8 A9 N8 c8 N9 c9 ms8 ms9 w1 (IM8.out.up hU) (IM9.out.up hU) (by omega) (by omega)).mono fun e w2 ⟨he, hu⟩ => ⟨_, he, hu.out, ?_⟩
            rw [HMS.out]; rfl
          · refine opS_same rfl rfl fun L ac w1 hJ hl hc ho hd => ?_
            have d2 : ac.eval (.tmp 52) = .bool true := hd 2 _ _ rfl rfl rfl
            exact ⟨_, x_not (.tmp 52) 4 rfl d2, rfl⟩
          · refine opS_same rfl rfl fun L ac w1 hJ hl hc ho hd => ?_
            have d3 : ac.eval (.tmp 53) = .bool false := hd 3 _ _ rfl rfl rfl
            exact ⟨_, x_move (.tmp 53) rfl d3, rfl⟩
          · refine opS_sameG 4 false _ _ rfl rfl rfl rfl (fun _ _ h => h) rfl fun L ac w1 hJ hl hc ho hd => ?_
            have s8 : ac.eval (.tmp 8) = .int .i64 r8 := ho 8 rfl
            exact ⟨_, x_move (.tmp 8) rfl s8, rfl⟩
          · refine opS_sameG 4 false _ _ rfl rfl rfl rfl (fun _ _ h => h) rfl fun L ac w1 hJ hl hc ho hd => ?_
            have s10 : ac.eval (.tmp 10) = .int .i64 r8 := ho 10 rfl
            exact ⟨_, x_move (.tmp 10) rfl s10, rfl⟩
          · refine opS_sameG 4 false _ _ rfl rfl rfl rfl (fun _ _ h => h) rfl fun L ac w1 hJ hl hc ho hd => ?_
            have d5 : ac.eval (.tmp 55) = .int .i64 r8 := hd 5 _ _ rfl rfl rfl
            have d6 : ac.eval (.tmp 56) = .int .i64 r8 := hd 6 _ _ rfl rfl rfl
            exact ⟨_, x_bin .neq 36 36 (.tmp 55) (.tmp 56) rfl d5 d6 (grdN _ _ _ _ _) (run_neq36 _ _ _ (by simp) _), rfl⟩
          · refine opS_same rfl rfl fun L ac w1 hJ hl hc ho hd => ?_
            have d4 : ac.eval (.tmp 54) = .bool false := hd 4 _ _ rfl rfl rfl
            have d7 : ac.eval (.tmp 57) = .bool false := hd 7 _ _ rfl rfl rfl
            exact ⟨_, x_pick (.tmp 54) (.const (.bool true)) (.tmp 57) (b := false) (X := .bool true) rfl d4 (fun h => absurd h (by decide)) (fun _ => d7), rfl⟩
          · refine opS_same rfl rfl fun L ac w1 hJ hl hc ho hd => ?_
            have d8 : ac.eval (.tmp 58) = .bool false := hd 8 _ _ rfl rfl rfl
            exact ⟨_, x_move (.tmp 58) rfl d8, rfl⟩
          · refine opS_sameG 9 false _ _ rfl rfl rfl rfl (fun _ _ h => h) rfl fun L ac w1 hJ hl hc ho hd => ?_
            have s3 : ac.eval (.tmp 3) = .pointer (some ⟨b, 0, none⟩) := ho 3 rfl
            exact ⟨_, x_move (.tmp 3) rfl s3, rfl⟩
          · refine opS_callG 9 false _ _ rfl rfl rfl rfl (fun _ _ h => h) rfl fun L ac w1 hJ hl hc ho hd => ?_
            have d10 : ac.eval (.tmp 60) = .pointer (some ⟨b, 0, none⟩) := hd 10 _ _ rfl rfl rfl
            obtain ⟨_, _, hU⟩ := hJ
            refine ⟨19, _, .int .i64 (L8 : Int), x_fcall 19 [.tmp 60] _ rfl (by kernel_rfl), rfl, ?_⟩
            simp only [List.map_cons, List.map_nil, d10]
            refine (held_any (B9.out.up hU)).mono fun e w2 ⟨he, hw⟩ => ⟨?_, hw⟩
            rw [he, HL8.out]
          · refine opS_sameG 9 false _ _ rfl rfl rfl rfl (fun _ _ h => h) rfl fun L ac w1 hJ hl hc ho hd => ?_
            have s4 : ac.eval (.tmp 4) = .pointer (some ⟨d, 0, none⟩) := ho 4 rfl
            exact ⟨_, x_move (.tmp 4) rfl s4, rfl⟩
          · refine opS_sameG 9 false _ _ rfl rfl rfl rfl (fun _ _ h => h) rfl fun L ac w1 hJ hl hc ho hd => ?_
            have d12 : ac.eval (.tmp 62) = .pointer (some ⟨d, 0, none⟩) := hd 12 _ _ rfl rfl rfl
            exact ⟨_, x_nil (.tmp 62) rfl d12, rfl⟩
          · refine opS_sameG 9 false _ _ rfl rfl rfl rfl (fun _ _ h => h) rfl fun L ac w1 hJ hl hc ho hd => ?_
            have d13 : ac.eval (.tmp 63) = .pointer (some ⟨d, 0, none⟩) := hd 13 _ _ rfl rfl rfl
            exact ⟨_, x_field 48 (.tmp 63) 0 rfl d13 (fl48_0 _ _ _), rfl⟩
          · refine opS_sameG 9 false _ _ rfl rfl rfl rfl (fun _ _ h => h) rfl fun L ac w1 hJ hl hc ho hd => ?_
            have d14 : ac.eval (.tmp 64) = .pointer (some ⟨d, 0, none⟩) := hd 14 _ _ rfl rfl rfl
            obtain ⟨_, _, hU⟩ := hJ
            exact ⟨_, x_load 35 (.tmp 64) rfl d14 (run_load1 agg35 (cell_up kd hU)), rfl⟩
          · refine opS_sameG 9 false _ _ rfl rfl rfl rfl (fun _ _ h => h) rfl fun L ac w1 hJ hl hc ho hd => ?_
            have d15 : ac.eval (.tmp 65) = .slice H9 L8 cH9 := hd 15 _ _ rfl rfl rfl
            exact ⟨_, x_len (.tmp 65) 35 51 rfl Try.underlying35 d15, rfl⟩
          · refine opS_sameG 9 false _ _ rfl rfl rfl rfl (fun _ _ h => h) rfl fun L ac w1 hJ hl hc ho hd => ?_
            have d11 : ac.eval (.tmp 61) = .int .i64 (L8 : Int) := hd 11 _ _ rfl rfl rfl
            have d16 : ac.eval (.tmp 66) = .int .i64 (L8 : Int) := hd 16 _ _ rfl rfl rfl
            exact ⟨_, x_bin .neq 3 3 (.tmp 61) (.tmp 66) rfl d11 d16 (grdN3 _ _ _ _ _) (run_neq3 _ _ _ (by simp) _), rfl⟩
          · refine opS_same rfl rfl fun L ac w1 hJ hl hc ho hd => ?_
            have d9 : ac.eval (.tmp 59) = .bool false := hd 9 _ _ rfl rfl rfl
            have d17 : ac.eval (.tmp 67) = .bool false := hd 17 _ _ rfl rfl rfl
            exact ⟨_, x_pick (.tmp 59) (.const (.bool true)) (.tmp 67) (b := false) (X := .bool true) rfl d9 (fun h => absurd h (by decide)) (fun _ => d17), rfl⟩
        · intro L a1 wF hI hall
          obtain ⟨j, hj, hUF⟩ := hI.done hall (by simp)
          have HUF := Lib.hid hUF
          clear hj hUF j HK
          have l0 : a1.tmps.getD 0 undef = .slice (some ⟨g', o', none⟩) n c := hI.old 0 rfl
          have l1 : a1.tmps.getD 1 undef = undef := hI.old 1 rfl
          have l2 : a1.tmps.getD 2 undef = u2 := hI.old 2 rfl
          have l3 : a1.tmps.getD 3 undef = .pointer (some ⟨b, 0, none⟩) := hI.old 3 rfl
          have l4 : a1.tmps.getD 4 undef = .pointer (some ⟨d, 0, none⟩) := hI.old 4 rfl
          have l5 : a1.tmps.getD 5 undef = .int .i64 (i : Int) := hI.old 5 rfl
          have l6 : a1.tmps.getD 6 undef = .pointer (some ⟨s5, 0, none⟩) := hI.old 6 rfl
          have l7 : a1.tmps.getD 7 undef = .slice A8 N8 c8 := hI.old 7 rfl
          have l8 : a1.tmps.getD 8 undef = .int .i64 r8 := hI.old 8 rfl
          have l9 : a1.tmps.getD 9 undef = .slice A9 N9 c9 := hI.old 9 rfl
          have l10 : a1.tmps.getD 10 undef = .int .i64 r8 := hI.old 10 rfl
          have l11 : a1.tmps.getD 11 undef = .pointer (some ⟨b, 0, none⟩) := hI.old 11 rfl
          have l12 : a1.tmps.getD 12 undef = .agg #[.slice none 0 0, .slice none 0 0, .int .u16 0, .int .u16 0, .int .u16 0, .int .u16 0, .int .u16 0, .int .u16 0, .int .u16 0, .int .u16 0] := hI.old 12 rfl
          have l13 : a1.tmps.getD 13 undef = .pointer (some ⟨d, 0, none⟩) := hI.old 13 rfl
          have l14 : a1.tmps.getD 14 undef = .int .i64 (i : Int) := hI.old 14 rfl
          have l15 : a1.tmps.getD 15 undef = .slice (some ⟨g', o', none⟩) n c := hI.old 15 rfl
          have l16 : a1.tmps.getD 16 undef = .int .i64 (n : Int) := hI.old 16 rfl
          have l17 : a1.tmps.getD 17 undef = .bool true := hI.old 17 rfl
          have l18 : a1.tmps.getD 18 undef = .bool true := hI.old 18 rfl
          have l19 : a1.tmps.getD 19 undef = .int .i64 (i : Int) := hI.old 19 rfl
          have l20 : a1.tmps.getD 20 undef = .bool true := hI.old 20 rfl
          have l21 : a1.tmps.getD 21 undef = .bool true := hI.old 21 rfl
          have l22 : a1.tmps.getD 22 undef = u22 := hI.old 22 rfl
          have l23 : a1.tmps.getD 23 undef = u23 := hI.old 23 rfl
          have l24 : a1.tmps.getD 24 undef = .slice (some ⟨g', o', none⟩) n c := hI.old 24 rfl
          have l25 : a1.tmps.getD 25 undef = .int .i64 (i : Int) := hI.old 25 rfl
          have l26 : a1.tmps.getD 26 undef = .pointer (some ⟨g', o' + i * 7, none⟩) := hI.old 26 rfl
          have l27 : a1.tmps.getD 27 undef = .agg #[.int .u32 (x'.p.tsn : Int), .int .u16 (x'.p.st : Int), .int .u16 (x'.p.sq : Int), .bool x'.p.bg, .bool x'.p.en, .bool x'.p.un, .slice x'.A N6 x'.c] := hI.old 27 rfl
          have l28 : a1.tmps.getD 28 undef = .slice (some ⟨w5.heap.size, 0, none⟩) 0 0 := hI.old 28 rfl
          have l29 : a1.tmps.getD 29 undef = .pointer (some ⟨s5, 6, none⟩) := hI.old 29 rfl
          have l30 : a1.tmps.getD 30 undef = .slice x'.A N6 x'.c := hI.old 30 rfl
          have l31 : a1.tmps.getD 31 undef = .slice A6 N6 c6 := hI.old 31 rfl
          have l32 : a1.tmps.getD 32 undef = .pointer (some ⟨s5, 6, none⟩) := hI.old 32 rfl
          have l33 : a1.tmps.getD 33 undef = .pointer (some ⟨b, 0, none⟩) := hI.old 33 rfl
          have l34 : a1.tmps.getD 34 undef = .bool false := hI.old 34 rfl
          have l35 : a1.tmps.getD 35 undef = .tuple #[.slice A8 N8 c8, .int .i64 r8] := hI.old 35 rfl
          have l36 : a1.tmps.getD 36 undef = .pointer (some ⟨b, 0, none⟩) := hI.old 36 rfl
          have l37 : a1.tmps.getD 37 undef = .agg #[.int .u32 (x'.p.tsn : Int), .int .u16 (x'.p.st : Int), .int .u16 (x'.p.sq : Int), .bool x'.p.bg, .bool x'.p.en, .bool x'.p.un, .slice A6 N6 c6] := hI.old 37 rfl
          have l38 : a1.tmps.getD 38 undef = .tuple #[.slice A8 N8 c8, .int .i64 r8] := hI.old 38 rfl
          have l39 : a1.tmps.getD 39 undef = .slice A8 N8 c8 := hI.old 39 rfl
          have l40 : a1.tmps.getD 40 undef = .int .i64 r8 := hI.old 40 rfl
          have l41 : a1.tmps.getD 41 undef = .tuple #[.slice A9 N9 c9, .int .i64 r8] := hI.old 41 rfl
          have l42 : a1.tmps.getD 42 undef = .pointer (some ⟨d, 0, none⟩) := hI.old 42 rfl
          have l43 : a1.tmps.getD 43 undef = .slice (some ⟨g', o', none⟩) n c := hI.old 43 rfl
          have l44 : a1.tmps.getD 44 undef = .int .i64 (i : Int) := hI.old 44 rfl
          have l45 : a1.tmps.getD 45 undef = .pointer (some ⟨g', o' + i * 7, none⟩) := hI.old 45 rfl
          have l46 : a1.tmps.getD 46 undef = .agg #[.int .u32 (x'.p.tsn : Int), .int .u16 (x'.p.st : Int), .int .u16 (x'.p.sq : Int), .bool x'.p.bg, .bool x'.p.en, .bool x'.p.un, .slice x'.A N6 x'.c] := hI.old 46 rfl
          have l47 : a1.tmps.getD 47 undef = .tuple #[.slice A9 N9 c9, .int .i64 r8] := hI.old 47 rfl
          have l48 : a1.tmps.getD 48 undef = .slice A9 N9 c9 := hI.old 48 rfl
          have l49 : a1.tmps.getD 49 undef = .int .i64 r8 := hI.old 49 rfl
          have l69 : a1.tmps.getD 69 undef = undef := hI.old 69 rfl
          have l68 : a1.tmps.getD 68 undef = .bool false := hI.get hall (i := 18) rfl rfl
          have hde : a1.defers = [] := hI.defers
          have hal := act_lit a1 70 hI.size
          clear hI
          simp only [List.range, List.range.loop, List.map_cons, List.map_nil] at hal
          rw [l0, l1, l2, l3, l4, l5, l6, l7, l8, l9, l10, l11, l12, l13, l14, l15, l16, l17, l18, l19, l20, l21, l22, l23, l24, l25, l26, l27, l28, l29, l30, l31, l32, l33, l34, l35, l36, l37, l38, l39, l40, l41, l42, l43, l44, l45, l46, l47, l48, l49, l69, l68, hde] at hal
          generalize a1.tmps.getD 50 undef = tm50 at hal
          generalize a1.tmps.getD 51 undef = tm51 at hal
          generalize a1.tmps.getD 52 undef = tm52 at hal
          generalize a1.tmps.getD 53 undef = tm53 at hal
          generalize a1.tmps.getD 54 undef = tm54 at hal
          generalize a1.tmps.getD 55 undef = tm55 at hal
          generalize a1.tmps.getD 56 undef = tm56 at hal
          generalize a1.tmps.getD 57 undef = tm57 at hal
          generalize a1.tmps.getD 58 undef = tm58 at hal
          generalize a1.tmps.getD 59 undef = tm59 at hal
          generalize a1.tmps.getD 60 undef = tm60 at hal
          generalize a1.tmps.getD 61 undef = tm61 at hal
          generalize a1.tmps.getD 62 undef = tm62 at hal
          generalize a1.tmps.getD 63 undef = tm63 at hal
          generalize a1.tmps.getD 64 undef = tm64 at hal
          generalize a1.tmps.getD 65 undef = tm65 at hal
          generalize a1.tmps.getD 66 undef = tm66 at hal
          generalize a1.tmps.getD 67 undef = tm67 at hal
          clear l0 l1 l2 l3 l4 l5 l6 l7 l8 l9 l10 l11 l12 l13 l14 l15 l16 l17 l18 l19 l20 l21 l22 l23 l24 l25 l26 l27 l28 l29 l30 l31 l32 l33 l34 l35 l36 l37 l38 l39 l40 l41 l42 l43 l44 l45 l46 l47 l48 l49 l69 l68 hde
          subst hal
          go_wp2_with fail
          go_meet
          exact ⟨rfl, HUF⟩
      case rest =>
        obtain ⟨rfl, hu10⟩ := hcut
        have B10 := Lib.hid (B9.out.up hu10.out)
        have R10 := Lib.hid (R9.out.up hu10.out)
        have HU10 := Lib.hid (HU9.out.trans hu10.out)
        go_wp2_with fail
        go_roundw
        case rel => exact ⟨i + 1, p1, p2, p3, H9, W9, cH9, d9, l8, l9, m8, m9, nx8, nx9, by go_num, by omega, by omega, by omega, by omega, by rw [HL8.out]; exact hl8, B10, R10, HS9, HF9, HX9, HU10⟩
        case measure => simp [intOf]; omega
    · by_cases hl1 : i < n
      · obtain rfl : i = 60 := by omega
        have d1 : decide ((60 : Int) < (n : Int)) = true := by simp; omega
        clear hlt
        go_wp2_with fail
        refine (answers_ok wr).mono ?_
        rintro e w5 ⟨rfl, HU5⟩
        go_wp2_with fail
        go_ret
        exact ⟨rfl, Lib.hid (hU.out.trans HU5.out)⟩
      · obtain rfl : i = n := by omega
        have d1 : decide ((i : Int) < (i : Int)) = false := by simp
        clear hlt
        go_wp2_with fail
        refine (answers_ok wr).mono ?_
        rintro e w5 ⟨rfl, HU5⟩
        go_wp2_with fail
        go_ret
        exact ⟨rfl, Lib.hid (hU.out.trans HU5.out)⟩
end Go.Proofs.Ytgcabidhpnaoiaa
