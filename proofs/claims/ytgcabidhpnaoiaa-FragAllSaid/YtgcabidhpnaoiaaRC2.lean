import Derived.Test.YtgcabidhpnaoiaaPg4
import Derived.Test.YtgcabidhpnaoiaaStaged
import Derived.BigRegion
namespace Go.Proofs.Ytgcabidhpnaoiaa
open Go Go.RowKit Go.Shelf Fg
set_option linter.unusedVariables false
set_option linter.unusedSimpArgs false
/-! The reference's Cut. -/
set_option maxRecDepth 100000 in
set_option maxHeartbeats 1000000 in
theorem rcut_bad (b st n c : Nat) (A : Option Addr) (un : Bool) (sz : Int) (w : World) (h : n = 0 ∨ 8 ≤ st ∨ sz < 1 ∨ 256 < sz) :
    Calls Try.prog 12 #[.pointer (some ⟨b, 0, none⟩), .agg #[.int .u16 (st : Int), .slice A n c], .bool un, .int .i64 sz] w fun e w' => e = .returned (.tuple #[.slice none 0 0, .int .i64 1]) ∧ Hid (Up w w') := by
  have fin : Hid (Up w (w.alloc (.cells #[.int .u16 (st : Int), .slice A n c] 32))) := Lib.hid (up_alloc w _)
  by_cases t0 : n = 0
  · subst t0
    go_enter Try.func12, Try.ntmps12
    go_wp2_with fail
    go_ret2
    exact ⟨rfl, fin⟩
  have d0 : ((n : Int) == 0) = false := by rw [beq_eq_false_iff_ne]; omega
  by_cases t1 : 8 ≤ st
  · have d1 : decide ((8 : Int) ≤ (st : Int)) = true := by simp; omega
    clear h t0 t1
    go_enter Try.func12, Try.ntmps12
    go_wp2_with fail
    go_ret2
    exact ⟨rfl, fin⟩
  have d1 : decide ((8 : Int) ≤ (st : Int)) = false := by simp; omega
  by_cases t2 : sz < 1
  · have d2 : decide (sz < 1) = true := by simp; omega
    clear h t0 t1
    go_enter Try.func12, Try.ntmps12
    go_wp2_with fail
    go_ret2
    exact ⟨rfl, fin⟩
  have d2 : decide (sz < 1) = false := by simp; omega
  have t3 : 256 < sz := by omega
  have d3 : decide (256 < sz) = true := by simp; omega
  clear h t0 t1
  go_enter Try.func12, Try.ntmps12
  go_wp2_with fail
  go_ret2
  exact ⟨rfl, fin⟩
set_option maxRecDepth 100000 in
set_option maxHeartbeats 1000000 in
theorem rcut_large (b st n c : Nat) (A : Option Addr) (un : Bool) (sz : Nat) (w : World) (h0 : st < 8) (h1 : 1 ≤ sz) (h2 : sz ≤ 256) (hn : 4096 < n) :
    Calls Try.prog 12 #[.pointer (some ⟨b, 0, none⟩), .agg #[.int .u16 (st : Int), .slice A n c], .bool un, .int .i64 (sz : Int)] w fun e w' => e = .returned (.tuple #[.slice none 0 0, .int .i64 4]) ∧ Hid (Up w w') := by
  have fin : Hid (Up w (w.alloc (.cells #[.int .u16 (st : Int), .slice A n c] 32))) := Lib.hid (up_alloc w _)
  have d0 : ((n : Int) == 0) = false := by rw [beq_eq_false_iff_ne]; omega
  have d1 : decide ((8 : Int) ≤ (st : Int)) = false := by simp; omega
  have d2 : decide ((sz : Int) < 1) = false := by simp; omega
  have d3 : decide (256 < (sz : Int)) = false := by simp; omega
  have d4 : decide (4096 < (n : Int)) = true := by simp; omega
  go_enter Try.func12, Try.ntmps12
  go_wp2_with fail
  go_ret2
  exact ⟨rfl, fin⟩
theorem opS2_writeR {P : Program} {ops : Array Oper} {Φ : Nat → Value → World → Prop} {a0 : Act} {ws : List Nat} {W : Nat → World → Prop} {i j : Nat} {o : Oper} (hg : o.guard = none) (hn : ws.Nodup) (hx : ws[j]? = some i) (hp : ∀ y, ws[j - 1]? = some y → 0 < j → (o.after.toList.any fun e => (e.on == y || reachB ops 30 y e.on) && Region.binds .any e) = true)
    (h : ∀ (L : Nat → Bool) (a : Act) (w : World), W j w → L i = false → Closed ops L → (∀ t, notYet ops L t → a.tmps.getD t undef = a0.tmps.getD t undef) →
      (∀ (j : Nat) (oj : Oper) (d : Tmp), (o.after.toList.any fun e => e.on == j && Region.binds .any e) = true → ops[j]? = some oj → oj.dst = some d → Φ j (a.tmps.getD d undef) w) → ∃ v w', (execOp a.eval o).run P w = .ok (.value v) w' ∧ W (j + 1) w' ∧ Φ i v w' ∧ ∀ j x, j ≠ i → L j = true → Φ j x w → Φ j x w') : OpS2 P ops Φ (Stg ws W) a0 i o := by
  intro L a w hJ hl hc hall _ ho hd
  rw [if_pos (by simp [Region.wanted, hg])]
  have hprev : ∀ y, ws[j - 1]? = some y → 0 < j → L y = true := fun y hy h0 => by
    have := hp y hy h0
    rw [List.any_eq_true] at this
    obtain ⟨e, he, h2⟩ := this
    simp only [Bool.and_eq_true, Bool.or_eq_true, beq_iff_eq] at h2
    have h3 := hall e (by simpa using he) h2.2
    rcases h2.1 with h4 | h4
    · rwa [h4] at h3
    · exact reach_spec hc 30 e.on h4 h3
  obtain ⟨hWj, hnext⟩ := hJ.write hn hx hl hprev
  obtain ⟨v, w', hr, hw', hv, hk⟩ := h L a w hWj hl hc ho hd
  unfold Oper.wp
  rw [hr]
  exact ⟨⟨v, rfl, hv⟩, hnext w' hw', fun j x hlj => hk j x (fun e => by subst e; rw [hl] at hlj; cases hlj) hlj⟩
theorem notYet_at {ops : Array Oper} {L : Nat → Bool} {n k : Nat} {o : Oper} {t : Tmp} (hd : dstB ops n = true) (hi : ops[k]? = some o) (e : o.dst = some t) (hL : L k = false) : notYet ops L t := fun i oi hii hdi => by
  have := (dst_spec hd hi e).2 i oi hii hdi
  subst this; exact hL
theorem x_build {P : Program} {o : Oper} {a : Act} {w : World} (t : TypeId) (ps : Array (Nat × Operand)) {v : Value} (ho : o.op = .build t ps) (hr : (Instr.build t (ps.map fun (i, x) => (i, a.eval x))).run P w = .ok v w) : (execOp a.eval o).run P w = .ok (.value v) w := by simp [execOp, ho, hr, Result.andThen]
theorem x_slice2 {P : Program} {o : Oper} {a : Act} {w : World} (t : TypeId) (x y z : Operand) {X Y Z v : Value} (ho : o.op = .slice t x (some y) (some z) none) (hx : a.eval x = X) (hy : a.eval y = Y) (hz : a.eval z = Z) (hr : (Instr.sliceAt t X (some Y) (some Z) none).run P w = .ok v w) : (execOp a.eval o).run P w = .ok (.value v) w := by simp [execOp, ho, hx, hy, hz, hr, Result.andThen]
theorem run_sl2 (g o m c lo hi : Nat) (h : lo ≤ hi) (h2 : hi ≤ c) (w : World) : (Instr.sliceAt 30 (.slice (some ⟨g, o, none⟩) m c) (some (.int .i64 (lo : Int))) (some (.int .i64 (hi : Int))) none).run Try.prog w = .ok (.slice (some ⟨g, if c = lo then o else o + lo, none⟩) (hi - lo) (c - lo)) w := by
  have h3 : (lo : Int) ≤ (hi : Int) := by omega
  have h4 : (hi : Int) ≤ (c : Int) := by omega
  have h5 : ((hi : Int) - (lo : Int)).toNat = hi - lo := by omega
  by_cases h6 : c = lo <;> simp [go_sem, h, h2, h3, h4, h5, h6]
  intro h7; omega
theorem run_eql3 (a b : Int) (v : Bool) (h : (a == b) = v) (w : World) : (binOp .eql 3 (.int .i64 a) (.int .i64 b)).run Try.prog w = .ok (.bool v) w := by subst h; simp [go_sem]
theorem grd3 (x y : Operand) (a b : Int) (w : World) : (eqGuard .eql 3 x y (.int .i64 a) (.int .i64 b)).run Try.prog w = .ok () w := by kernel_rfl
theorem fl32_0 (b o : Nat) (w : World) : (Instr.fieldAt 32 (.pointer (some ⟨b, o, none⟩)) 0).run Try.prog w = .ok (.pointer (some ⟨b, o, none⟩)) w := by kernel_rfl
theorem fl32_1 (b o : Nat) (w : World) : (Instr.fieldAt 32 (.pointer (some ⟨b, o, none⟩)) 1).run Try.prog w = .ok (.pointer (some ⟨b, o + 1, none⟩)) w := by kernel_rfl
theorem agg26 (w : World) : (isAgg 26).run Try.prog w = .ok false w := by kernel_rfl
theorem agg30 (w : World) : (isAgg 30).run Try.prog w = .ok false w := by kernel_rfl
theorem bld51 (st sq : Int) (un vb ve : Bool) (A : Option Addr) (n c : Nat) (w : World) : (Instr.build 51 #[(1, .int .u16 st), (2, .int .u16 sq), (5, .bool un), (3, .bool vb), (4, .bool ve), (6, .slice A n c)]).run Try.prog w = .ok (.agg #[.int .u32 0, .int .u16 st, .int .u16 sq, .bool vb, .bool ve, .bool un, .slice A n c]) w := by kernel_rfl
theorem bs51 (st sq : Int) (un vb ve : Bool) (A : Option Addr) (n c : Nat) (w : World) : (Instr.buildSlice 35 1 #[(0, .agg #[.int .u32 0, .int .u16 st, .int .u16 sq, .bool vb, .bool ve, .bool un, .slice A n c])]).run Try.prog w = .ok (.slice (some ⟨w.heap.size, 0, none⟩) 1 1) (w.alloc (.cells #[.int .u32 0, .int .u16 st, .int .u16 sq, .bool vb, .bool ve, .bool un, .slice A n c] 51)) := by kernel_rfl
/-- Bytes that are handed in don't lie in a block of numbers. -/
theorem cut_off {w : World} {b n c : Nat} {nx : Nat → Nat} {ty : TypeId} {A : Option Addr} {bs : List Int} (hB : CutB ty w b nx) (hA : InB w A n c bs) (hne : bs ≠ []) : ∀ k, blk? A = some k → ¬ k = b := cut_ne hB hA hne
set_option maxRecDepth 100000 in
set_option maxHeartbeats 4000000 in
theorem rcut_ok (b st n c : Nat) (A : Option Addr) (un : Bool) (sz : Nat) (bs : List Int) (nx : Nat → Nat) (w : World) (h0 : 0 < n) (hst : st < 8) (h1 : 1 ≤ sz) (h2 : sz ≤ 256) (hn : n ≤ 4096) (hA : InB w A n c bs) (hB : CutB 29 w b nx) :
    Calls Try.prog 12 #[.pointer (some ⟨b, 0, none⟩), .agg #[.int .u16 (st : Int), .slice A n c], .bool un, .int .i64 (sz : Int)] w (CutPost 29 b nx st un (sz : Int) bs w) := by
  have d0 : ((n : Int) == 0) = false := by rw [beq_eq_false_iff_ne]; omega
  have d1 : decide ((8 : Int) ≤ (st : Int)) = false := by simp; omega
  have d2 : decide ((sz : Int) < 1) = false := by simp; omega
  have d3 : decide (256 < (sz : Int)) = false := by simp; omega
  have d4 : decide (4096 < (n : Int)) = false := by simp; omega
  have HA := Lib.hid hA
  have HB := Lib.hid hB
  clear hA hB
  go_enter Try.func12, Try.ntmps12
  go_upto_region 6 with (fail)
  have P1 := Lib.hid (new_at w (.cells #[.int .u16 (st : Int), .slice A n c] 32))
  have HU := Lib.hid (up_alloc w (.cells #[.int .u16 (st : Int), .slice A n c] 32))
  generalize w.alloc (.cells #[.int .u16 (st : Int), .slice A n c] 32) = W at P1 HU ⊢
  generalize hqq : w.heap.size = q at P1 ⊢
  have HB1 := Lib.hid ((HU.out.block _ (lt_of_blk HB.out)).trans HB.out)
  have hbq : b < q := by rw [← hqq]; exact lt_of_blk HB.out
  go_upto_if 36 with (fail)
  go_cut [10] (fun sv wx => sv = .int .u16 (((if un = true then 0 else nx st) : Nat) : Int) ∧ Hid (CutB 29 wx b (if un = true then nx else Fg.upd nx st)) ∧ Hid (Out (fun k => k = b) W wx))
  case first =>
    cases un with
    | true =>
      go_wp2_with fail
      go_meet
      exact ⟨rfl, HB1, Lib.hid (Out.refl _ _)⟩
    | false =>
      have k0 : W.cell? ⟨b, st, none⟩ = some (.int .u16 (nx st : Int)) := cell_of HB1.out (cutC_at nx hst)
      have f0 : W.frozen? ⟨b, st, none⟩ = false := frozen_at HB1.out
      have p0 : W.cell? ⟨q, 0, none⟩ = some (.int .u16 (st : Int)) := cell_of P1.out rfl
      have hst2 : (st : Int) < 8 := by omega
      go_upto_region 7 with (fail)
      go_quiet (fail)
      have k0' : (W.drewN nq).cell? ⟨b, st, none⟩ = some (.int .u16 (nx st : Int)) := k0
      have f0' : (W.drewN nq).frozen? ⟨b, st, none⟩ = false := f0
      have p0' : (W.drewN nq).cell? ⟨q, 0, none⟩ = some (.int .u16 (st : Int)) := p0
      have HB2 : Hid ((W.drewN nq).heap[b]? = some (.cells (cutC nx) 29 (0, 0))) := HB1
      have HU2 := Lib.hid (up_drewN W nq)
      generalize W.drewN nq = W2 at k0' f0' p0' HB2 HU2 ⊢
      clear k0 f0 p0
      go_upto_region 8 with (fail)
      go_region
      all_goals
        rw [show IntKind.u16.wrap ((nx st : Int) + 1) = (((nx st + 1) % 65536 : Nat) : Int) by simp [IntKind.wrap_u16]]
        have h4 := setCell_at (j := st) (.int .u16 (((nx st + 1) % 65536 : Nat) : Int)) HB2.out
        rw [cutC_upd nx hst] at h4
        have h5 := setCell_out W2 b st (.int .u16 (((nx st + 1) % 65536 : Nat) : Int))
        have H4 := Lib.hid h4
        have H5 := Lib.hid h5
        clear h4 h5
        go_wp2_with fail
        go_meet
        exact ⟨rfl, H4, Lib.hid (((HU2.out.out _).trans H5.out (Sub.refl _ _)).trans ((Up.drew _).out _) (Sub.refl _ _))⟩
  case rest =>
    obtain ⟨rfl, HBc, HOc⟩ := hcut
    have hbs : bs ≠ [] := fun e => by have := HA.out.len; rw [e] at this; simp at this; omega
    have hAW := HA.out.up HU.out
    have HAc := Lib.hid (hAW.outS' HOc.out (fun h k hk e => cut_off HB1.out hAW hbs k hk e))
    have Pc := Lib.hid (HOc.out.blk P1.out (by omega))
    have HO := Lib.hid ((HU.out.out (fun k => k = b)).trans HOc.out (Sub.refl _ _))
    clear hAW
    obtain ⟨ab, ao, rfl, habl, _⟩ := HAc.out.cells (fun e => by rw [ints, List.map_eq_nil_iff] at e; exact hbs e)
    have HNE := Lib.hid hbs
    have hcap := HAc.out.cap
    have HLN := Lib.hid HAc.out.len
    have hqc : w.heap.size < wc.heap.size := by have := lt_of_blk Pc.out; omega
    generalize hsqq : (if un = true then 0 else nx st) = sq
    generalize hnxx : (if un = true then nx else Fg.upd nx st) = nx' at HBc
    have HSQ := Lib.hid (And.intro hsqq hnxx)
    clear hsqq hnxx hbs habl
    go_wp2_with fail
    go_loopw [11, 12] (fun ov iv wr => ∃ (i a : Nat) (A2 : Option Addr) (c2 : Nat) (l : List PcB), ov = .slice A2 i c2 ∧ iv = .int .i64 (a : Int) ∧ Hid (a = i * sz) ∧ a ≤ n + sz ∧ i ≤ n ∧ Hid (ps l = (List.range i).map (cutPc st sq un sz bs)) ∧ Hid (wr.ownsRow w.heap.size 51 7 (.slice A2 i c2) i (l.flatMap pcc)) ∧
        Hid (∀ x ∈ l, OwnI .u8 5 w.heap.size wr x.A x.p.bs.length x.c x.p.bs) ∧ Hid (∀ j, j < i → j * sz < n) ∧ Hid (CutB 29 wr b nx') ∧ Hid (InB wr (some ⟨ab, ao, none⟩) n c bs) ∧ Hid (wr.heap[q]? = some (.cells #[.int .u16 (st : Int), .slice (some ⟨ab, ao, none⟩) n c] 32 (0, 0))) ∧ Hid (Out (fun k => k = b) w wr)) (fun _ iv _ => 8192 - (intOf iv).toNat)
    case atStart => exact ⟨0, 0, none, 0, [], rfl, rfl, Lib.hid (by simp), by omega, by omega, Lib.hid rfl, Lib.hid (World.ownsRow_nil _ _ _ _), Lib.hid (by simp), Lib.hid (by intro j hj; omega), HBc, HAc, Pc, HO⟩
    case round =>
      obtain ⟨i, a, A2, c2, l, rfl, rfl, ha, han, hin, hL, hR, hY, hJ, hB, hA, hP, hO⟩ := hrel
      have p0 : wr.cell? ⟨q, 0, none⟩ = some (.int .u16 (st : Int)) := cell_of hP.out rfl
      have p1 : wr.cell? ⟨q, 1, none⟩ = some (.slice (some ⟨ab, ao, none⟩) n c) := cell_of hP.out rfl
      by_cases hlt : a < n
      · have e1 : decide ((a : Int) < (n : Int)) = true := by simp; omega
        obtain ⟨e, he⟩ : ∃ e, e = min (a + sz) n := ⟨_, rfl⟩
        have hle : a < e ∧ e ≤ n := by omega
        have hemin : (a + sz ≤ n → e = a + sz) ∧ (¬ a + sz ≤ n → e = n) := by omega
        have HEM := Lib.hid hemin
        clear hemin
        have HE := Lib.hid he
        clear he
        go_upto_if 67 with (fail)
        go_cut [13] (fun v wx => v = .int .i64 (e : Int) ∧ wx = wr)
        case first =>
          by_cases h5 : a + sz ≤ n
          · have e2 : decide ((n : Int) < (a : Int) + (sz : Int)) = false := by simp; omega
            go_wp2_with fail
            go_meet
            exact ⟨by rw [show (e : Int) = (a : Int) + (sz : Int) by have := HEM.out.1 h5; omega], rfl⟩
          · have e2 : decide ((n : Int) < (a : Int) + (sz : Int)) = true := by simp; omega
            go_wp2_with fail
            go_meet
            exact ⟨by rw [HEM.out.2 h5], rfl⟩
        case rest =>
          obtain ⟨rfl, rfl⟩ := hcut
          have hbg : ((a : Int) == 0) = decide (i = 0) := by
            have h3 := ha.out
            by_cases h4 : i = 0
            · subst h4; rw [h3]; simp
            · have : 1 * 1 ≤ i * sz := Nat.mul_le_mul (by omega) h1
              rw [decide_eq_false h4, beq_eq_false_iff_ne]; omega
          have hen : ((e : Int) == (n : Int)) = decide (i + 1 = npt sz bs.length) := by
            have h3 := ha.out
            have h4 := HE.out
            have h5 := npt_lt (N := bs.length) (i := i + 1) h1
            have h6 := npt_lt (N := bs.length) (i := i) h1
            rw [HLN.out] at h5 h6 ⊢
            rw [Nat.add_mul, Nat.one_mul] at h5
            by_cases h7 : e = n
            · rw [decide_eq_true (by omega), h7]; simp
            · rw [decide_eq_false (by omega), beq_eq_false_iff_ne]; omega
          obtain ⟨vb, hvb⟩ : ∃ vb, vb = decide (i = 0) := ⟨_, rfl⟩
          obtain ⟨ve, hve⟩ : ∃ ve, ve = decide (i + 1 = npt sz bs.length) := ⟨_, rfl⟩
          rw [← hvb] at hbg
          rw [← hve] at hen
          have HV := Lib.hid (And.intro hvb hve)
          clear hvb hve
          have hea : ((e : Int) - (a : Int)) = ((e - a : Nat) : Int) := by omega
          have hpart : Hid (InB wc (some ⟨ab, ao + a, none⟩) (e - a) (e - a) ((bs.drop a).take (e - a))) := Lib.hid (InB.part hA.out (by omega))
          have hcapI : (n : Int) ≤ (c : Int) := by omega
          have hei : (e : Int) ≤ (n : Int) := by omega
          have hai : (a : Int) < (e : Int) := by omega
          go_upto_region 16 with (fail)
          have hec : e ≤ c := by omega
          have hae : a ≤ e := by omega
          have hca : ¬ c = a := by omega
          have hpl : (ints .u8 ((bs.drop a).take (e - a))).length = (e - a) * 1 := by rw [ints_length, hpart.out.len, Nat.mul_one]
          have hqn : q ≠ wc.heap.size := by have := lt_of_blk hP.out; omega
          obtain ⟨wA, hwA⟩ : ∃ x, x = wc.drew := ⟨_, rfl⟩
          have UA : Up wc wA := by rw [hwA]; exact Up.drew wc
          have sA : wA.heap.size = wc.heap.size := by rw [hwA]; rfl
          have hszA : w.heap.size ≤ wA.heap.size := by rw [sA]; exact hO.out.size
          obtain ⟨wB, hwB⟩ : ∃ x, x = wA.alloc (.cells #[] 5) := ⟨_, rfl⟩
          have UB : Up wA wB := by rw [hwB]; exact up_alloc _ _
          have nB : wB.heap[wA.heap.size]? = some (.cells #[] 5 (0, 0)) := by rw [hwB]; exact new_at _ _
          have OB : wB.ownsRow w.heap.size 5 1 (.slice (some ⟨wA.heap.size, 0, none⟩) 0 0) 0 [] := by rw [hwB]; exact row_mono (ownI_new .u8 5 wA) hszA
          have hB0 : (Instr.buildSlice 30 0 #[]).run Try.prog wA = .ok (.slice (some ⟨wA.heap.size, 0, none⟩) 0 0) wB := by rw [hwB]; kernel_rfl
          obtain ⟨A3, c3, wC, rC, oC, rowC, _⟩ := append_G (P := Try.prog) (ty := 30) Try.underlying30 info5 rfl (by omega) OB (some ⟨ab, ao + a, none⟩) (e - a) (c - a) (ints .u8 ((bs.drop a).take (e - a))) hpl (Cells.up (w := wc) hpart.out.cells (UA.trans UB)) (ints_one _ _) (by omega) (by omega) (Nat.le_trans hszA UB.size)
          have hnk : ∀ k, k ≠ wA.heap.size → ¬ blk? (some ⟨wA.heap.size, 0, none⟩ : Option Addr) = some k := fun k hk h => hk (Option.some.inj h).symm
          have hqA : q ≠ wA.heap.size := by rw [sA]; exact hqn
          have p0A := cell_up p0 UA
          have p1A := cell_up p1 UA
          have p0B := cell_up p0A UB
          have p1B := cell_up p1A UB
          have p0C : wC.cell? ⟨q, 0, none⟩ = some (.int .u16 (st : Int)) := cell_out (S := fun k => blk? (some ⟨wA.heap.size, 0, none⟩ : Option Addr) = some k) p0B oC (hnk q hqA)
          have p1C : wC.cell? ⟨q, 1, none⟩ = some (.slice (some ⟨ab, ao, none⟩) n c) := cell_out (S := fun k => blk? (some ⟨wA.heap.size, 0, none⟩ : Option Addr) = some k) p1B oC (hnk q hqA)
          have r2B := own_up hR.out (UA.trans UB)
          have r2C := Out.own oC r2B (fun g hg => hnk g (own_ne r2B nB (by decide) g hg))
          obtain ⟨wD, hwD⟩ : ∃ x, x = wC.alloc (.cells #[.int .u32 0, .int .u16 (st : Int), .int .u16 (sq : Int), .bool vb, .bool ve, .bool un, .slice A3 (0 + (e - a)) c3] 51) := ⟨_, rfl⟩
          have UD : Up wC wD := by rw [hwD]; exact up_alloc _ _
          have nD : wD.heap[wC.heap.size]? = some (.cells #[.int .u32 0, .int .u16 (st : Int), .int .u16 (sq : Int), .bool vb, .bool ve, .bool un, .slice A3 (0 + (e - a)) c3] 51 (0, 0)) := by rw [hwD]; exact new_at _ _
          have hD0 : (Instr.buildSlice 35 1 #[(0, .agg #[.int .u32 0, .int .u16 (st : Int), .int .u16 (sq : Int), .bool vb, .bool ve, .bool un, .slice A3 (0 + (e - a)) c3])]).run Try.prog wC = .ok (.slice (some ⟨wC.heap.size, 0, none⟩) 1 1) wD := by rw [hwD]; exact bs51 _ _ _ _ _ _ _ _ _
          have p0D := cell_up p0C UD
          have p1D := cell_up p1C UD
          have r2D := own_up r2C UD
          have szC : w.heap.size ≤ wC.heap.size := Nat.le_trans hszA (Nat.le_trans UB.size oC.size)
          obtain ⟨A5, c5, wE, rE, oE, rowE, _⟩ := append_G (P := Try.prog) (ty := 35) Try.underlying35 info51 rfl (by omega) r2D (some ⟨wC.heap.size, 0, none⟩) 1 1 [.int .u32 0, .int .u16 (st : Int), .int .u16 (sq : Int), .bool vb, .bool ve, .bool un, .slice A3 (0 + (e - a)) c3] rfl (fun _ => ⟨_, 0, rfl, lt_of_blk nD, fun j u hu => by rw [Nat.zero_add]; exact cell_of nD (by simpa using hu)⟩) (by simp [Value.oneCell']) (by omega) (by omega) (Nat.le_trans szC UD.size)
          have qD : wD.heap[q]? = some (.cells #[.int .u16 (st : Int), .slice (some ⟨ab, ao, none⟩) n c] 32 (0, 0)) := by
            have h3 := oC.blk (((UA.trans UB).block _ (lt_of_blk hP.out)).trans hP.out) (hnk q hqA)
            exact (UD.block _ (lt_of_blk h3)).trans h3
          have hq2 : ¬ blk? A2 = some q := fun h => own_ne r2D qD (by decide) q (by rw [ownBlock_slice]; exact h) rfl
          have p0E : wE.cell? ⟨q, 0, none⟩ = some (.int .u16 (st : Int)) := cell_out (S := fun k => blk? A2 = some k) p0D oE hq2
          have p1E : wE.cell? ⟨q, 1, none⟩ = some (.slice (some ⟨ab, ao, none⟩) n c) := cell_out (S := fun k => blk? A2 = some k) p1D oE hq2
          have HCELL : Hid (∀ k, ([wA, wB, wC, wD, wE].getD k wE).cell? ⟨q, 0, none⟩ = some (.int .u16 (st : Int)) ∧ ([wA, wB, wC, wD, wE].getD k wE).cell? ⟨q, 1, none⟩ = some (.slice (some ⟨ab, ao, none⟩) n c)) := Lib.hid (fun k => by
            match k with
            | 0 => exact ⟨p0A, p1A⟩
            | 1 => exact ⟨p0B, p1B⟩
            | 2 => exact ⟨p0C, p1C⟩
            | 3 => exact ⟨p0D, p1D⟩
            | 4 => exact ⟨p0E, p1E⟩
            | k + 5 => exact ⟨p0E, p1E⟩)
          have HOE : Hid (Out (fun k => blk? A2 = some k) wc wE) := Lib.hid (by
            have h3 : Out (fun k => blk? A2 = some k ∨ k = wA.heap.size) wc wE := ((((UA.trans UB).out _).trans (oC.mono (fun k hk => .inr (Option.some.inj hk).symm)) (Sub.refl _ _)).trans (UD.out _) (Sub.refl _ _)).trans (oE.mono (fun k hk => .inl hk)) (Sub.refl _ _)
            exact ⟨h3.os, h3.tape, h3.output, h3.size, fun k hk hn => h3.block k hk (fun h => h.elim hn (fun h => by rw [sA] at h; omega))⟩)
          have HROW := Lib.hid rowE
          have HBYTE : Hid (wE.ownsRow w.heap.size 5 1 (.slice A3 (0 + (e - a)) c3) (0 + (e - a)) (ints .u8 ((bs.drop a).take (e - a)))) := Lib.hid (by
            have h3 := own_up rowC UD
            rw [List.nil_append] at h3
            exact Out.own oE h3 (fun g hg h => rows_ne h3 r2D (by decide) g hg (by rw [ownBlock_slice]; exact h)))
          refine staged_lit2 (by kernel_rfl) (facts [Is (.slice A2 i c2), Is (.pointer (some ⟨q, 0, none⟩)), Is (.int .u16 (st : Int)), Is (.int .u16 (sq : Int)), Is (.bool un), Is (.int .i64 (a : Int)), Is (.bool vb), Is (.int .i64 (e : Int)), Is (.pointer (some ⟨q, 1, none⟩)), Is (.slice (some ⟨ab, ao, none⟩) n c), Is (.int .i64 (n : Int)), Is (.bool ve), Is (.slice (some ⟨wA.heap.size, 0, none⟩) 0 0), Is (.pointer (some ⟨q, 1, none⟩)), Is (.slice (some ⟨ab, ao, none⟩) n c), Is (.int .i64 (a : Int)), Is (.int .i64 (e : Int)), Is (.slice (some ⟨ab, ao + a, none⟩) (e - a) (c - a)), Is (.slice A3 (0 + (e - a)) c3), Is (.agg #[.int .u32 0, .int .u16 (st : Int), .int .u16 (sq : Int), .bool vb, .bool ve, .bool un, .slice A3 (0 + (e - a)) c3]), Is (.slice (some ⟨wC.heap.size, 0, none⟩) 1 1), Is (.slice A5 (i + 1) c5), Is (.slice A5 (i + 1) c5)]) (Stg [12, 18, 20, 21] (fun k x => x = [wA, wB, wC, wD, wE].getD k wE)) 94 rfl (by decide +kernel) (by decide +kernel) (Stg.start hwA.symm) ?_ ?_
          · refine ⟨?_, ?_, ?_, ?_, ?_, ?_, ?_, ?_, ?_, ?_, ?_, ?_, ?_, ?_, ?_, ?_, ?_, ?_, ?_, ?_, ?_, ?_, ?_, trivial⟩
            · refine opS2_same rfl rfl fun L ac w1 hJ hl hc ho hd => ?_
              have s11 : ac.eval (.tmp 11) = .slice A2 i c2 := ho 11 (notYet_at (n := 94) (k := 22) (by decide +kernel) rfl rfl (reach_not hc (n := 23) (k := 22) (by kernel_rfl) hl))
              exact ⟨_, x_move (.tmp 11) rfl s11, rfl⟩
            · refine opS2_same rfl rfl fun L ac w1 hJ hl hc ho hd => ?_
              have s5 : ac.eval (.tmp 5) = .pointer (some ⟨q, 0, none⟩) := ho 5 (notYet_old rfl)
              exact ⟨_, x_field 32 (.tmp 5) 0 rfl s5 (fl32_0 _ _ _), rfl⟩
            · refine opS2_same rfl rfl fun L ac w1 hJ hl hc ho hd => ?_
              have d1 : ac.eval (.tmp 72) = .pointer (some ⟨q, 0, none⟩) := hd 1 _ _ rfl rfl rfl
              obtain ⟨kk, _, hkk⟩ := hJ
              exact ⟨_, x_load 26 (.tmp 72) rfl d1 (run_load1 agg26 (by rw [hkk]; exact (HCELL.out kk).1)), rfl⟩
            · refine opS2_same rfl rfl fun L ac w1 hJ hl hc ho hd => ?_
              have s10 : ac.eval (.tmp 10) = .int .u16 (sq : Int) := ho 10 (notYet_old rfl)
              exact ⟨_, x_move (.tmp 10) rfl s10, rfl⟩
            · refine opS2_same rfl rfl fun L ac w1 hJ hl hc ho hd => ?_
              have s2 : ac.eval (.tmp 2) = .bool un := ho 2 (notYet_old rfl)
              exact ⟨_, x_move (.tmp 2) rfl s2, rfl⟩
            · refine opS2_same rfl rfl fun L ac w1 hJ hl hc ho hd => ?_
              have s12 : ac.eval (.tmp 12) = .int .i64 (a : Int) := ho 12 (notYet_old rfl)
              exact ⟨_, x_move (.tmp 12) rfl s12, rfl⟩
            · refine opS2_same rfl rfl fun L ac w1 hJ hl hc ho hd => ?_
              have d5 : ac.eval (.tmp 76) = .int .i64 (a : Int) := hd 5 _ _ rfl rfl rfl
              exact ⟨_, x_bin .eql 3 3 (.tmp 76) (.const (.int .i64 0)) rfl d5 rfl (grd3 _ _ _ _ _) (run_eql3 _ _ _ hbg _), rfl⟩
            · refine opS2_same rfl rfl fun L ac w1 hJ hl hc ho hd => ?_
              have s13 : ac.eval (.tmp 13) = .int .i64 (e : Int) := ho 13 (notYet_old rfl)
              exact ⟨_, x_move (.tmp 13) rfl s13, rfl⟩
            · refine opS2_same rfl rfl fun L ac w1 hJ hl hc ho hd => ?_
              have s5 : ac.eval (.tmp 5) = .pointer (some ⟨q, 0, none⟩) := ho 5 (notYet_old rfl)
              exact ⟨_, x_field 32 (.tmp 5) 1 rfl s5 (fl32_1 _ _ _), rfl⟩
            · refine opS2_same rfl rfl fun L ac w1 hJ hl hc ho hd => ?_
              have d8 : ac.eval (.tmp 79) = .pointer (some ⟨q, 1, none⟩) := hd 8 _ _ rfl rfl rfl
              obtain ⟨kk, _, hkk⟩ := hJ
              exact ⟨_, x_load 30 (.tmp 79) rfl d8 (run_load1 agg30 (by rw [hkk]; exact (HCELL.out kk).2)), rfl⟩
            · refine opS2_same rfl rfl fun L ac w1 hJ hl hc ho hd => ?_
              have d9 : ac.eval (.tmp 80) = .slice (some ⟨ab, ao, none⟩) n c := hd 9 _ _ rfl rfl rfl
              exact ⟨_, x_len (.tmp 80) 30 5 rfl Try.underlying30 d9, rfl⟩
            · refine opS2_same rfl rfl fun L ac w1 hJ hl hc ho hd => ?_
              have d7 : ac.eval (.tmp 78) = .int .i64 (e : Int) := hd 7 _ _ rfl rfl rfl
              have d10 : ac.eval (.tmp 81) = .int .i64 (n : Int) := hd 10 _ _ rfl rfl rfl
              exact ⟨_, x_bin .eql 3 3 (.tmp 78) (.tmp 81) rfl d7 d10 (grd3 _ _ _ _ _) (run_eql3 _ _ _ hen _), rfl⟩
            · refine opS2_writeR (j := 0) rfl (by decide) rfl (fun _ _ h => absurd h (by omega)) fun L ac wx hW hl hc ho hd => ?_
              obtain rfl := (show wx = wA from hW)
              exact ⟨_, _, x_bslice 30 0 _ rfl (by simpa using hB0), rfl, rfl, fun q v _ _ => facts_free (by simp [free_is]) q v⟩
            · refine opS2_same rfl rfl fun L ac w1 hJ hl hc ho hd => ?_
              have s5 : ac.eval (.tmp 5) = .pointer (some ⟨q, 0, none⟩) := ho 5 (notYet_old rfl)
              exact ⟨_, x_field 32 (.tmp 5) 1 rfl s5 (fl32_1 _ _ _), rfl⟩
            · refine opS2_same rfl rfl fun L ac w1 hJ hl hc ho hd => ?_
              have d13 : ac.eval (.tmp 84) = .pointer (some ⟨q, 1, none⟩) := hd 13 _ _ rfl rfl rfl
              obtain ⟨kk, _, hkk⟩ := hJ
              exact ⟨_, x_load 30 (.tmp 84) rfl d13 (run_load1 agg30 (by rw [hkk]; exact (HCELL.out kk).2)), rfl⟩
            · refine opS2_same rfl rfl fun L ac w1 hJ hl hc ho hd => ?_
              have s12 : ac.eval (.tmp 12) = .int .i64 (a : Int) := ho 12 (notYet_old rfl)
              exact ⟨_, x_move (.tmp 12) rfl s12, rfl⟩
            · refine opS2_same rfl rfl fun L ac w1 hJ hl hc ho hd => ?_
              have s13 : ac.eval (.tmp 13) = .int .i64 (e : Int) := ho 13 (notYet_old rfl)
              exact ⟨_, x_move (.tmp 13) rfl s13, rfl⟩
            · refine opS2_same rfl rfl fun L ac w1 hJ hl hc ho hd => ?_
              have d14 : ac.eval (.tmp 85) = .slice (some ⟨ab, ao, none⟩) n c := hd 14 _ _ rfl rfl rfl
              have d15 : ac.eval (.tmp 86) = .int .i64 (a : Int) := hd 15 _ _ rfl rfl rfl
              have d16 : ac.eval (.tmp 87) = .int .i64 (e : Int) := hd 16 _ _ rfl rfl rfl
              exact ⟨_, x_slice2 30 (.tmp 85) (.tmp 86) (.tmp 87) rfl d14 d15 d16 (run_sl2 _ _ _ _ _ _ hae hec _), by show _ = _; rw [if_neg hca]⟩
            · refine opS2_writeR (j := 1) rfl (by decide) rfl (fun y hy _ => by simp at hy; subst hy; decide +kernel) fun L ac wx hW hl hc ho hd => ?_
              have d12 : ac.eval (.tmp 83) = .slice (some ⟨wA.heap.size, 0, none⟩) 0 0 := hd 12 _ _ rfl rfl rfl
              have d17 : ac.eval (.tmp 88) = .slice (some ⟨ab, ao + a, none⟩) (e - a) (c - a) := hd 17 _ _ rfl rfl rfl
              obtain rfl := (show wx = wB from hW)
              exact ⟨_, _, x_append (.tmp 83) (.tmp 88) 30 30 rfl d12 d17 rC, rfl, rfl, fun q v _ _ => facts_free (by simp [free_is]) q v⟩
            · refine opS2_same rfl rfl fun L ac w1 hJ hl hc ho hd => ?_
              have d2 : ac.eval (.tmp 73) = .int .u16 (st : Int) := hd 2 _ _ rfl rfl rfl
              have d3 : ac.eval (.tmp 74) = .int .u16 (sq : Int) := hd 3 _ _ rfl rfl rfl
              have d4 : ac.eval (.tmp 75) = .bool un := hd 4 _ _ rfl rfl rfl
              have d6 : ac.eval (.tmp 77) = .bool vb := hd 6 _ _ rfl rfl rfl
              have d11 : ac.eval (.tmp 82) = .bool ve := hd 11 _ _ rfl rfl rfl
              have d18 : ac.eval (.tmp 89) = .slice A3 (0 + (e - a)) c3 := hd 18 _ _ rfl rfl rfl
              exact ⟨_, x_build 51 _ rfl (by simp only [List.map_toArray, List.map_cons, List.map_nil, d2, d3, d4, d6, d11, d18]; exact bld51 _ _ _ _ _ _ _ _ _), rfl⟩
            · refine opS2_writeR (j := 2) rfl (by decide) rfl (fun y hy _ => by simp at hy; subst hy; decide +kernel) fun L ac wx hW hl hc ho hd => ?_
              have d19 : ac.eval (.tmp 90) = .agg #[.int .u32 0, .int .u16 (st : Int), .int .u16 (sq : Int), .bool vb, .bool ve, .bool un, .slice A3 (0 + (e - a)) c3] := hd 19 _ _ rfl rfl rfl
              obtain rfl := (show wx = wC from hW)
              exact ⟨_, _, x_bslice 35 1 _ rfl (by simp only [List.map_toArray, List.map_cons, List.map_nil, d19]; exact hD0), rfl, rfl, fun q v _ _ => facts_free (by simp [free_is]) q v⟩
            · refine opS2_writeR (j := 3) rfl (by decide) rfl (fun y hy _ => by simp at hy; subst hy; decide +kernel) fun L ac wx hW hl hc ho hd => ?_
              have d0 : ac.eval (.tmp 71) = .slice A2 i c2 := hd 0 _ _ rfl rfl rfl
              have d20 : ac.eval (.tmp 91) = .slice (some ⟨wC.heap.size, 0, none⟩) 1 1 := hd 20 _ _ rfl rfl rfl
              obtain rfl := (show wx = wD from hW)
              exact ⟨_, _, x_append (.tmp 71) (.tmp 91) 35 35 rfl d0 d20 rE, rfl, rfl, fun q v _ _ => facts_free (by simp [free_is]) q v⟩
            · refine opS2_same rfl rfl fun L ac w1 hJ hl hc ho hd => ?_
              have d21 : ac.eval (.tmp 92) = .slice A5 (i + 1) c5 := hd 21 _ _ rfl rfl rfl
              exact ⟨_, x_assign (.tmp 92) rfl d21, rfl⟩
          · intro L a1 wF hI hall
            obtain rfl : wF = wE := by
              obtain ⟨k, hk, hW⟩ := hI.done hall (by decide)
              rcases Nat.eq_or_lt_of_le hk with h4 | h4
              · rw [hW, ← h4]; rfl
              · rw [hW, List.getD_eq_getElem?_getD, List.getElem?_eq_none (by simp at h4 ⊢; omega)]; rfl
            clear p0A p1A p0B p1B p0C p1C p0D p1D p0E p1E p0 p1 rC rE oC oE rowC rowE hB0 hD0 hwA hwB hwD
            have l0 : a1.tmps.getD 0 undef = .pointer (some ⟨b, 0, none⟩) := hI.old 0 (notYet_old rfl)
            have l1 : a1.tmps.getD 1 undef = .agg #[.int .u16 (st : Int), .slice (some ⟨ab, ao, none⟩) n c] := hI.old 1 (notYet_old rfl)
            have l2 : a1.tmps.getD 2 undef = .bool un := hI.old 2 (notYet_old rfl)
            have l3 : a1.tmps.getD 3 undef = .int .i64 (sz : Int) := hI.old 3 (notYet_old rfl)
            have l4 : a1.tmps.getD 4 undef = undef := hI.old 4 (notYet_old rfl)
            have l5 : a1.tmps.getD 5 undef = .pointer (some ⟨q, 0, none⟩) := hI.old 5 (notYet_old rfl)
            have l6 : a1.tmps.getD 6 undef = undef := hI.old 6 (notYet_old rfl)
            have l7 : a1.tmps.getD 7 undef = undef := hI.old 7 (notYet_old rfl)
            have l8 : a1.tmps.getD 8 undef = .slice none 0 0 := hI.old 8 (notYet_old rfl)
            have l9 : a1.tmps.getD 9 undef = .int .i64 0 := hI.old 9 (notYet_old rfl)
            have l10 : a1.tmps.getD 10 undef = .int .u16 (sq : Int) := hI.old 10 (notYet_old rfl)
            have l12 : a1.tmps.getD 12 undef = .int .i64 (a : Int) := hI.old 12 (notYet_old rfl)
            have l13 : a1.tmps.getD 13 undef = .int .i64 (e : Int) := hI.old 13 (notYet_old rfl)
            have l14 : a1.tmps.getD 14 undef = u14 := hI.old 14 (notYet_old rfl)
            have l15 : a1.tmps.getD 15 undef = u15 := hI.old 15 (notYet_old rfl)
            have l16 : a1.tmps.getD 16 undef = u16 := hI.old 16 (notYet_old rfl)
            have l17 : a1.tmps.getD 17 undef = u17 := hI.old 17 (notYet_old rfl)
            have l18 : a1.tmps.getD 18 undef = u18 := hI.old 18 (notYet_old rfl)
            have l19 : a1.tmps.getD 19 undef = u19 := hI.old 19 (notYet_old rfl)
            have l20 : a1.tmps.getD 20 undef = u20 := hI.old 20 (notYet_old rfl)
            have l21 : a1.tmps.getD 21 undef = u21 := hI.old 21 (notYet_old rfl)
            have l22 : a1.tmps.getD 22 undef = u22 := hI.old 22 (notYet_old rfl)
            have l23 : a1.tmps.getD 23 undef = u23 := hI.old 23 (notYet_old rfl)
            have l24 : a1.tmps.getD 24 undef = u24 := hI.old 24 (notYet_old rfl)
            have l25 : a1.tmps.getD 25 undef = u25 := hI.old 25 (notYet_old rfl)
            have l26 : a1.tmps.getD 26 undef = u26 := hI.old 26 (notYet_old rfl)
            have l27 : a1.tmps.getD 27 undef = u27 := hI.old 27 (notYet_old rfl)
            have l28 : a1.tmps.getD 28 undef = u28 := hI.old 28 (notYet_old rfl)
            have l29 : a1.tmps.getD 29 undef = u29 := hI.old 29 (notYet_old rfl)
            have l30 : a1.tmps.getD 30 undef = u30 := hI.old 30 (notYet_old rfl)
            have l31 : a1.tmps.getD 31 undef = u31 := hI.old 31 (notYet_old rfl)
            have l32 : a1.tmps.getD 32 undef = u32 := hI.old 32 (notYet_old rfl)
            have l33 : a1.tmps.getD 33 undef = u33 := hI.old 33 (notYet_old rfl)
            have l34 : a1.tmps.getD 34 undef = u34 := hI.old 34 (notYet_old rfl)
            have l35 : a1.tmps.getD 35 undef = u35 := hI.old 35 (notYet_old rfl)
            have l36 : a1.tmps.getD 36 undef = u36 := hI.old 36 (notYet_old rfl)
            have l37 : a1.tmps.getD 37 undef = u37 := hI.old 37 (notYet_old rfl)
            have l38 : a1.tmps.getD 38 undef = u38 := hI.old 38 (notYet_old rfl)
            have l39 : a1.tmps.getD 39 undef = u39 := hI.old 39 (notYet_old rfl)
            have l40 : a1.tmps.getD 40 undef = u40 := hI.old 40 (notYet_old rfl)
            have l41 : a1.tmps.getD 41 undef = u41 := hI.old 41 (notYet_old rfl)
            have l42 : a1.tmps.getD 42 undef = u42 := hI.old 42 (notYet_old rfl)
            have l43 : a1.tmps.getD 43 undef = u43 := hI.old 43 (notYet_old rfl)
            have l44 : a1.tmps.getD 44 undef = u44 := hI.old 44 (notYet_old rfl)
            have l45 : a1.tmps.getD 45 undef = u45 := hI.old 45 (notYet_old rfl)
            have l46 : a1.tmps.getD 46 undef = u46 := hI.old 46 (notYet_old rfl)
            have l47 : a1.tmps.getD 47 undef = u47 := hI.old 47 (notYet_old rfl)
            have l48 : a1.tmps.getD 48 undef = u48 := hI.old 48 (notYet_old rfl)
            have l49 : a1.tmps.getD 49 undef = u49 := hI.old 49 (notYet_old rfl)
            have l50 : a1.tmps.getD 50 undef = u50 := hI.old 50 (notYet_old rfl)
            have l51 : a1.tmps.getD 51 undef = u51 := hI.old 51 (notYet_old rfl)
            have l52 : a1.tmps.getD 52 undef = u52 := hI.old 52 (notYet_old rfl)
            have l53 : a1.tmps.getD 53 undef = u53 := hI.old 53 (notYet_old rfl)
            have l54 : a1.tmps.getD 54 undef = u54 := hI.old 54 (notYet_old rfl)
            have l55 : a1.tmps.getD 55 undef = u55 := hI.old 55 (notYet_old rfl)
            have l56 : a1.tmps.getD 56 undef = u56 := hI.old 56 (notYet_old rfl)
            have l57 : a1.tmps.getD 57 undef = u57 := hI.old 57 (notYet_old rfl)
            have l58 : a1.tmps.getD 58 undef = u58 := hI.old 58 (notYet_old rfl)
            have l59 : a1.tmps.getD 59 undef = u59 := hI.old 59 (notYet_old rfl)
            have l60 : a1.tmps.getD 60 undef = u60 := hI.old 60 (notYet_old rfl)
            have l61 : a1.tmps.getD 61 undef = u61 := hI.old 61 (notYet_old rfl)
            have l62 : a1.tmps.getD 62 undef = u62 := hI.old 62 (notYet_old rfl)
            have l63 : a1.tmps.getD 63 undef = u63 := hI.old 63 (notYet_old rfl)
            have l64 : a1.tmps.getD 64 undef = u64 := hI.old 64 (notYet_old rfl)
            have l65 : a1.tmps.getD 65 undef = u65 := hI.old 65 (notYet_old rfl)
            have l66 : a1.tmps.getD 66 undef = u66 := hI.old 66 (notYet_old rfl)
            have l67 : a1.tmps.getD 67 undef = u67 := hI.old 67 (notYet_old rfl)
            have l68 : a1.tmps.getD 68 undef = u68 := hI.old 68 (notYet_old rfl)
            have l69 : a1.tmps.getD 69 undef = u69 := hI.old 69 (notYet_old rfl)
            have l70 : a1.tmps.getD 70 undef = u70 := hI.old 70 (notYet_old rfl)
            have l93 : a1.tmps.getD 93 undef = u93 := hI.old 93 (notYet_old rfl)
            have l11 : a1.tmps.getD 11 undef = .slice A5 (i + 1) c5 := hI.get hall (i := 22) rfl rfl
            have hde : a1.defers = [] := hI.defers
            have hal := act_lit a1 94 hI.size
            clear hI
            simp only [List.range, List.range.loop, List.map_cons, List.map_nil] at hal
            rw [l0, l1, l2, l3, l4, l5, l6, l7, l8, l9, l10, l12, l13, l14, l15, l16, l17, l18, l19, l20, l21, l22, l23, l24, l25, l26, l27, l28, l29, l30, l31, l32, l33, l34, l35, l36, l37, l38, l39, l40, l41, l42, l43, l44, l45, l46, l47, l48, l49, l50, l51, l52, l53, l54, l55, l56, l57, l58, l59, l60, l61, l62, l63, l64, l65, l66, l67, l68, l69, l70, l93, l11, hde] at hal
            generalize a1.tmps.getD 71 undef = tm71 at hal
            generalize a1.tmps.getD 72 undef = tm72 at hal
            generalize a1.tmps.getD 73 undef = tm73 at hal
            generalize a1.tmps.getD 74 undef = tm74 at hal
            generalize a1.tmps.getD 75 undef = tm75 at hal
            generalize a1.tmps.getD 76 undef = tm76 at hal
            generalize a1.tmps.getD 77 undef = tm77 at hal
            generalize a1.tmps.getD 78 undef = tm78 at hal
            generalize a1.tmps.getD 79 undef = tm79 at hal
            generalize a1.tmps.getD 80 undef = tm80 at hal
            generalize a1.tmps.getD 81 undef = tm81 at hal
            generalize a1.tmps.getD 82 undef = tm82 at hal
            generalize a1.tmps.getD 83 undef = tm83 at hal
            generalize a1.tmps.getD 84 undef = tm84 at hal
            generalize a1.tmps.getD 85 undef = tm85 at hal
            generalize a1.tmps.getD 86 undef = tm86 at hal
            generalize a1.tmps.getD 87 undef = tm87 at hal
            generalize a1.tmps.getD 88 undef = tm88 at hal
            generalize a1.tmps.getD 89 undef = tm89 at hal
            generalize a1.tmps.getD 90 undef = tm90 at hal
            generalize a1.tmps.getD 91 undef = tm91 at hal
            generalize a1.tmps.getD 92 undef = tm92 at hal
            clear l0 l1 l2 l3 l4 l5 l6 l7 l8 l9 l10 l12 l13 l14 l15 l16 l17 l18 l19 l20 l21 l22 l23 l24 l25 l26 l27 l28 l29 l30 l31 l32 l33 l34 l35 l36 l37 l38 l39 l40 l41 l42 l43 l44 l45 l46 l47 l48 l49 l50 l51 l52 l53 l54 l55 l56 l57 l58 l59 l60 l61 l62 l63 l64 l65 l66 l67 l68 l69 l70 l93 l11 hde
            subst hal
            have hbsl : (bs.drop a).take (e - a) = (bs.drop (i * sz)).take sz := by
              have h3 := HE.out
              have h4 : e - a = min sz (bs.drop a).length := by rw [List.length_drop, HLN.out]; omega
              rw [h4, ← List.take_eq_take_min, ha.out]
            have hbl2 : ((bs.drop a).take (e - a)).length = e - a := by rw [List.length_take, List.length_drop, HLN.out]; omega
            obtain ⟨x, hx⟩ : ∃ x : PcB, x = ⟨cutPc st sq un sz bs i, A3, c3⟩ := ⟨_, rfl⟩
            have hxb : x.p.bs = (bs.drop a).take (e - a) := by rw [hx, hbsl]; rfl
            have hxc : pcc x = [.int .u32 0, .int .u16 (st : Int), .int .u16 (sq : Int), .bool vb, .bool ve, .bool un, .slice A3 (0 + (e - a)) c3] := by
              rw [hx, HV.out.1, HV.out.2]
              have h5 : (cutPc st sq un sz bs i).bs.length = 0 + (e - a) := by
                have h6 : (cutPc st sq un sz bs i).bs = (bs.drop a).take (e - a) := hbsl.symm
                rw [h6, hbl2]; omega
              simp only [pcc, h5]
              rfl
            have HA2R := Lib.hid hR.out
            have hnb : ∀ {k T : Nat} {cs : Array Value}, wc.heap[k]? = some (.cells cs T (0, 0)) → 51 ≠ T → ¬ blk? A2 = some k := fun {k T cs} h h2 e => own_ne HA2R.out h h2 k (by rw [ownBlock_slice]; exact e) rfl
            have hA0 : ab < w.heap.size := HA.out.lt HNE.out rfl
            have F1 : Hid (ps (l ++ [x]) = (List.range (i + 1)).map (cutPc st sq un sz bs)) := Lib.hid (by
              rw [List.range_succ, List.map_append, ← hL.out]
              unfold ps
              rw [List.map_append, hx]; rfl)
            have F2 : Hid (wF.ownsRow w.heap.size 51 7 (.slice A5 (i + 1) c5) (i + 1) ((l ++ [x]).flatMap pcc)) := Lib.hid (by
              rw [List.flatMap_append, List.flatMap_cons, List.flatMap_nil, List.append_nil, hxc]
              exact HROW.out)
            have F3 : Hid (∀ y ∈ l ++ [x], OwnI .u8 5 w.heap.size wF y.A y.p.bs.length y.c y.p.bs) := Lib.hid (fun y hy => by
              rcases List.mem_append.1 hy with h3 | h3
              · exact Out.own HOE.out (hY.out y h3) (fun g hg e => rows_ne (hY.out y h3) HA2R.out (by decide) g hg (by rw [ownBlock_slice]; exact e))
              · rw [List.mem_singleton.1 h3, hxb, hbl2]
                have h4 := HBYTE.out
                rw [Nat.zero_add] at h4
                rw [hx]
                exact h4)
            have F4 : Hid (∀ j, j < i + 1 → j * sz < n) := Lib.hid (fun j hj => by
              by_cases h : j = i
              · rw [h, ← ha.out]; exact hlt
              · exact hJ.out j (by omega))
            have F5 := Lib.hid (HOE.out.blk hB.out (hnb hB.out (by decide)))
            have F6 := Lib.hid (hA.out.outS' HOE.out (fun _ k hk e => by
              have h3 := (row_lt HA2R.out e).1
              have h4 : ab = k := Option.some.inj hk
              omega))
            have F7 := Lib.hid (HOE.out.blk hP.out (hnb hP.out (by decide)))
            have F8 := Lib.hid (hO.out.trans HOE.out (fun k hk => .inr (row_lt HA2R.out hk).1))
            have F9 := Lib.hid (show a + sz = (i + 1) * sz by rw [Nat.add_mul, Nat.one_mul, ← ha.out])
            have hin2 : i + 1 ≤ n := by
              have h3 := ha.out
              have h4 : i * 1 ≤ i * sz := Nat.mul_le_mul_left i h1
              omega
            clear hx hxb hxc hbsl hbl2 hnb HROW HBYTE HOE nB nD r2B r2C r2D qD hnk UA UB UD OB
            go_wp2_with fail
            go_roundw
            case rel => exact ⟨i + 1, a + sz, A5, c5, l ++ [x], rfl, by go_num, F9, by omega, hin2, F1, F2, F3, F4, F5, F6, F7, F8⟩
            case measure => simp [intOf]; omega
      · have e1 : decide ((a : Int) < (n : Int)) = false := by simp; omega
        have hnp : i = npt sz bs.length := npt_eq h1 (by rw [HLN.out, ← ha.out]; omega) (fun j hj => by rw [HLN.out]; exact hJ.out j hj)
        have hlen : l.length = i := by have := congrArg List.length hL.out; simpa [ps] using this
        have HLE := Lib.hid hlen
        have HNP := Lib.hid hnp
        clear hlen hnp
        go_wp2_with fail
        go_ret2
        refine ⟨0, l, A2, c2, nx', by rw [HLE.out]; rfl, Lib.hid (.inr (.inr ⟨?_, by rw [HLN.out]; exact hn, rfl, ?_, HSQ.out.2.symm⟩)), hB, by rw [HLE.out]; exact hR, hY, hO⟩
        · unfold CutBad; rw [HLN.out]; omega
        · rw [hL.out, HNP.out, ← HSQ.out.1]
          rfl
theorem rcut_any (b st n c : Nat) (A : Option Addr) (un : Bool) (sz : Int) (bs : List Int) (nx : Nat → Nat) (w : World) (hA : InB w A n c bs) (hB : CutB 29 w b nx) :
    Calls Try.prog 12 #[.pointer (some ⟨b, 0, none⟩), .agg #[.int .u16 (st : Int), .slice A n c], .bool un, .int .i64 sz] w (CutPost 29 b nx st un sz bs w) := by
  have hl := hA.len
  by_cases hbad : n = 0 ∨ 8 ≤ st ∨ sz < 1 ∨ 256 < sz
  · refine (rcut_bad b st n c A un sz w hbad).mono ?_
    rintro e w1 ⟨rfl, hU⟩
    exact ⟨1, [], none, 0, nx, rfl, Lib.hid (.inl ⟨by unfold CutBad; rw [hl]; exact hbad, rfl, rfl, rfl⟩), Lib.hid ((hU.out.block b (lt_of_blk hB)).trans hB), Lib.hid (World.ownsRow_nil _ _ _ _), Lib.hid (fun x hx => by cases hx), Lib.hid (hU.out.out _)⟩
  · obtain ⟨k, rfl⟩ : ∃ k : Nat, sz = (k : Int) := ⟨sz.toNat, by omega⟩
    by_cases hbig : 4096 < n
    · refine (rcut_large b st n c A un k w (by omega) (by omega) (by omega) hbig).mono ?_
      rintro e w1 ⟨rfl, hU⟩
      exact ⟨4, [], none, 0, nx, rfl, Lib.hid (.inr (.inl ⟨by unfold CutBad; rw [hl]; exact hbad, by omega, rfl, rfl, rfl⟩)), Lib.hid ((hU.out.block b (lt_of_blk hB)).trans hB), Lib.hid (World.ownsRow_nil _ _ _ _), Lib.hid (fun x hx => by cases hx), Lib.hid (hU.out.out _)⟩
    · exact rcut_ok b st n c A un k bs nx w (by omega) (by omega) (by omega) (by omega) (by omega) hA hB
end Go.Proofs.Ytgcabidhpnaoiaa
