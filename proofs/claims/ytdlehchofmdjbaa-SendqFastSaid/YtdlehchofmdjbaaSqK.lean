import Derived.Test.YtdlehchofmdjbaaSqV
import Derived.Test.YtdlehchofmdjbaaStaged
namespace Go.Proofs.Ytdlehchofmdjbaa
open Go Go.RowKit Sq
set_option linter.unusedVariables false
set_option linter.unusedSimpArgs false
/-! acknowledge. -/
namespace Sq
def ackB (d : Nat) (G : List (Nat × Nat)) (i : Nat) (y : ItB) : ItB := ⟨{ y.x with ack := hit d G i, mkd := y.x.mkd && !hit d G i }, y.A, y.c⟩
def ackL (d : Nat) (G : List (Nat × Nat)) (i : Nat) (L : List ItB) : List ItB := L.mapIdx fun j y => if j < i then ackB d G j y else y
def ackT (d : Nat) (G : List (Nat × Nat)) (i : Nat) (p : Int) (y : ItB) : Int := if hit d G i && !y.x.ack && decide (y.x.path = p) then (y.x.p.bs.length : Int) else 0
def ackS (d : Nat) (G : List (Nat × Nat)) (L : List ItB) (p : Int) : Nat → Int
  | 0 => 0
  | i + 1 => ackS d G L p i + (match L[i]? with | some y => ackT d G i p y | none => 0)
theorem ackL_zero (d : Nat) (G : List (Nat × Nat)) (L : List ItB) : ackL d G 0 L = L := by
  unfold ackL
  apply List.ext_getElem?
  intro j
  rw [List.getElem?_mapIdx]
  cases L[j]? <;> simp
theorem ackL_len (d : Nat) (G : List (Nat × Nat)) (i : Nat) (L : List ItB) : (ackL d G i L).length = L.length := by simp [ackL]
theorem ackL_at {d : Nat} {G : List (Nat × Nat)} {i : Nat} {L : List ItB} {y : ItB} (h : L[i]? = some y) : (ackL d G i L)[i]? = some y := by
  unfold ackL
  rw [List.getElem?_mapIdx, h]
  simp
theorem ackL_step {d : Nat} {G : List (Nat × Nat)} {i : Nat} {L : List ItB} {y : ItB} (h : L[i]? = some y) : (ackL d G i L).set i (ackB d G i y) = ackL d G (i + 1) L := by
  have hi : i < L.length := (List.getElem?_eq_some_iff.1 h).1
  apply List.ext_getElem?
  intro j
  rw [List.getElem?_set, ackL_len]
  unfold ackL
  rw [List.getElem?_mapIdx, List.getElem?_mapIdx]
  by_cases e : i = j
  · subst e; rw [if_pos rfl, if_pos hi, h]; simp
  · rw [if_neg e]
    cases hj : L[j]? with
    | none => rfl
    | some z =>
      have : (j < i) = (j < i + 1) := propext ⟨fun _ => by omega, fun _ => by omega⟩
      simp [this]
theorem ackS_step {d : Nat} {G : List (Nat × Nat)} {L : List ItB} {p : Int} {i : Nat} {y : ItB} (h : L[i]? = some y) : ackS d G L p (i + 1) = ackS d G L p i + ackT d G i p y := by rw [ackS, h]
theorem ackT_bd {d : Nat} {G : List (Nat × Nat)} {i : Nat} {p : Int} {y : ItB} (h : y.x.p.bs.length ≤ 256) : 0 ≤ ackT d G i p y ∧ ackT d G i p y ≤ 256 := by
  unfold ackT; split <;> omega
theorem ackS_bd {d : Nat} {G : List (Nat × Nat)} {L : List ItB} {p : Int} (h : ∀ y ∈ L, y.x.p.bs.length ≤ 256) (i : Nat) : 0 ≤ ackS d G L p i ∧ ackS d G L p i ≤ 256 * (i : Int) := by
  induction i with
  | zero => simp [ackS]
  | succ i ih =>
    rw [ackS]
    cases hj : L[i]? with
    | none => simp only; omega
    | some y =>
      have := ackT_bd (d := d) (G := G) (i := i) (p := p) (h y (List.mem_of_getElem? hj))
      simp only; omega
def AckPost (d : Nat) (G : List (Nat × Nat)) (o : Nat) (A : Option Addr) (n c : Nat) (L : List ItB) (w : World) (e : Ending) (w' : World) : Prop := ∃ a, e = .returned (.slice (some ⟨a, 0, none⟩) 2 2) ∧ Hid (w.heap.size ≤ a) ∧
  Hid (w'.heap[a]? = some (.cells #[.int .i64 (ackS d G L 0 o), .int .i64 (ackS d G L 1 o)] 3 (0, 0))) ∧ Hid (w'.ownsRow 0 56 11 (.slice A n c) n ((ackL d G o L).flatMap itc)) ∧ Hid (Out (fun k => blk? A = some k) w w')
end Sq
section
variable {P : Program} {ops : Array Oper} {Φ : Nat → Value → World → Prop} {a0 : Act}
/-- A guarded call that is made, and makes memory. -/
theorem opS_callUpG {ws : List Nat} {W : Nat → World → Prop} {i : Nat} {o : Oper} (j : Nat) (b : Bool) (oj : Oper) (d : Tmp) (hg : o.guard = some (j, b)) (hin : (o.after.toList.any fun e => e.on == j && Region.binds .any e) = true) (hj : ops[j]? = some oj) (hdj : oj.dst = some d) (hv : ∀ v w, Φ j v w → v = .bool b) (hi : ws.contains i = false)
    (hW : ∀ k w w', W k w → Up w w' → W k w') (hF : ∀ j x w w', Φ j x w → Up w w' → Φ j x w')
    (h : ∀ (L : Nat → Bool) (a : Act) (w : World), Stg ws W L w → L i = false → Closed ops L → (∀ t, oldB ops t = true → a.tmps.getD t undef = a0.tmps.getD t undef) →
      (∀ (j : Nat) (oj : Oper) (d : Tmp), (o.after.toList.any fun e => e.on == j && Region.binds .any e) = true → ops[j]? = some oj → oj.dst = some d → Φ j (a.tmps.getD d undef) w) → ∃ f args, (execOp a.eval o).run P w = .ok (.enter f args) w ∧ Calls P f args w fun e w' => ∃ v, e = .returned v ∧ Up w w' ∧ Φ i v w') : OpS P ops Φ (Stg ws W) a0 i o := by
  intro L a w hJ hl hc _ _ ho hd
  have hy := yielded_of (tmps := a.tmps) hj hdj (hv _ w (hd j oj d hin hj hdj))
  rw [if_pos (by simp [Region.wanted, hg, hy])]
  obtain ⟨f, args, hr, hcall⟩ := h L a w hJ hl hc ho hd
  unfold Oper.wp
  rw [hr]
  refine Calls.mono hcall fun e w' ⟨v, he, hu, hv⟩ => ?_
  subst he
  exact ⟨⟨v, rfl, hv⟩, hJ.same hi (fun k hk => hW k w w' hk hu), fun j x _ hj => hF j x w w' hj hu⟩
end
theorem x_not {P : Program} {o : Oper} {a : Act} {w : World} (t : TypeId) (x : Operand) {b : Bool} (ho : o.op = .unOp .not t x) (hx : a.eval x = .bool b) : (execOp a.eval o).run P w = .ok (.value (.bool !b)) w := by simp [execOp, ho, hx, Op.unary, asBool]
theorem frz_up {w w' : World} {b j : Nat} (hu : Up w w') (hc : (w.cell? ⟨b, j, none⟩).isSome = true) : w'.frozen? ⟨b, j, none⟩ = w.frozen? ⟨b, j, none⟩ := by
  obtain ⟨v, hv⟩ := Option.isSome_iff_exists.1 hc
  unfold World.frozen?
  rw [hu.block b (cell_lt hv)]
theorem run_lss3 (a b : Int) (v : Bool) (h : decide (a < b) = v) (w : World) : (binOp .lss 3 (.int .i64 a) (.int .i64 b)).run Try.prog w = .ok (.bool v) w := by subst h; simp [go_sem]
theorem grdL3 (x y : Operand) (a b : Int) (w : World) : (eqGuard .lss 3 x y (.int .i64 a) (.int .i64 b)).run Try.prog w = .ok () w := by kernel_rfl
theorem run_sub22 (a b v : Int) (h : (a - b) % 4294967296 = v) (w : World) : (binOp .sub 22 (.int .u32 a) (.int .u32 b)).run Try.prog w = .ok (.int .u32 v) w := by subst h; simp [go_sem, IntKind.wrap_u32']
theorem grdS22 (x y : Operand) (a b : Int) (w : World) : (eqGuard .sub 22 x y (.int .u32 a) (.int .u32 b)).run Try.prog w = .ok () w := by kernel_rfl
theorem run_add3 (a b v : Int) (h : a + b = v) (h0 : 0 ≤ v) (h1 : v ≤ 1000000) (w : World) : (binOp .add 3 (.int .i64 a) (.int .i64 b)).run Try.prog w = .ok (.int .i64 v) w := by
  subst h
  have hw : IntKind.i64.wrap (a + b) = a + b := by rw [IntKind.wrap_i64]; omega
  simp [go_sem, hw]
theorem grdA3 (x y : Operand) (a b : Int) (w : World) : (eqGuard .add 3 x y (.int .i64 a) (.int .i64 b)).run Try.prog w = .ok () w := by kernel_rfl
namespace Sq
/-- The world while one cell of an item is written. -/
def OneW (wr : World) (g n c : Nat) (M : List ItB) : Nat → World → Prop
  | 0, x => Up wr x
  | _ + 1, x => x.ownsRow 0 56 11 (.slice (some ⟨g, 0, none⟩) n c) n (M.flatMap itc) ∧ Out (fun k => k = g) wr x
theorem oneW_up {wr : World} {g n c : Nat} {M : List ItB} : ∀ (k : Nat) (w w' : World), OneW wr g n c M k w → Up w w' → OneW wr g n c M k w'
  | 0, w, w', h, hu => Up.trans (show Up wr w from h) hu
  | _ + 1, w, w', h, hu => ⟨own_up h.1 hu, h.2.trans (hu.out (fun k => k = g)) (Sub.refl _ _)⟩
theorem one_store {wr x : World} {g n c i j : Nat} {M : List ItB} {y y' : ItB} {v : Value} (hr : wr.ownsRow 0 56 11 (.slice (some ⟨g, 0, none⟩) n c) n (M.flatMap itc)) (hy : M[i]? = some y) (hj : j < 11) (hf : itc y' = (itc y).set j v) (hu : Up wr x) :
    OneW wr g n c (M.set i y') 1 (x.setCell ⟨g, i * 11 + j, none⟩ v) := by
  have h1 := (World.ownsRow.stored (own_up hr hu) (i * 11 + j) v).1
  rw [flat_set itc 11 itc_len hy hj hf] at h1
  exact ⟨h1, (hu.out (fun k => k = g)).trans (setCell_out _ _ _ _) (Sub.refl _ _)⟩
end Sq
theorem idx35_0 (a : Nat) (w : World) : (Instr.indexAt 35 (.slice (some ⟨a, 0, none⟩) 2 2) (.int .i64 0)).run Try.prog w = .ok (.pointer (some ⟨a, 0, none⟩)) w := by kernel_rfl
theorem idx35_1 (a : Nat) (w : World) : (Instr.indexAt 35 (.slice (some ⟨a, 0, none⟩) 2 2) (.int .i64 1)).run Try.prog w = .ok (.pointer (some ⟨a, 1, none⟩)) w := by kernel_rfl
namespace Sq
/-- The world while one of two sums is written. -/
def AccW (wr : World) (a : Nat) (u v : Int) : Nat → World → Prop
  | 0, x => Up wr x
  | _ + 1, x => x.heap[a]? = some (.cells #[.int .i64 u, .int .i64 v] 3 (0, 0)) ∧ Out (fun k => k = a) wr x
end Sq
theorem make2 (w : World) : (Instr.makeSlice 35 (.int .i64 2) (.int .i64 2)).run Try.prog w = .ok (.slice (some ⟨w.heap.size, 0, none⟩) 2 2) (w.alloc (.cells #[.int .i64 0, .int .i64 0] 3)) := by kernel_rfl
set_option maxRecDepth 100000 in
set_option maxHeartbeats 8000000 in
theorem ack_any (q cu cu2 wi d o : Nat) (A : Option Addr) (n c : Nat) (L : List ItB) (GA DA : Option Addr) (gn gc dn dc : Nat) (G : List (Nat × Nat)) (w : World) (hq : w.heap[q]? = some (.cells (qcl cu A n c o) 52 (0, 0))) (hA : blk? A ≠ some q) (hn : n = L.length) (hn2 : n ≤ 256) (ho : o ≤ n)
    (hrow : w.ownsRow 0 56 11 (.slice A n c) n (L.flatMap itc)) (hG : InGs w GA gn gc G) (hGA : ∀ k, blk? GA = some k → blk? A ≠ some k) (hgn : gn ≤ 100000) (hcu : cu < 4294967296) (hcu2 : cu2 < 4294967296) (hd : d = (cu2 + 4294967296 - cu) % 4294967296) (hdo : d ≤ o)
    (htsn : ∀ i y, L[i]? = some y → y.x.p.tsn = (cu + 1 + i) % 4294967296) (hbs : ∀ y ∈ L, y.x.p.bs.length ≤ 256) :
    Calls Try.prog 21 #[.pointer (some ⟨q, 0, none⟩), .agg #[.int .u32 (cu2 : Int), .int .u32 (wi : Int), .slice GA gn gc, .slice DA dn dc]] w (AckPost d G o A n c L w) := by
  have HQ := Lib.hid hq
  have HA := Lib.hid hA
  have HN := Lib.hid hn
  have HR := Lib.hid hrow
  have HG := Lib.hid hG
  have HGA := Lib.hid hGA
  have HD := Lib.hid hd
  have HT := Lib.hid htsn
  have HS := Lib.hid hbs
  have hnc := (row_cap hrow).1
  have HB := Lib.hid (new_at w (.cells #[.int .u32 (cu2 : Int), .int .u32 (wi : Int), .slice GA gn gc, .slice DA dn dc] 43))
  have HU := Lib.hid (up_alloc w (.cells #[.int .u32 (cu2 : Int), .int .u32 (wi : Int), .slice GA gn gc, .slice DA dn dc] 43))
  clear hq hA hn hrow hG hGA hd htsn hbs
  go_enter Try.func21, Try.ntmps21
  go_upto_region 1 with (fail)
  generalize w.alloc (.cells #[.int .u32 (cu2 : Int), .int .u32 (wi : Int), .slice GA gn gc, .slice DA dn dc] 43) = w1 at HB HU ⊢
  obtain ⟨b, hb⟩ : ∃ b, b = w.heap.size := ⟨_, rfl⟩
  rw [← hb] at HB ⊢
  have HBB := Lib.hid hb
  clear hb
  have hmk := make2 w1
  go_upto_region 2 with (fail)
  have HA2 := Lib.hid (new_at w1 (.cells #[.int .i64 0, .int .i64 0] 3))
  have HU1 := Lib.hid (up_alloc w1 (.cells #[.int .i64 0, .int .i64 0] 3))
  clear hmk
  generalize w1.alloc (.cells #[.int .i64 0, .int .i64 0] 3) = w2 at HA2 HU1 ⊢
  obtain ⟨a, ha⟩ : ∃ a, a = w1.heap.size := ⟨_, rfl⟩
  rw [← ha] at HA2 ⊢
  have HAA := Lib.hid (show b < a by rw [ha]; exact lt_of_blk HB.out)
  have HU2 := Lib.hid (HU.out.trans HU1.out)
  have HB2 := Lib.hid ((HU1.out.block _ (lt_of_blk HB.out)).trans HB.out)
  have HQ2 := Lib.hid ((HU2.out.block _ (lt_of_blk HQ.out)).trans HQ.out)
  have HR2 := Lib.hid (own_up HR.out HU2.out)
  clear ha HB HU HU1
  have b0 : w2.cell? ⟨b, 0, none⟩ = some (.int .u32 (cu2 : Int)) := cell_of HB2.out rfl
  have q0 : w2.cell? ⟨q, 0, none⟩ = some (.int .u32 (cu : Int)) := cell_of HQ2.out rfl
  have HE := Lib.hid (show ((cu2 : Int) - (cu : Int)) % 4294967296 = (d : Int) by rw [HD.out]; omega)
  go_quiet (fail)
  rw [HE.out]
  have HU3 := Lib.hid (HU2.out.trans (up_drewN w2 nq))
  have HB3 := Lib.hid (((up_drewN w2 nq).block _ (lt_of_blk HB2.out)).trans HB2.out)
  have HQ3 := Lib.hid (((up_drewN w2 nq).block _ (lt_of_blk HQ2.out)).trans HQ2.out)
  have HA3 := Lib.hid (((up_drewN w2 nq).block _ (lt_of_blk HA2.out)).trans HA2.out)
  have HR3 := Lib.hid (own_up HR2.out (up_drewN w2 nq))
  generalize w2.drewN nq = w3 at HU3 HB3 HQ3 HA3 HR3 ⊢
  have q2 : w3.cell? ⟨q, 2, none⟩ = some (.int .i64 (o : Int)) := cell_of HQ3.out rfl
  clear b0 q0 HB2 HQ2 HA2 HR2 HU2
  go_wp2_with fail
  go_loopw [23] (fun iv wr => ∃ i : Nat, i ≤ o ∧ iv = .int .i64 (i : Int) ∧ Hid (wr.heap[b]? = some (.cells #[.int .u32 (cu2 : Int), .int .u32 (wi : Int), .slice GA gn gc, .slice DA dn dc] 43 (0, 0))) ∧ Hid (wr.heap[a]? = some (.cells #[.int .i64 (ackS d G L 0 i), .int .i64 (ackS d G L 1 i)] 3 (0, 0))) ∧ Hid (wr.ownsRow 0 56 11 (.slice A n c) n ((ackL d G i L).flatMap itc)) ∧ Hid (Out (fun k => blk? A = some k) w wr)) (fun iv _ => o - (intOf iv).toNat)
  case atStart => exact ⟨0, Nat.zero_le _, rfl, HB3, HA3, by rw [ackL_zero]; exact HR3, Lib.hid (HU3.out.out _)⟩
  case round =>
    clear HB3 HA3 HR3 HU3 HQ3
    obtain ⟨i, hi, rfl, HBi, HAi, HRi, HOi⟩ := hrel
    have HQi := Lib.hid (HOi.out.blk HQ.out (fun e => HA.out e))
    by_cases hlt : i < o
    · obtain ⟨y, hy⟩ : ∃ y, L[i]? = some y := ⟨_, List.getElem?_eq_getElem (by rw [← HN.out]; omega)⟩
      have HY := Lib.hid hy
      obtain ⟨g, rfl⟩ := row_at HRi.out (by omega)
      have hyi := ackL_at (d := d) (G := G) hy
      have hc : ∀ (j : Nat) (v : Value), (itc y)[j]? = some v → wr.cell? ⟨g, i * 11 + j, none⟩ = some v := fun j v hj => row_cell HRi.out (rowG_at itc 11 itc_len hyi hj)
      have hin : i < n := by omega
      have q1 : wr.cell? ⟨q, 1, none⟩ = some (.slice (some ⟨g, 0, none⟩) n c) := cell_of HQi.out rfl
      have k9 := hc 9 _ rfl
      have HYI := Lib.hid hyi
      clear hy hyi hc
      have hg9 : ∀ j, j < 11 → (wr.cell? ⟨g, i * 11 + j, none⟩).isSome = true := fun j hj => by
        have hh : (itc y)[j]? = some ((itc y)[j]'(by rw [itc_len]; exact hj)) := List.getElem?_eq_getElem _
        rw [row_cell HRi.out (rowG_at itc 11 itc_len HYI.out hh)]; rfl
      have HC9 := Lib.hid hg9
      have HF9 := Lib.hid (fun j => World.ownsRow.frozenAt HRi.out j)
      have t0 : wr.cell? ⟨g, i * 11, none⟩ = some (.int .u32 (y.x.p.tsn : Int)) := by have := row_cell HRi.out (rowG_at itc 11 itc_len HYI.out (j := 0) rfl); exact this
      have b0 : wr.cell? ⟨b, 0, none⟩ = some (.int .u32 (cu2 : Int)) := cell_of HBi.out rfl
      have b2 : wr.cell? ⟨b, 2, none⟩ = some (.slice GA gn gc) := cell_of HBi.out rfl
      have HGi := Lib.hid (show ∀ x, Up wr x → InGs x GA gn gc G from fun x hx => InGs.up ⟨HG.out.cells.outS HOi.out HGA.out, HG.out.len, HG.out.cap, HG.out.bd⟩ hx)
      clear hg9
      go_upto_region 8 with (fail)
      go_cut [36] (fun s wx => s = .pointer (some ⟨g, i * 11, none⟩) ∧ Hid (OneW wr g n c ((ackL d G i L).set i ⟨{ y.x with ack := hit d G i }, y.A, y.c⟩) 1 wx))
      case first =>
        have hy9 : itc ⟨{ y.x with ack := hit d G i }, y.A, y.c⟩ = (itc y).set 9 (.bool (hit d G i)) := rfl
        have HY9 := Lib.hid hy9
        clear hy9
        by_cases hid : i < d
        · have HH := Lib.hid (show hit d G i = true by unfold hit; simp; exact .inl (by omega))
          refine staged_lit (by kernel_rfl) (facts [Is (.pointer (some ⟨g, i * 11, none⟩)), Is (.int .i64 (i : Int)), Is (.int .i64 (d : Int)), Is (.bool true), Is (.bool true), Tru, Tru, Tru, Tru, Tru, Tru, Tru, Tru, Tru, Tru, Tru, Is (.bool (hit d G i)), Is (.pointer (some ⟨g, i * 11, none⟩)), Is (.pointer (some ⟨g, i * 11 + 9, none⟩)), Tru]) (Stg [19] (OneW wr g n c ((ackL d G i L).set i ⟨{ y.x with ack := hit d G i }, y.A, y.c⟩))) 110 rfl rfl rfl (Stg.start (Up.drew wr)) ?_ ?_
          · refine ⟨?_, ?_, ?_, ?_, ?_, ?_, ?_, ?_, ?_, ?_, ?_, ?_, ?_, ?_, ?_, ?_, ?_, ?_, ?_, ?_, trivial⟩
            · refine opS_same rfl rfl fun Lx ac w1 hJ hl hc ho hd => ?_
              have s8 : ac.eval (.tmp 8) = .pointer (some ⟨g, i * 11, none⟩) := ho 8 rfl
              exact ⟨_, x_move (.tmp 8) rfl s8, rfl⟩
            · refine opS_same rfl rfl fun Lx ac w1 hJ hl hc ho hd => ?_
              have s7 : ac.eval (.tmp 7) = .int .i64 (i : Int) := ho 7 rfl
              exact ⟨_, x_move (.tmp 7) rfl s7, rfl⟩
            · refine opS_same rfl rfl fun Lx ac w1 hJ hl hc ho hd => ?_
              have s6 : ac.eval (.tmp 6) = .int .i64 (d : Int) := ho 6 rfl
              exact ⟨_, x_move (.tmp 6) rfl s6, rfl⟩
            · refine opS_same rfl rfl fun Lx ac w1 hJ hl hc ho hd => ?_
              have d1 : ac.eval (.tmp 37) = .int .i64 (i : Int) := hd 1 _ _ rfl rfl rfl
              have d2 : ac.eval (.tmp 38) = .int .i64 (d : Int) := hd 2 _ _ rfl rfl rfl
              exact ⟨_, x_bin .lss 3 3 (.tmp 37) (.tmp 38) rfl d1 d2 (grdL3 _ _ _ _ _) (run_lss3 _ _ _ (by simp; omega) _), rfl⟩
            · refine opS_same rfl rfl fun Lx ac w1 hJ hl hc ho hd => ?_
              have d3 : ac.eval (.tmp 39) = .bool true := hd 3 _ _ rfl rfl rfl
              exact ⟨_, x_move (.tmp 39) rfl d3, rfl⟩
            · exact opS_skip 4 false true (by decide) _ _ rfl rfl rfl rfl (fun _ _ h => h) rfl (fun _ => trivial)
            · exact opS_skip 4 false true (by decide) _ _ rfl rfl rfl rfl (fun _ _ h => h) rfl (fun _ => trivial)
            · exact opS_skip 4 false true (by decide) _ _ rfl rfl rfl rfl (fun _ _ h => h) rfl (fun _ => trivial)
            · exact opS_skip 4 false true (by decide) _ _ rfl rfl rfl rfl (fun _ _ h => h) rfl (fun _ => trivial)
            · exact opS_skip 4 false true (by decide) _ _ rfl rfl rfl rfl (fun _ _ h => h) rfl (fun _ => trivial)
            · exact opS_skip 4 false true (by decide) _ _ rfl rfl rfl rfl (fun _ _ h => h) rfl (fun _ => trivial)
            · exact opS_skip 4 false true (by decide) _ _ rfl rfl rfl rfl (fun _ _ h => h) rfl (fun _ => trivial)
            · exact opS_skip 4 false true (by decide) _ _ rfl rfl rfl rfl (fun _ _ h => h) rfl (fun _ => trivial)
            · exact opS_skip 4 false true (by decide) _ _ rfl rfl rfl rfl (fun _ _ h => h) rfl (fun _ => trivial)
            · exact opS_skip 4 false true (by decide) _ _ rfl rfl rfl rfl (fun _ _ h => h) rfl (fun _ => trivial)
            · exact opS_skip 4 false true (by decide) _ _ rfl rfl rfl rfl (fun _ _ h => h) rfl (fun _ => trivial)
            · refine opS_same rfl rfl fun Lx ac w1 hJ hl hc ho hd => ?_
              have d4 : ac.eval (.tmp 40) = .bool true := hd 4 _ _ rfl rfl rfl
              have d15 := hd 15 _ _ rfl rfl rfl
              exact ⟨_, x_pick (.tmp 40) (.const (.bool true)) (.tmp 51) (b := true) (Y := ac.eval (.tmp 51)) rfl d4 (fun _ => rfl) (fun h => absurd h (by decide)), by rw [HH.out]; rfl⟩
            · refine opS_same rfl rfl fun Lx ac w1 hJ hl hc ho hd => ?_
              have d0 : ac.eval (.tmp 36) = .pointer (some ⟨g, i * 11, none⟩) := hd 0 _ _ rfl rfl rfl
              exact ⟨_, x_nil (.tmp 36) rfl d0, rfl⟩
            · refine opS_same rfl rfl fun Lx ac w1 hJ hl hc ho hd => ?_
              have d17 : ac.eval (.tmp 53) = .pointer (some ⟨g, i * 11, none⟩) := hd 17 _ _ rfl rfl rfl
              exact ⟨_, x_field 56 (.tmp 53) 3 rfl d17 (fld563 _ _ _), rfl⟩
            · refine opS_write (j := 0) rfl rfl (by decide) rfl (fun _ _ h => absurd h (by omega)) fun ac wx hW ho hd => ?_
              have d18 : ac.eval (.tmp 54) = .pointer (some ⟨g, i * 11 + 9, none⟩) := hd 18 _ _ rfl rfl rfl
              have d16 : ac.eval (.tmp 52) = .bool (hit d G i) := hd 16 _ _ rfl rfl rfl
              exact ⟨_, x_store 4 (.tmp 54) (.tmp 52) rfl d18 d16 (run_store1c siz4 (by rw [cell_up (w := wr) (Option.get_mem (HC9.out 9 (by omega))) hW]; rfl) (by rw [frz_up hW (HC9.out 9 (by omega))]; exact HF9.out _) rfl rfl), one_store HRi.out HYI.out (by omega) HY9.out hW, fun _ => trivial, fun q v => facts_free (by simp [free_is, free_tru]) q v⟩
          · intro L9 a9 wF hI hall
            obtain ⟨k, hk, hW⟩ := hI.done hall (by decide)
            have hWF : OneW wr g n c ((ackL d G i L).set i ⟨{ y.x with ack := hit d G i }, y.A, y.c⟩) 1 wF := by
              cases k with
              | zero => simp at hk
              | succ k => exact hW
            have l0 : a9.tmps.getD 0 undef = .pointer (some ⟨q, 0, none⟩) := hI.old 0 rfl
            have l1 : a9.tmps.getD 1 undef = .agg #[.int .u32 (cu2 : Int), .int .u32 (wi : Int), .slice GA gn gc, .slice DA dn dc] := hI.old 1 rfl
            have l2 : a9.tmps.getD 2 undef = undef := hI.old 2 rfl
            have l3 : a9.tmps.getD 3 undef = .pointer (some ⟨b, 0, none⟩) := hI.old 3 rfl
            have l4 : a9.tmps.getD 4 undef = .slice none 0 0 := hI.old 4 rfl
            have l5 : a9.tmps.getD 5 undef = .slice (some ⟨a, 0, none⟩) 2 2 := hI.old 5 rfl
            have l6 : a9.tmps.getD 6 undef = .int .i64 (d : Int) := hI.old 6 rfl
            have l7 : a9.tmps.getD 7 undef = .int .i64 (i : Int) := hI.old 7 rfl
            have l8 : a9.tmps.getD 8 undef = .pointer (some ⟨g, i * 11, none⟩) := hI.old 8 rfl
            have l9 : a9.tmps.getD 9 undef = .bool y.x.ack := hI.old 9 rfl
            have l10 : a9.tmps.getD 10 undef = .slice (some ⟨a, 0, none⟩) 2 2 := hI.old 10 rfl
            have l11 : a9.tmps.getD 11 undef = .pointer (some ⟨b, 0, none⟩) := hI.old 11 rfl
            have l12 : a9.tmps.getD 12 undef = .int .u32 (cu2 : Int) := hI.old 12 rfl
            have l13 : a9.tmps.getD 13 undef = .pointer (some ⟨q, 0, none⟩) := hI.old 13 rfl
            have l14 : a9.tmps.getD 14 undef = .pointer (some ⟨q, 0, none⟩) := hI.old 14 rfl
            have l15 : a9.tmps.getD 15 undef = .pointer (some ⟨q, 0, none⟩) := hI.old 15 rfl
            have l16 : a9.tmps.getD 16 undef = .int .u32 (cu : Int) := hI.old 16 rfl
            have l17 : a9.tmps.getD 17 undef = .int .u32 (d : Int) := hI.old 17 rfl
            have l18 : a9.tmps.getD 18 undef = .int .i64 (d : Int) := hI.old 18 rfl
            have l19 : a9.tmps.getD 19 undef = .pointer (some ⟨q, 0, none⟩) := hI.old 19 rfl
            have l20 : a9.tmps.getD 20 undef = .pointer (some ⟨q, 0, none⟩) := hI.old 20 rfl
            have l21 : a9.tmps.getD 21 undef = .pointer (some ⟨q, 2, none⟩) := hI.old 21 rfl
            have l22 : a9.tmps.getD 22 undef = .int .i64 (o : Int) := hI.old 22 rfl
            have l23 : a9.tmps.getD 23 undef = .int .i64 (i : Int) := hI.old 23 rfl
            have l109 : a9.tmps.getD 109 undef = undef := hI.old 109 rfl
            have l36 : a9.tmps.getD 36 undef = .pointer (some ⟨g, i * 11, none⟩) := hI.get hall (i := 0) rfl rfl
            have hde : a9.defers = [] := hI.defers
            have hal := act_lit a9 110 hI.size
            clear hI
            simp only [List.range, List.range.loop, List.map_cons, List.map_nil] at hal
            rw [l0, l1, l2, l3, l4, l5, l6, l7, l8, l9, l10, l11, l12, l13, l14, l15, l16, l17, l18, l19, l20, l21, l22, l23, l109, l36, hde] at hal
            generalize a9.tmps.getD 24 undef = t24 at hal
            generalize a9.tmps.getD 25 undef = t25 at hal
            generalize a9.tmps.getD 26 undef = t26 at hal
            generalize a9.tmps.getD 27 undef = t27 at hal
            generalize a9.tmps.getD 28 undef = t28 at hal
            generalize a9.tmps.getD 29 undef = t29 at hal
            generalize a9.tmps.getD 30 undef = t30 at hal
            generalize a9.tmps.getD 31 undef = t31 at hal
            generalize a9.tmps.getD 32 undef = t32 at hal
            generalize a9.tmps.getD 33 undef = t33 at hal
            generalize a9.tmps.getD 34 undef = t34 at hal
            generalize a9.tmps.getD 35 undef = t35 at hal
            generalize a9.tmps.getD 37 undef = t37 at hal
            generalize a9.tmps.getD 38 undef = t38 at hal
            generalize a9.tmps.getD 39 undef = t39 at hal
            generalize a9.tmps.getD 40 undef = t40 at hal
            generalize a9.tmps.getD 41 undef = t41 at hal
            generalize a9.tmps.getD 42 undef = t42 at hal
            generalize a9.tmps.getD 43 undef = t43 at hal
            generalize a9.tmps.getD 44 undef = t44 at hal
            generalize a9.tmps.getD 45 undef = t45 at hal
            generalize a9.tmps.getD 46 undef = t46 at hal
            generalize a9.tmps.getD 47 undef = t47 at hal
            generalize a9.tmps.getD 48 undef = t48 at hal
            generalize a9.tmps.getD 49 undef = t49 at hal
            generalize a9.tmps.getD 50 undef = t50 at hal
            generalize a9.tmps.getD 51 undef = t51 at hal
            generalize a9.tmps.getD 52 undef = t52 at hal
            generalize a9.tmps.getD 53 undef = t53 at hal
            generalize a9.tmps.getD 54 undef = t54 at hal
            generalize a9.tmps.getD 55 undef = t55 at hal
            generalize a9.tmps.getD 56 undef = t56 at hal
            generalize a9.tmps.getD 57 undef = t57 at hal
            generalize a9.tmps.getD 58 undef = t58 at hal
            generalize a9.tmps.getD 59 undef = t59 at hal
            generalize a9.tmps.getD 60 undef = t60 at hal
            generalize a9.tmps.getD 61 undef = t61 at hal
            generalize a9.tmps.getD 62 undef = t62 at hal
            generalize a9.tmps.getD 63 undef = t63 at hal
            generalize a9.tmps.getD 64 undef = t64 at hal
            generalize a9.tmps.getD 65 undef = t65 at hal
            generalize a9.tmps.getD 66 undef = t66 at hal
            generalize a9.tmps.getD 67 undef = t67 at hal
            generalize a9.tmps.getD 68 undef = t68 at hal
            generalize a9.tmps.getD 69 undef = t69 at hal
            generalize a9.tmps.getD 70 undef = t70 at hal
            generalize a9.tmps.getD 71 undef = t71 at hal
            generalize a9.tmps.getD 72 undef = t72 at hal
            generalize a9.tmps.getD 73 undef = t73 at hal
            generalize a9.tmps.getD 74 undef = t74 at hal
            generalize a9.tmps.getD 75 undef = t75 at hal
            generalize a9.tmps.getD 76 undef = t76 at hal
            generalize a9.tmps.getD 77 undef = t77 at hal
            generalize a9.tmps.getD 78 undef = t78 at hal
            generalize a9.tmps.getD 79 undef = t79 at hal
            generalize a9.tmps.getD 80 undef = t80 at hal
            generalize a9.tmps.getD 81 undef = t81 at hal
            generalize a9.tmps.getD 82 undef = t82 at hal
            generalize a9.tmps.getD 83 undef = t83 at hal
            generalize a9.tmps.getD 84 undef = t84 at hal
            generalize a9.tmps.getD 85 undef = t85 at hal
            generalize a9.tmps.getD 86 undef = t86 at hal
            generalize a9.tmps.getD 87 undef = t87 at hal
            generalize a9.tmps.getD 88 undef = t88 at hal
            generalize a9.tmps.getD 89 undef = t89 at hal
            generalize a9.tmps.getD 90 undef = t90 at hal
            generalize a9.tmps.getD 91 undef = t91 at hal
            generalize a9.tmps.getD 92 undef = t92 at hal
            generalize a9.tmps.getD 93 undef = t93 at hal
            generalize a9.tmps.getD 94 undef = t94 at hal
            generalize a9.tmps.getD 95 undef = t95 at hal
            generalize a9.tmps.getD 96 undef = t96 at hal
            generalize a9.tmps.getD 97 undef = t97 at hal
            generalize a9.tmps.getD 98 undef = t98 at hal
            generalize a9.tmps.getD 99 undef = t99 at hal
            generalize a9.tmps.getD 100 undef = t100 at hal
            generalize a9.tmps.getD 101 undef = t101 at hal
            generalize a9.tmps.getD 102 undef = t102 at hal
            generalize a9.tmps.getD 103 undef = t103 at hal
            generalize a9.tmps.getD 104 undef = t104 at hal
            generalize a9.tmps.getD 105 undef = t105 at hal
            generalize a9.tmps.getD 106 undef = t106 at hal
            generalize a9.tmps.getD 107 undef = t107 at hal
            generalize a9.tmps.getD 108 undef = t108 at hal
            clear l0 l1 l2 l3 l4 l5 l6 l7 l8 l9 l10 l11 l12 l13 l14 l15 l16 l17 l18 l19 l20 l21 l22 l23 l109 l36 hde
            subst hal
            clear hall hk hW
            go_wp2_with fail
            go_meet
            exact ⟨rfl, Lib.hid hWF⟩
        · have HH := Lib.hid (show G.any (hitG (i + 1 - d)) = hit d G i by
            unfold hit
            rw [show decide (i + 1 ≤ d) = false from decide_eq_false (by omega), Bool.false_or]
            congr 1
            funext g0
            unfold hitG
            rw [show decide (g0.1 ≤ i + 1 - d) = decide (g0.1 + d ≤ i + 1) from by congr 1; apply propext; omega, show decide (i + 1 - d ≤ g0.2) = decide (i + 1 ≤ g0.2 + d) from by congr 1; apply propext; omega])
          have HE := Lib.hid (show ((y.x.p.tsn : Int) - (cu2 : Int)) % 4294967296 = ((i + 1 - d : Nat) : Int) by
            have h1 := HT.out i y HY.out
            have h2 := HD.out
            omega)
          refine staged_lit (by kernel_rfl) (facts [Is (.pointer (some ⟨g, i * 11, none⟩)), Is (.int .i64 (i : Int)), Is (.int .i64 (d : Int)), Is (.bool false), Is (.bool false), Is (.pointer (some ⟨b, 0 + 2, none⟩)), Is (.slice GA gn gc), Is (.pointer (some ⟨g, i * 11, none⟩)), Is (.pointer (some ⟨g, i * 11, none⟩)), Is (.pointer (some ⟨g, i * 11, none⟩)), Is (.pointer (some ⟨g, i * 11, none⟩)), Is (.int .u32 (y.x.p.tsn : Int)), Is (.pointer (some ⟨b, 0, none⟩)), Is (.int .u32 (cu2 : Int)), Is (.int .u32 ((i + 1 - d : Nat) : Int)), Is (.bool (hit d G i)), Is (.bool (hit d G i)), Is (.pointer (some ⟨g, i * 11, none⟩)), Is (.pointer (some ⟨g, i * 11 + 9, none⟩)), Tru]) (Stg [19] (OneW wr g n c ((ackL d G i L).set i ⟨{ y.x with ack := hit d G i }, y.A, y.c⟩))) 110 rfl rfl rfl (Stg.start (Up.drew wr)) ?_ ?_
          · refine ⟨?_, ?_, ?_, ?_, ?_, ?_, ?_, ?_, ?_, ?_, ?_, ?_, ?_, ?_, ?_, ?_, ?_, ?_, ?_, ?_, trivial⟩
            · refine opS_same rfl rfl fun Lx ac w1 hJ hl hc ho hd => ?_
              have s8 : ac.eval (.tmp 8) = .pointer (some ⟨g, i * 11, none⟩) := ho 8 rfl
              exact ⟨_, x_move (.tmp 8) rfl s8, rfl⟩
            · refine opS_same rfl rfl fun Lx ac w1 hJ hl hc ho hd => ?_
              have s7 : ac.eval (.tmp 7) = .int .i64 (i : Int) := ho 7 rfl
              exact ⟨_, x_move (.tmp 7) rfl s7, rfl⟩
            · refine opS_same rfl rfl fun Lx ac w1 hJ hl hc ho hd => ?_
              have s6 : ac.eval (.tmp 6) = .int .i64 (d : Int) := ho 6 rfl
              exact ⟨_, x_move (.tmp 6) rfl s6, rfl⟩
            · refine opS_same rfl rfl fun Lx ac w1 hJ hl hc ho hd => ?_
              have d1 : ac.eval (.tmp 37) = .int .i64 (i : Int) := hd 1 _ _ rfl rfl rfl
              have d2 : ac.eval (.tmp 38) = .int .i64 (d : Int) := hd 2 _ _ rfl rfl rfl
              exact ⟨_, x_bin .lss 3 3 (.tmp 37) (.tmp 38) rfl d1 d2 (grdL3 _ _ _ _ _) (run_lss3 _ _ _ (by simp; omega) _), rfl⟩
            · refine opS_same rfl rfl fun Lx ac w1 hJ hl hc ho hd => ?_
              have d3 : ac.eval (.tmp 39) = .bool false := hd 3 _ _ rfl rfl rfl
              exact ⟨_, x_move (.tmp 39) rfl d3, rfl⟩
            · refine opS_sameG 4 false _ _ rfl rfl rfl rfl (fun _ _ h => h) rfl fun Lx ac w1 hJ hl hc ho hd => ?_
              have s3 : ac.eval (.tmp 3) = .pointer (some ⟨b, 0, none⟩) := ho 3 rfl
              exact ⟨_, x_field 43 (.tmp 3) 2 rfl s3 (fld432 _ _ _), rfl⟩
            · refine opS_sameG 4 false _ _ rfl rfl rfl rfl (fun _ _ h => h) rfl fun Lx ac w1 hJ hl hc ho hd => ?_
              have d5 : ac.eval (.tmp 41) = .pointer (some ⟨b, 0 + 2, none⟩) := hd 5 _ _ rfl rfl rfl
              have hUx : Up wr w1 := hJ.first (reach_not hc (i := 6) (n := 20) rfl hl)
              exact ⟨_, x_load 40 (.tmp 41) rfl d5 (run_load1 agg40 (cell_up b2 hUx)), rfl⟩
            · refine opS_sameG 4 false _ _ rfl rfl rfl rfl (fun _ _ h => h) rfl fun Lx ac w1 hJ hl hc ho hd => ?_
              have s8 : ac.eval (.tmp 8) = .pointer (some ⟨g, i * 11, none⟩) := ho 8 rfl
              exact ⟨_, x_move (.tmp 8) rfl s8, rfl⟩
            · refine opS_sameG 4 false _ _ rfl rfl rfl rfl (fun _ _ h => h) rfl fun Lx ac w1 hJ hl hc ho hd => ?_
              have d7 : ac.eval (.tmp 43) = .pointer (some ⟨g, i * 11, none⟩) := hd 7 _ _ rfl rfl rfl
              exact ⟨_, x_nil (.tmp 43) rfl d7, rfl⟩
            · refine opS_sameG 4 false _ _ rfl rfl rfl rfl (fun _ _ h => h) rfl fun Lx ac w1 hJ hl hc ho hd => ?_
              have d8 : ac.eval (.tmp 44) = .pointer (some ⟨g, i * 11, none⟩) := hd 8 _ _ rfl rfl rfl
              exact ⟨_, x_field 56 (.tmp 44) 0 rfl d8 (fld560 _ _ _), rfl⟩
            · refine opS_sameG 4 false _ _ rfl rfl rfl rfl (fun _ _ h => h) rfl fun Lx ac w1 hJ hl hc ho hd => ?_
              have d9 : ac.eval (.tmp 45) = .pointer (some ⟨g, i * 11, none⟩) := hd 9 _ _ rfl rfl rfl
              exact ⟨_, x_field 32 (.tmp 45) 0 rfl d9 (fld320 _ _ _), rfl⟩
            · refine opS_sameG 4 false _ _ rfl rfl rfl rfl (fun _ _ h => h) rfl fun Lx ac w1 hJ hl hc ho hd => ?_
              have d10 : ac.eval (.tmp 46) = .pointer (some ⟨g, i * 11, none⟩) := hd 10 _ _ rfl rfl rfl
              have hUx : Up wr w1 := hJ.first (reach_not hc (i := 11) (n := 20) rfl hl)
              exact ⟨_, x_load 22 (.tmp 46) rfl d10 (run_load1 agg22 (cell_up t0 hUx)), rfl⟩
            · refine opS_sameG 4 false _ _ rfl rfl rfl rfl (fun _ _ h => h) rfl fun Lx ac w1 hJ hl hc ho hd => ?_
              have s3 : ac.eval (.tmp 3) = .pointer (some ⟨b, 0, none⟩) := ho 3 rfl
              exact ⟨_, x_field 43 (.tmp 3) 0 rfl s3 (fld430 _ _ _), rfl⟩
            · refine opS_sameG 4 false _ _ rfl rfl rfl rfl (fun _ _ h => h) rfl fun Lx ac w1 hJ hl hc ho hd => ?_
              have d12 : ac.eval (.tmp 48) = .pointer (some ⟨b, 0, none⟩) := hd 12 _ _ rfl rfl rfl
              have hUx : Up wr w1 := hJ.first (reach_not hc (i := 13) (n := 20) rfl hl)
              exact ⟨_, x_load 22 (.tmp 48) rfl d12 (run_load1 agg22 (cell_up b0 hUx)), rfl⟩
            · refine opS_sameG 4 false _ _ rfl rfl rfl rfl (fun _ _ h => h) rfl fun Lx ac w1 hJ hl hc ho hd => ?_
              have d11 : ac.eval (.tmp 47) = .int .u32 (y.x.p.tsn : Int) := hd 11 _ _ rfl rfl rfl
              have d13 : ac.eval (.tmp 49) = .int .u32 (cu2 : Int) := hd 13 _ _ rfl rfl rfl
              exact ⟨_, x_bin .sub 22 22 (.tmp 47) (.tmp 49) rfl d11 d13 (grdS22 _ _ _ _ _) (run_sub22 _ _ _ HE.out _), rfl⟩
            · refine opS_callUpG 4 false _ _ rfl rfl rfl rfl (fun _ _ h => h) rfl oneW_up (fun q v _ _ hf _ => facts_free (by simp [free_is, free_tru]) q v hf) fun Lx ac w1 hJ hl hc ho hd => ?_
              have d6 : ac.eval (.tmp 42) = .slice GA gn gc := hd 6 _ _ rfl rfl rfl
              have d14 : ac.eval (.tmp 50) = .int .u32 ((i + 1 - d : Nat) : Int) := hd 14 _ _ rfl rfl rfl
              have hUx : Up wr w1 := hJ.first (reach_not hc (i := 15) (n := 20) rfl hl)
              refine ⟨29, _, x_fcall 29 [.tmp 42, .tmp 50] _ rfl (by kernel_rfl), ?_⟩
              simp only [List.map_cons, List.map_nil, d6, d14]
              refine (inGaps_any GA gn gc (i + 1 - d) G w1 (HGi.out w1 hUx) hgn).mono fun e w2 ⟨he, hu⟩ => ⟨_, he, hu.out, ?_⟩
              rw [HH.out]; rfl
            · refine opS_same rfl rfl fun Lx ac w1 hJ hl hc ho hd => ?_
              have d4 : ac.eval (.tmp 40) = .bool false := hd 4 _ _ rfl rfl rfl
              have d15 : ac.eval (.tmp 51) = .bool (hit d G i) := hd 15 _ _ rfl rfl rfl
              exact ⟨_, x_pick (.tmp 40) (.const (.bool true)) (.tmp 51) (b := false) (X := .bool true) rfl d4 (fun h => absurd h (by decide)) (fun _ => d15), rfl⟩
            · refine opS_same rfl rfl fun Lx ac w1 hJ hl hc ho hd => ?_
              have d0 : ac.eval (.tmp 36) = .pointer (some ⟨g, i * 11, none⟩) := hd 0 _ _ rfl rfl rfl
              exact ⟨_, x_nil (.tmp 36) rfl d0, rfl⟩
            · refine opS_same rfl rfl fun Lx ac w1 hJ hl hc ho hd => ?_
              have d17 : ac.eval (.tmp 53) = .pointer (some ⟨g, i * 11, none⟩) := hd 17 _ _ rfl rfl rfl
              exact ⟨_, x_field 56 (.tmp 53) 3 rfl d17 (fld563 _ _ _), rfl⟩
            · refine opS_write (j := 0) rfl rfl (by decide) rfl (fun _ _ h => absurd h (by omega)) fun ac wx hW ho hd => ?_
              have d18 : ac.eval (.tmp 54) = .pointer (some ⟨g, i * 11 + 9, none⟩) := hd 18 _ _ rfl rfl rfl
              have d16 : ac.eval (.tmp 52) = .bool (hit d G i) := hd 16 _ _ rfl rfl rfl
              exact ⟨_, x_store 4 (.tmp 54) (.tmp 52) rfl d18 d16 (run_store1c siz4 (by rw [cell_up (w := wr) (Option.get_mem (HC9.out 9 (by omega))) hW]; rfl) (by rw [frz_up hW (HC9.out 9 (by omega))]; exact HF9.out _) rfl rfl), one_store HRi.out HYI.out (by omega) HY9.out hW, fun _ => trivial, fun q v => facts_free (by simp [free_is, free_tru]) q v⟩
          · intro L9 a9 wF hI hall
            obtain ⟨k, hk, hW⟩ := hI.done hall (by decide)
            have hWF : OneW wr g n c ((ackL d G i L).set i ⟨{ y.x with ack := hit d G i }, y.A, y.c⟩) 1 wF := by
              cases k with
              | zero => simp at hk
              | succ k => exact hW
            have l0 : a9.tmps.getD 0 undef = .pointer (some ⟨q, 0, none⟩) := hI.old 0 rfl
            have l1 : a9.tmps.getD 1 undef = .agg #[.int .u32 (cu2 : Int), .int .u32 (wi : Int), .slice GA gn gc, .slice DA dn dc] := hI.old 1 rfl
            have l2 : a9.tmps.getD 2 undef = undef := hI.old 2 rfl
            have l3 : a9.tmps.getD 3 undef = .pointer (some ⟨b, 0, none⟩) := hI.old 3 rfl
            have l4 : a9.tmps.getD 4 undef = .slice none 0 0 := hI.old 4 rfl
            have l5 : a9.tmps.getD 5 undef = .slice (some ⟨a, 0, none⟩) 2 2 := hI.old 5 rfl
            have l6 : a9.tmps.getD 6 undef = .int .i64 (d : Int) := hI.old 6 rfl
            have l7 : a9.tmps.getD 7 undef = .int .i64 (i : Int) := hI.old 7 rfl
            have l8 : a9.tmps.getD 8 undef = .pointer (some ⟨g, i * 11, none⟩) := hI.old 8 rfl
            have l9 : a9.tmps.getD 9 undef = .bool y.x.ack := hI.old 9 rfl
            have l10 : a9.tmps.getD 10 undef = .slice (some ⟨a, 0, none⟩) 2 2 := hI.old 10 rfl
            have l11 : a9.tmps.getD 11 undef = .pointer (some ⟨b, 0, none⟩) := hI.old 11 rfl
            have l12 : a9.tmps.getD 12 undef = .int .u32 (cu2 : Int) := hI.old 12 rfl
            have l13 : a9.tmps.getD 13 undef = .pointer (some ⟨q, 0, none⟩) := hI.old 13 rfl
            have l14 : a9.tmps.getD 14 undef = .pointer (some ⟨q, 0, none⟩) := hI.old 14 rfl
            have l15 : a9.tmps.getD 15 undef = .pointer (some ⟨q, 0, none⟩) := hI.old 15 rfl
            have l16 : a9.tmps.getD 16 undef = .int .u32 (cu : Int) := hI.old 16 rfl
            have l17 : a9.tmps.getD 17 undef = .int .u32 (d : Int) := hI.old 17 rfl
            have l18 : a9.tmps.getD 18 undef = .int .i64 (d : Int) := hI.old 18 rfl
            have l19 : a9.tmps.getD 19 undef = .pointer (some ⟨q, 0, none⟩) := hI.old 19 rfl
            have l20 : a9.tmps.getD 20 undef = .pointer (some ⟨q, 0, none⟩) := hI.old 20 rfl
            have l21 : a9.tmps.getD 21 undef = .pointer (some ⟨q, 2, none⟩) := hI.old 21 rfl
            have l22 : a9.tmps.getD 22 undef = .int .i64 (o : Int) := hI.old 22 rfl
            have l23 : a9.tmps.getD 23 undef = .int .i64 (i : Int) := hI.old 23 rfl
            have l109 : a9.tmps.getD 109 undef = undef := hI.old 109 rfl
            have l36 : a9.tmps.getD 36 undef = .pointer (some ⟨g, i * 11, none⟩) := hI.get hall (i := 0) rfl rfl
            have hde : a9.defers = [] := hI.defers
            have hal := act_lit a9 110 hI.size
            clear hI
            simp only [List.range, List.range.loop, List.map_cons, List.map_nil] at hal
            rw [l0, l1, l2, l3, l4, l5, l6, l7, l8, l9, l10, l11, l12, l13, l14, l15, l16, l17, l18, l19, l20, l21, l22, l23, l109, l36, hde] at hal
            generalize a9.tmps.getD 24 undef = t24 at hal
            generalize a9.tmps.getD 25 undef = t25 at hal
            generalize a9.tmps.getD 26 undef = t26 at hal
            generalize a9.tmps.getD 27 undef = t27 at hal
            generalize a9.tmps.getD 28 undef = t28 at hal
            generalize a9.tmps.getD 29 undef = t29 at hal
            generalize a9.tmps.getD 30 undef = t30 at hal
            generalize a9.tmps.getD 31 undef = t31 at hal
            generalize a9.tmps.getD 32 undef = t32 at hal
            generalize a9.tmps.getD 33 undef = t33 at hal
            generalize a9.tmps.getD 34 undef = t34 at hal
            generalize a9.tmps.getD 35 undef = t35 at hal
            generalize a9.tmps.getD 37 undef = t37 at hal
            generalize a9.tmps.getD 38 undef = t38 at hal
            generalize a9.tmps.getD 39 undef = t39 at hal
            generalize a9.tmps.getD 40 undef = t40 at hal
            generalize a9.tmps.getD 41 undef = t41 at hal
            generalize a9.tmps.getD 42 undef = t42 at hal
            generalize a9.tmps.getD 43 undef = t43 at hal
            generalize a9.tmps.getD 44 undef = t44 at hal
            generalize a9.tmps.getD 45 undef = t45 at hal
            generalize a9.tmps.getD 46 undef = t46 at hal
            generalize a9.tmps.getD 47 undef = t47 at hal
            generalize a9.tmps.getD 48 undef = t48 at hal
            generalize a9.tmps.getD 49 undef = t49 at hal
            generalize a9.tmps.getD 50 undef = t50 at hal
            generalize a9.tmps.getD 51 undef = t51 at hal
            generalize a9.tmps.getD 52 undef = t52 at hal
            generalize a9.tmps.getD 53 undef = t53 at hal
            generalize a9.tmps.getD 54 undef = t54 at hal
            generalize a9.tmps.getD 55 undef = t55 at hal
            generalize a9.tmps.getD 56 undef = t56 at hal
            generalize a9.tmps.getD 57 undef = t57 at hal
            generalize a9.tmps.getD 58 undef = t58 at hal
            generalize a9.tmps.getD 59 undef = t59 at hal
            generalize a9.tmps.getD 60 undef = t60 at hal
            generalize a9.tmps.getD 61 undef = t61 at hal
            generalize a9.tmps.getD 62 undef = t62 at hal
            generalize a9.tmps.getD 63 undef = t63 at hal
            generalize a9.tmps.getD 64 undef = t64 at hal
            generalize a9.tmps.getD 65 undef = t65 at hal
            generalize a9.tmps.getD 66 undef = t66 at hal
            generalize a9.tmps.getD 67 undef = t67 at hal
            generalize a9.tmps.getD 68 undef = t68 at hal
            generalize a9.tmps.getD 69 undef = t69 at hal
            generalize a9.tmps.getD 70 undef = t70 at hal
            generalize a9.tmps.getD 71 undef = t71 at hal
            generalize a9.tmps.getD 72 undef = t72 at hal
            generalize a9.tmps.getD 73 undef = t73 at hal
            generalize a9.tmps.getD 74 undef = t74 at hal
            generalize a9.tmps.getD 75 undef = t75 at hal
            generalize a9.tmps.getD 76 undef = t76 at hal
            generalize a9.tmps.getD 77 undef = t77 at hal
            generalize a9.tmps.getD 78 undef = t78 at hal
            generalize a9.tmps.getD 79 undef = t79 at hal
            generalize a9.tmps.getD 80 undef = t80 at hal
            generalize a9.tmps.getD 81 undef = t81 at hal
            generalize a9.tmps.getD 82 undef = t82 at hal
            generalize a9.tmps.getD 83 undef = t83 at hal
            generalize a9.tmps.getD 84 undef = t84 at hal
            generalize a9.tmps.getD 85 undef = t85 at hal
            generalize a9.tmps.getD 86 undef = t86 at hal
            generalize a9.tmps.getD 87 undef = t87 at hal
            generalize a9.tmps.getD 88 undef = t88 at hal
            generalize a9.tmps.getD 89 undef = t89 at hal
            generalize a9.tmps.getD 90 undef = t90 at hal
            generalize a9.tmps.getD 91 undef = t91 at hal
            generalize a9.tmps.getD 92 undef = t92 at hal
            generalize a9.tmps.getD 93 undef = t93 at hal
            generalize a9.tmps.getD 94 undef = t94 at hal
            generalize a9.tmps.getD 95 undef = t95 at hal
            generalize a9.tmps.getD 96 undef = t96 at hal
            generalize a9.tmps.getD 97 undef = t97 at hal
            generalize a9.tmps.getD 98 undef = t98 at hal
            generalize a9.tmps.getD 99 undef = t99 at hal
            generalize a9.tmps.getD 100 undef = t100 at hal
            generalize a9.tmps.getD 101 undef = t101 at hal
            generalize a9.tmps.getD 102 undef = t102 at hal
            generalize a9.tmps.getD 103 undef = t103 at hal
            generalize a9.tmps.getD 104 undef = t104 at hal
            generalize a9.tmps.getD 105 undef = t105 at hal
            generalize a9.tmps.getD 106 undef = t106 at hal
            generalize a9.tmps.getD 107 undef = t107 at hal
            generalize a9.tmps.getD 108 undef = t108 at hal
            clear l0 l1 l2 l3 l4 l5 l6 l7 l8 l9 l10 l11 l12 l13 l14 l15 l16 l17 l18 l19 l20 l21 l22 l23 l109 l36 hde
            subst hal
            clear hall hk hW
            go_wp2_with fail
            go_meet
            exact ⟨rfl, Lib.hid hWF⟩
      case rest =>
        obtain ⟨w8, rfl⟩ : ∃ w8, w8 = wc := ⟨_, rfl⟩
        obtain ⟨hs36, hW8⟩ := hcut
        have HR8 := Lib.hid hW8.out.1
        have HO8 := Lib.hid hW8.out.2
        have hMi : ((ackL d G i L).set i ⟨{ y.x with ack := hit d G i }, y.A, y.c⟩)[i]? = some ⟨{ y.x with ack := hit d G i }, y.A, y.c⟩ := List.getElem?_set_self (List.getElem?_eq_some_iff.1 HYI.out).1
        have HMI := Lib.hid hMi
        have HB8 := Lib.hid (HO8.out.blk HBi.out (fun e => by have := HBB.out; have := (row_lt HR.out (k := g) rfl).2; omega))
        have HA8 := Lib.hid (HO8.out.blk HAi.out (fun e => by have := HBB.out; have := HAA.out; have := (row_lt HR.out (k := g) rfl).2; omega))
        have HOw8 := Lib.hid (show Out (fun k => blk? (some (⟨g, 0, none⟩ : Addr)) = some k) w w8 from HOi.out.trans (HO8.out.mono fun k hk => by rw [hk]; rfl) (Sub.refl _ _))
        clear hs36 hW8 hMi t0 b0 b2 k9 HC9 HF9 HGi HBi HAi HRi HOi HO8 HQi q1
        have k9 : w8.cell? ⟨g, i * 11 + 9, none⟩ = some (.bool (hit d G i)) := row_cell HR8.out (rowG_at itc 11 itc_len HMI.out (j := 9) rfl)
        have k10 : w8.cell? ⟨g, i * 11 + 10, none⟩ = some (.bool y.x.mkd) := row_cell HR8.out (rowG_at itc 11 itc_len HMI.out (j := 10) rfl)
        have f10 := World.ownsRow.frozenAt HR8.out (i * 11 + 10)
        have HST := Lib.hid (one_store (i := i) (j := 10) (y' := ackB d G i y) (v := .bool (y.x.mkd && !hit d G i)) HR8.out HMI.out (by omega) rfl (Up.refl w8))
        go_upto_region 9 with (fail)
        go_cut [55] (fun s wx => s = .pointer (some ⟨g, i * 11, none⟩) ∧ Hid (OneW w8 g n c (((ackL d G i L).set i ⟨{ y.x with ack := hit d G i }, y.A, y.c⟩).set i (ackB d G i y)) 1 wx))
        case first =>
          by_cases hm : y.x.mkd = true
          · rw [hm] at k10 HST
            rcases Bool.eq_false_or_eq_true (hit d G i) with hh | hh
            · rw [hh] at k9
              go_wp2_with fail
              go_meet
              refine ⟨rfl, Lib.hid ?_⟩
              have := HST.out
              rw [hh] at this ⊢
              exact this
            · rw [hh] at k9
              go_wp2_with fail
              go_meet
              refine ⟨rfl, Lib.hid ?_⟩
              have := HST.out
              rw [hh] at this ⊢
              exact this
          · have hm2 : y.x.mkd = false := by simpa using hm
            rw [hm2] at k10 HST
            go_wp2_with fail
            go_meet
            exact ⟨rfl, HST⟩
        case rest =>
          obtain ⟨hs55, hW9⟩ := hcut
          have HR9 := Lib.hid (show wc.ownsRow 0 56 11 (.slice (some ⟨g, 0, none⟩) n c) n ((ackL d G (i + 1) L).flatMap itc) by
            have := hW9.out.1
            rw [List.set_set] at this
            rwa [ackL_step HY.out] at this)
          have HO89 := Lib.hid hW9.out.2
          have HB9 := Lib.hid (HO89.out.blk HB8.out (fun e => by have := HBB.out; have := (row_lt HR.out (k := g) rfl).2; omega))
          have HA9 := Lib.hid (HO89.out.blk HA8.out (fun e => by have := HBB.out; have := HAA.out; have := (row_lt HR.out (k := g) rfl).2; omega))
          have HO9 := Lib.hid (show Out (fun k => blk? (some (⟨g, 0, none⟩ : Addr)) = some k) w wc from HOw8.out.trans (HO89.out.mono fun k hk => by rw [hk]; rfl) (Sub.refl _ _))
          have hyn : (ackL d G (i + 1) L)[i]? = some (ackB d G i y) := by rw [← ackL_step HY.out]; exact List.getElem?_set_self (by rw [ackL_len]; exact (List.getElem?_eq_some_iff.1 HY.out).1)
          have HYN := Lib.hid hyn
          clear hs55 hW9 hyn k9 k10 f10 HST HR8 HMI HB8 HA8 HOw8 HO89
          have k9 : wc.cell? ⟨g, i * 11 + 9, none⟩ = some (.bool (hit d G i)) := row_cell HR9.out (rowG_at itc 11 itc_len HYN.out (j := 9) rfl)
          have k7 : wc.cell? ⟨g, i * 11 + 7, none⟩ = some (.int .i64 y.x.path) := row_cell HR9.out (rowG_at itc 11 itc_len HYN.out (j := 7) rfl)
          rcases Bool.eq_false_or_eq_true (hit d G i) with hh | hh
          · rw [hh] at k9
            by_cases hak : y.x.ack = true
            · have HZ0 := Lib.hid (show ackT d G i 0 y = 0 by unfold ackT; simp [hak])
              have HZ1 := Lib.hid (show ackT d G i 1 y = 0 by unfold ackT; simp [hak])
              rw [hak]
              go_wp2_with fail
              go_roundw
              case rel => exact ⟨i + 1, by omega, by go_num, HB9, Lib.hid (by rw [ackS_step HY.out, ackS_step HY.out, HZ0.out, HZ1.out, Int.add_zero, Int.add_zero]; exact HA9.out), HR9, HO9⟩
              case measure => simp [intOf]; omega
            · have hak2 : y.x.ack = false := by simpa using hak
              rw [hak2]
              by_cases hp0 : (0 : Int) ≤ y.x.path
              · by_cases hp2 : y.x.path < 2
                · have hp01 : y.x.path = 0 ∨ y.x.path = 1 := by omega
                  have k6 : wc.cell? ⟨g, i * 11 + 6, none⟩ = some (.slice y.A y.x.p.bs.length y.c) := row_cell HR9.out (rowG_at itc 11 itc_len HYN.out (j := 6) rfl)
                  have a0 : wc.cell? ⟨a, 0, none⟩ = some (.int .i64 (ackS d G L 0 i)) := cell_of HA9.out rfl
                  have a1 : wc.cell? ⟨a, 1, none⟩ = some (.int .i64 (ackS d G L 1 i)) := cell_of HA9.out rfl
                  have hb0 := ackS_bd (d := d) (G := G) (p := 0) HS.out i
                  have hb1 := ackS_bd (d := d) (G := G) (p := 1) HS.out i
                  have hyl := HS.out y (List.mem_of_getElem? HY.out)
                  rcases hp01 with hp | hp
                  · rw [hp] at k7
                    go_upto_region 11 with (fail)
                    refine staged_lit (by kernel_rfl) (facts [Is (.slice (some ⟨a, 0, none⟩) 2 2), Is (.pointer (some ⟨g, i * 11, none⟩)), Is (.pointer (some ⟨g, i * 11, none⟩)), Is (.pointer (some ⟨g, i * 11 + 7, none⟩)), Is (.int .i64 0), Is (.pointer (some ⟨a, 0, none⟩)), Is (.int .i64 (ackS d G L 0 i)), Is (.pointer (some ⟨g, i * 11, none⟩)), Is (.pointer (some ⟨g, i * 11, none⟩)), Is (.pointer (some ⟨g, i * 11, none⟩)), Is (.pointer (some ⟨g, i * 11 + 6, none⟩)), Is (.slice y.A y.x.p.bs.length y.c), Is (.int .i64 (y.x.p.bs.length : Int)), Is (.int .i64 (ackS d G L 0 i + (y.x.p.bs.length : Int))), Is (.pointer (some ⟨a, 0, none⟩)), Tru]) (Stg [15] (AccW wc a ((ackS d G L 0 i + (y.x.p.bs.length : Int))) (ackS d G L 1 i))) 110 rfl rfl rfl (Stg.start (Up.drew wc)) ?_ ?_
                    · refine ⟨?_, ?_, ?_, ?_, ?_, ?_, ?_, ?_, ?_, ?_, ?_, ?_, ?_, ?_, ?_, ?_, trivial⟩
                      · refine opS_same rfl rfl fun Lx ac w1 hJ hl hc ho hd => ?_
                        have s5 : ac.eval (.tmp 5) = .slice (some ⟨a, 0, none⟩) 2 2 := ho 5 rfl
                        exact ⟨_, x_move (.tmp 5) rfl s5, rfl⟩
                      · refine opS_same rfl rfl fun Lx ac w1 hJ hl hc ho hd => ?_
                        have s8 : ac.eval (.tmp 8) = .pointer (some ⟨g, i * 11, none⟩) := ho 8 rfl
                        exact ⟨_, x_move (.tmp 8) rfl s8, rfl⟩
                      · refine opS_same rfl rfl fun Lx ac w1 hJ hl hc ho hd => ?_
                        have d1 : ac.eval (.tmp 94) = .pointer (some ⟨g, i * 11, none⟩) := hd 1 _ _ rfl rfl rfl
                        exact ⟨_, x_nil (.tmp 94) rfl d1, rfl⟩
                      · refine opS_same rfl rfl fun Lx ac w1 hJ hl hc ho hd => ?_
                        have d2 : ac.eval (.tmp 95) = .pointer (some ⟨g, i * 11, none⟩) := hd 2 _ _ rfl rfl rfl
                        exact ⟨_, x_field 56 (.tmp 95) 1 rfl d2 (fld561 _ _ _), rfl⟩
                      · refine opS_same rfl rfl fun Lx ac w1 hJ hl hc ho hd => ?_
                        have d3 : ac.eval (.tmp 96) = .pointer (some ⟨g, i * 11 + 7, none⟩) := hd 3 _ _ rfl rfl rfl
                        have hUx : Up wc w1 := hJ.first (reach_not hc (i := 4) (n := 16) rfl hl)
                        exact ⟨_, x_load 3 (.tmp 96) rfl d3 (run_load1 agg3 (cell_up k7 hUx)), rfl⟩
                      · refine opS_same rfl rfl fun Lx ac w1 hJ hl hc ho hd => ?_
                        have d0 : ac.eval (.tmp 93) = .slice (some ⟨a, 0, none⟩) 2 2 := hd 0 _ _ rfl rfl rfl
                        have d4 : ac.eval (.tmp 97) = .int .i64 0 := hd 4 _ _ rfl rfl rfl
                        exact ⟨_, x_index 35 (.tmp 93) (.tmp 97) rfl d0 d4 (idx35_0 _ _), rfl⟩
                      · refine opS_same rfl rfl fun Lx ac w1 hJ hl hc ho hd => ?_
                        have d5 : ac.eval (.tmp 98) = .pointer (some ⟨a, 0, none⟩) := hd 5 _ _ rfl rfl rfl
                        have hUx : Up wc w1 := hJ.first (reach_not hc (i := 6) (n := 16) rfl hl)
                        exact ⟨_, x_load 3 (.tmp 98) rfl d5 (run_load1 agg3 (cell_up a0 hUx)), rfl⟩
                      · refine opS_same rfl rfl fun Lx ac w1 hJ hl hc ho hd => ?_
                        have s8 : ac.eval (.tmp 8) = .pointer (some ⟨g, i * 11, none⟩) := ho 8 rfl
                        exact ⟨_, x_move (.tmp 8) rfl s8, rfl⟩
                      · refine opS_same rfl rfl fun Lx ac w1 hJ hl hc ho hd => ?_
                        have d7 : ac.eval (.tmp 100) = .pointer (some ⟨g, i * 11, none⟩) := hd 7 _ _ rfl rfl rfl
                        exact ⟨_, x_nil (.tmp 100) rfl d7, rfl⟩
                      · refine opS_same rfl rfl fun Lx ac w1 hJ hl hc ho hd => ?_
                        have d8 : ac.eval (.tmp 101) = .pointer (some ⟨g, i * 11, none⟩) := hd 8 _ _ rfl rfl rfl
                        exact ⟨_, x_field 56 (.tmp 101) 0 rfl d8 (fld560 _ _ _), rfl⟩
                      · refine opS_same rfl rfl fun Lx ac w1 hJ hl hc ho hd => ?_
                        have d9 : ac.eval (.tmp 102) = .pointer (some ⟨g, i * 11, none⟩) := hd 9 _ _ rfl rfl rfl
                        exact ⟨_, x_field 32 (.tmp 102) 6 rfl d9 (fld326 _ _ _), rfl⟩
                      · refine opS_same rfl rfl fun Lx ac w1 hJ hl hc ho hd => ?_
                        have d10 : ac.eval (.tmp 103) = .pointer (some ⟨g, i * 11 + 6, none⟩) := hd 10 _ _ rfl rfl rfl
                        have hUx : Up wc w1 := hJ.first (reach_not hc (i := 11) (n := 16) rfl hl)
                        exact ⟨_, x_load 29 (.tmp 103) rfl d10 (run_load1 agg29 (cell_up k6 hUx)), rfl⟩
                      · refine opS_same rfl rfl fun Lx ac w1 hJ hl hc ho hd => ?_
                        have d11 : ac.eval (.tmp 104) = .slice y.A y.x.p.bs.length y.c := hd 11 _ _ rfl rfl rfl
                        exact ⟨_, x_len (.tmp 104) 29 5 rfl Try.underlying29 d11, rfl⟩
                      · refine opS_same rfl rfl fun Lx ac w1 hJ hl hc ho hd => ?_
                        have d6 : ac.eval (.tmp 99) = .int .i64 (ackS d G L 0 i) := hd 6 _ _ rfl rfl rfl
                        have d12 : ac.eval (.tmp 105) = .int .i64 (y.x.p.bs.length : Int) := hd 12 _ _ rfl rfl rfl
                        exact ⟨_, x_bin .add 3 3 (.tmp 99) (.tmp 105) rfl d6 d12 (grdA3 _ _ _ _ _) (run_add3 _ _ _ rfl (by omega) (by omega) _), rfl⟩
                      · refine opS_same rfl rfl fun Lx ac w1 hJ hl hc ho hd => ?_
                        have d0 : ac.eval (.tmp 93) = .slice (some ⟨a, 0, none⟩) 2 2 := hd 0 _ _ rfl rfl rfl
                        have d4 : ac.eval (.tmp 97) = .int .i64 0 := hd 4 _ _ rfl rfl rfl
                        exact ⟨_, x_index 35 (.tmp 93) (.tmp 97) rfl d0 d4 (idx35_0 _ _), rfl⟩
                      · refine opS_write (j := 0) rfl rfl (by decide) rfl (fun _ _ h => absurd h (by omega)) fun ac wx hW ho hd => ?_
                        have d14 : ac.eval (.tmp 107) = .pointer (some ⟨a, 0, none⟩) := hd 14 _ _ rfl rfl rfl
                        have d13 : ac.eval (.tmp 106) = .int .i64 (ackS d G L 0 i + (y.x.p.bs.length : Int)) := hd 13 _ _ rfl rfl rfl
                        have hax := (Below.block (show Up wc wx from hW) _ (lt_of_blk HA9.out)).trans HA9.out
                        exact ⟨_, x_store 3 (.tmp 107) (.tmp 106) rfl d14 d13 (run_store1 siz3 hax (by simp) rfl rfl), ⟨setCell_at _ hax, ((Up.out (show Up wc wx from hW) (fun k => k = a)).trans (setCell_out _ _ _ _) (Sub.refl _ _))⟩, fun _ => trivial, fun q v => facts_free (by simp [free_is, free_tru]) q v⟩
                    · intro L9 a9 wF hI hall
                      obtain ⟨k, hk, hW⟩ := hI.done hall (by decide)
                      have hWF : AccW wc a ((ackS d G L 0 i + (y.x.p.bs.length : Int))) (ackS d G L 1 i) 1 wF := by
                        cases k with
                        | zero => simp at hk
                        | succ k => exact hW
                      have l0 : a9.tmps.getD 0 undef = .pointer (some ⟨q, 0, none⟩) := hI.old 0 rfl
                      have l1 : a9.tmps.getD 1 undef = .agg #[.int .u32 (cu2 : Int), .int .u32 (wi : Int), .slice GA gn gc, .slice DA dn dc] := hI.old 1 rfl
                      have l2 : a9.tmps.getD 2 undef = undef := hI.old 2 rfl
                      have l3 : a9.tmps.getD 3 undef = .pointer (some ⟨b, 0, none⟩) := hI.old 3 rfl
                      have l4 : a9.tmps.getD 4 undef = .slice none 0 0 := hI.old 4 rfl
                      have l5 : a9.tmps.getD 5 undef = .slice (some ⟨a, 0, none⟩) 2 2 := hI.old 5 rfl
                      have l6 : a9.tmps.getD 6 undef = .int .i64 (d : Int) := hI.old 6 rfl
                      have l7 : a9.tmps.getD 7 undef = .int .i64 (i : Int) := hI.old 7 rfl
                      have l8 : a9.tmps.getD 8 undef = .pointer (some ⟨g, i * 11, none⟩) := hI.old 8 rfl
                      have l9 : a9.tmps.getD 9 undef = .bool false := hI.old 9 rfl
                      have l10 : a9.tmps.getD 10 undef = .slice (some ⟨a, 0, none⟩) 2 2 := hI.old 10 rfl
                      have l11 : a9.tmps.getD 11 undef = .pointer (some ⟨b, 0, none⟩) := hI.old 11 rfl
                      have l12 : a9.tmps.getD 12 undef = .int .u32 (cu2 : Int) := hI.old 12 rfl
                      have l13 : a9.tmps.getD 13 undef = .pointer (some ⟨q, 0, none⟩) := hI.old 13 rfl
                      have l14 : a9.tmps.getD 14 undef = .pointer (some ⟨q, 0, none⟩) := hI.old 14 rfl
                      have l15 : a9.tmps.getD 15 undef = .pointer (some ⟨q, 0, none⟩) := hI.old 15 rfl
                      have l16 : a9.tmps.getD 16 undef = .int .u32 (cu : Int) := hI.old 16 rfl
                      have l17 : a9.tmps.getD 17 undef = .int .u32 (d : Int) := hI.old 17 rfl
                      have l18 : a9.tmps.getD 18 undef = .int .i64 (d : Int) := hI.old 18 rfl
                      have l19 : a9.tmps.getD 19 undef = .pointer (some ⟨q, 0, none⟩) := hI.old 19 rfl
                      have l20 : a9.tmps.getD 20 undef = .pointer (some ⟨q, 0, none⟩) := hI.old 20 rfl
                      have l21 : a9.tmps.getD 21 undef = .pointer (some ⟨q, 2, none⟩) := hI.old 21 rfl
                      have l22 : a9.tmps.getD 22 undef = .int .i64 (o : Int) := hI.old 22 rfl
                      have l23 : a9.tmps.getD 23 undef = .int .i64 (i : Int) := hI.old 23 rfl
                      have l109 : a9.tmps.getD 109 undef = undef := hI.old 109 rfl
                      have hde : a9.defers = [] := hI.defers
                      have hal := act_lit a9 110 hI.size
                      clear hI
                      simp only [List.range, List.range.loop, List.map_cons, List.map_nil] at hal
                      rw [l0, l1, l2, l3, l4, l5, l6, l7, l8, l9, l10, l11, l12, l13, l14, l15, l16, l17, l18, l19, l20, l21, l22, l23, l109, hde] at hal
                      generalize a9.tmps.getD 24 undef = t24 at hal
                      generalize a9.tmps.getD 25 undef = t25 at hal
                      generalize a9.tmps.getD 26 undef = t26 at hal
                      generalize a9.tmps.getD 27 undef = t27 at hal
                      generalize a9.tmps.getD 28 undef = t28 at hal
                      generalize a9.tmps.getD 29 undef = t29 at hal
                      generalize a9.tmps.getD 30 undef = t30 at hal
                      generalize a9.tmps.getD 31 undef = t31 at hal
                      generalize a9.tmps.getD 32 undef = t32 at hal
                      generalize a9.tmps.getD 33 undef = t33 at hal
                      generalize a9.tmps.getD 34 undef = t34 at hal
                      generalize a9.tmps.getD 35 undef = t35 at hal
                      generalize a9.tmps.getD 36 undef = t36 at hal
                      generalize a9.tmps.getD 37 undef = t37 at hal
                      generalize a9.tmps.getD 38 undef = t38 at hal
                      generalize a9.tmps.getD 39 undef = t39 at hal
                      generalize a9.tmps.getD 40 undef = t40 at hal
                      generalize a9.tmps.getD 41 undef = t41 at hal
                      generalize a9.tmps.getD 42 undef = t42 at hal
                      generalize a9.tmps.getD 43 undef = t43 at hal
                      generalize a9.tmps.getD 44 undef = t44 at hal
                      generalize a9.tmps.getD 45 undef = t45 at hal
                      generalize a9.tmps.getD 46 undef = t46 at hal
                      generalize a9.tmps.getD 47 undef = t47 at hal
                      generalize a9.tmps.getD 48 undef = t48 at hal
                      generalize a9.tmps.getD 49 undef = t49 at hal
                      generalize a9.tmps.getD 50 undef = t50 at hal
                      generalize a9.tmps.getD 51 undef = t51 at hal
                      generalize a9.tmps.getD 52 undef = t52 at hal
                      generalize a9.tmps.getD 53 undef = t53 at hal
                      generalize a9.tmps.getD 54 undef = t54 at hal
                      generalize a9.tmps.getD 55 undef = t55 at hal
                      generalize a9.tmps.getD 56 undef = t56 at hal
                      generalize a9.tmps.getD 57 undef = t57 at hal
                      generalize a9.tmps.getD 58 undef = t58 at hal
                      generalize a9.tmps.getD 59 undef = t59 at hal
                      generalize a9.tmps.getD 60 undef = t60 at hal
                      generalize a9.tmps.getD 61 undef = t61 at hal
                      generalize a9.tmps.getD 62 undef = t62 at hal
                      generalize a9.tmps.getD 63 undef = t63 at hal
                      generalize a9.tmps.getD 64 undef = t64 at hal
                      generalize a9.tmps.getD 65 undef = t65 at hal
                      generalize a9.tmps.getD 66 undef = t66 at hal
                      generalize a9.tmps.getD 67 undef = t67 at hal
                      generalize a9.tmps.getD 68 undef = t68 at hal
                      generalize a9.tmps.getD 69 undef = t69 at hal
                      generalize a9.tmps.getD 70 undef = t70 at hal
                      generalize a9.tmps.getD 71 undef = t71 at hal
                      generalize a9.tmps.getD 72 undef = t72 at hal
                      generalize a9.tmps.getD 73 undef = t73 at hal
                      generalize a9.tmps.getD 74 undef = t74 at hal
                      generalize a9.tmps.getD 75 undef = t75 at hal
                      generalize a9.tmps.getD 76 undef = t76 at hal
                      generalize a9.tmps.getD 77 undef = t77 at hal
                      generalize a9.tmps.getD 78 undef = t78 at hal
                      generalize a9.tmps.getD 79 undef = t79 at hal
                      generalize a9.tmps.getD 80 undef = t80 at hal
                      generalize a9.tmps.getD 81 undef = t81 at hal
                      generalize a9.tmps.getD 82 undef = t82 at hal
                      generalize a9.tmps.getD 83 undef = t83 at hal
                      generalize a9.tmps.getD 84 undef = t84 at hal
                      generalize a9.tmps.getD 85 undef = t85 at hal
                      generalize a9.tmps.getD 86 undef = t86 at hal
                      generalize a9.tmps.getD 87 undef = t87 at hal
                      generalize a9.tmps.getD 88 undef = t88 at hal
                      generalize a9.tmps.getD 89 undef = t89 at hal
                      generalize a9.tmps.getD 90 undef = t90 at hal
                      generalize a9.tmps.getD 91 undef = t91 at hal
                      generalize a9.tmps.getD 92 undef = t92 at hal
                      generalize a9.tmps.getD 93 undef = t93 at hal
                      generalize a9.tmps.getD 94 undef = t94 at hal
                      generalize a9.tmps.getD 95 undef = t95 at hal
                      generalize a9.tmps.getD 96 undef = t96 at hal
                      generalize a9.tmps.getD 97 undef = t97 at hal
                      generalize a9.tmps.getD 98 undef = t98 at hal
                      generalize a9.tmps.getD 99 undef = t99 at hal
                      generalize a9.tmps.getD 100 undef = t100 at hal
                      generalize a9.tmps.getD 101 undef = t101 at hal
                      generalize a9.tmps.getD 102 undef = t102 at hal
                      generalize a9.tmps.getD 103 undef = t103 at hal
                      generalize a9.tmps.getD 104 undef = t104 at hal
                      generalize a9.tmps.getD 105 undef = t105 at hal
                      generalize a9.tmps.getD 106 undef = t106 at hal
                      generalize a9.tmps.getD 107 undef = t107 at hal
                      generalize a9.tmps.getD 108 undef = t108 at hal
                      clear l0 l1 l2 l3 l4 l5 l6 l7 l8 l9 l10 l11 l12 l13 l14 l15 l16 l17 l18 l19 l20 l21 l22 l23 l109 hde
                      subst hal
                      clear hall hk hW
                      have HAF := Lib.hid hWF.1
                      have HOF := Lib.hid hWF.2
                      have hga : g < a := by have := HBB.out; have := HAA.out; have := (row_lt HR.out (k := g) rfl).2; omega
                      have HRF := Lib.hid (HOF.out.own HR9.out (fun k hk e => by rw [ownBlock_slice] at hk; injection hk with hk; simp at hk; omega))
                      have HBF := Lib.hid (HOF.out.blk HB9.out (fun e => by have := HAA.out; omega))
                      have HO9F := Lib.hid (show Out (fun k => blk? (some (⟨g, 0, none⟩ : Addr)) = some k) w wF from HO9.out.trans HOF.out (fun k hk => .inr (by have := HAA.out; have := HBB.out; omega)))
                      have HT0 := Lib.hid (show ackT d G i 0 y = (y.x.p.bs.length : Int) by unfold ackT; simp [hh, hak2, hp])
                      have HT1 := Lib.hid (show ackT d G i 1 y = 0 by unfold ackT; simp [hh, hak2, hp])
                      clear hWF k9 k7 k6 a0 a1
                      go_wp2_with fail
                      go_roundw
                      case rel => exact ⟨i + 1, by omega, by go_num, HBF, Lib.hid (by rw [ackS_step HY.out, ackS_step HY.out, HT0.out, HT1.out, Int.add_zero]; exact HAF.out), HRF, HO9F⟩
                      case measure => simp [intOf]; omega
                  · rw [hp] at k7
                    go_upto_region 11 with (fail)
                    refine staged_lit (by kernel_rfl) (facts [Is (.slice (some ⟨a, 0, none⟩) 2 2), Is (.pointer (some ⟨g, i * 11, none⟩)), Is (.pointer (some ⟨g, i * 11, none⟩)), Is (.pointer (some ⟨g, i * 11 + 7, none⟩)), Is (.int .i64 1), Is (.pointer (some ⟨a, 1, none⟩)), Is (.int .i64 (ackS d G L 1 i)), Is (.pointer (some ⟨g, i * 11, none⟩)), Is (.pointer (some ⟨g, i * 11, none⟩)), Is (.pointer (some ⟨g, i * 11, none⟩)), Is (.pointer (some ⟨g, i * 11 + 6, none⟩)), Is (.slice y.A y.x.p.bs.length y.c), Is (.int .i64 (y.x.p.bs.length : Int)), Is (.int .i64 (ackS d G L 1 i + (y.x.p.bs.length : Int))), Is (.pointer (some ⟨a, 1, none⟩)), Tru]) (Stg [15] (AccW wc a (ackS d G L 0 i) ((ackS d G L 1 i + (y.x.p.bs.length : Int))))) 110 rfl rfl rfl (Stg.start (Up.drew wc)) ?_ ?_
                    · refine ⟨?_, ?_, ?_, ?_, ?_, ?_, ?_, ?_, ?_, ?_, ?_, ?_, ?_, ?_, ?_, ?_, trivial⟩
                      · refine opS_same rfl rfl fun Lx ac w1 hJ hl hc ho hd => ?_
                        have s5 : ac.eval (.tmp 5) = .slice (some ⟨a, 0, none⟩) 2 2 := ho 5 rfl
                        exact ⟨_, x_move (.tmp 5) rfl s5, rfl⟩
                      · refine opS_same rfl rfl fun Lx ac w1 hJ hl hc ho hd => ?_
                        have s8 : ac.eval (.tmp 8) = .pointer (some ⟨g, i * 11, none⟩) := ho 8 rfl
                        exact ⟨_, x_move (.tmp 8) rfl s8, rfl⟩
                      · refine opS_same rfl rfl fun Lx ac w1 hJ hl hc ho hd => ?_
                        have d1 : ac.eval (.tmp 94) = .pointer (some ⟨g, i * 11, none⟩) := hd 1 _ _ rfl rfl rfl
                        exact ⟨_, x_nil (.tmp 94) rfl d1, rfl⟩
                      · refine opS_same rfl rfl fun Lx ac w1 hJ hl hc ho hd => ?_
                        have d2 : ac.eval (.tmp 95) = .pointer (some ⟨g, i * 11, none⟩) := hd 2 _ _ rfl rfl rfl
                        exact ⟨_, x_field 56 (.tmp 95) 1 rfl d2 (fld561 _ _ _), rfl⟩
                      · refine opS_same rfl rfl fun Lx ac w1 hJ hl hc ho hd => ?_
                        have d3 : ac.eval (.tmp 96) = .pointer (some ⟨g, i * 11 + 7, none⟩) := hd 3 _ _ rfl rfl rfl
                        have hUx : Up wc w1 := hJ.first (reach_not hc (i := 4) (n := 16) rfl hl)
                        exact ⟨_, x_load 3 (.tmp 96) rfl d3 (run_load1 agg3 (cell_up k7 hUx)), rfl⟩
                      · refine opS_same rfl rfl fun Lx ac w1 hJ hl hc ho hd => ?_
                        have d0 : ac.eval (.tmp 93) = .slice (some ⟨a, 0, none⟩) 2 2 := hd 0 _ _ rfl rfl rfl
                        have d4 : ac.eval (.tmp 97) = .int .i64 1 := hd 4 _ _ rfl rfl rfl
                        exact ⟨_, x_index 35 (.tmp 93) (.tmp 97) rfl d0 d4 (idx35_1 _ _), rfl⟩
                      · refine opS_same rfl rfl fun Lx ac w1 hJ hl hc ho hd => ?_
                        have d5 : ac.eval (.tmp 98) = .pointer (some ⟨a, 1, none⟩) := hd 5 _ _ rfl rfl rfl
                        have hUx : Up wc w1 := hJ.first (reach_not hc (i := 6) (n := 16) rfl hl)
                        exact ⟨_, x_load 3 (.tmp 98) rfl d5 (run_load1 agg3 (cell_up a1 hUx)), rfl⟩
                      · refine opS_same rfl rfl fun Lx ac w1 hJ hl hc ho hd => ?_
                        have s8 : ac.eval (.tmp 8) = .pointer (some ⟨g, i * 11, none⟩) := ho 8 rfl
                        exact ⟨_, x_move (.tmp 8) rfl s8, rfl⟩
                      · refine opS_same rfl rfl fun Lx ac w1 hJ hl hc ho hd => ?_
                        have d7 : ac.eval (.tmp 100) = .pointer (some ⟨g, i * 11, none⟩) := hd 7 _ _ rfl rfl rfl
                        exact ⟨_, x_nil (.tmp 100) rfl d7, rfl⟩
                      · refine opS_same rfl rfl fun Lx ac w1 hJ hl hc ho hd => ?_
                        have d8 : ac.eval (.tmp 101) = .pointer (some ⟨g, i * 11, none⟩) := hd 8 _ _ rfl rfl rfl
                        exact ⟨_, x_field 56 (.tmp 101) 0 rfl d8 (fld560 _ _ _), rfl⟩
                      · refine opS_same rfl rfl fun Lx ac w1 hJ hl hc ho hd => ?_
                        have d9 : ac.eval (.tmp 102) = .pointer (some ⟨g, i * 11, none⟩) := hd 9 _ _ rfl rfl rfl
                        exact ⟨_, x_field 32 (.tmp 102) 6 rfl d9 (fld326 _ _ _), rfl⟩
                      · refine opS_same rfl rfl fun Lx ac w1 hJ hl hc ho hd => ?_
                        have d10 : ac.eval (.tmp 103) = .pointer (some ⟨g, i * 11 + 6, none⟩) := hd 10 _ _ rfl rfl rfl
                        have hUx : Up wc w1 := hJ.first (reach_not hc (i := 11) (n := 16) rfl hl)
                        exact ⟨_, x_load 29 (.tmp 103) rfl d10 (run_load1 agg29 (cell_up k6 hUx)), rfl⟩
                      · refine opS_same rfl rfl fun Lx ac w1 hJ hl hc ho hd => ?_
                        have d11 : ac.eval (.tmp 104) = .slice y.A y.x.p.bs.length y.c := hd 11 _ _ rfl rfl rfl
                        exact ⟨_, x_len (.tmp 104) 29 5 rfl Try.underlying29 d11, rfl⟩
                      · refine opS_same rfl rfl fun Lx ac w1 hJ hl hc ho hd => ?_
                        have d6 : ac.eval (.tmp 99) = .int .i64 (ackS d G L 1 i) := hd 6 _ _ rfl rfl rfl
                        have d12 : ac.eval (.tmp 105) = .int .i64 (y.x.p.bs.length : Int) := hd 12 _ _ rfl rfl rfl
                        exact ⟨_, x_bin .add 3 3 (.tmp 99) (.tmp 105) rfl d6 d12 (grdA3 _ _ _ _ _) (run_add3 _ _ _ rfl (by omega) (by omega) _), rfl⟩
                      · refine opS_same rfl rfl fun Lx ac w1 hJ hl hc ho hd => ?_
                        have d0 : ac.eval (.tmp 93) = .slice (some ⟨a, 0, none⟩) 2 2 := hd 0 _ _ rfl rfl rfl
                        have d4 : ac.eval (.tmp 97) = .int .i64 1 := hd 4 _ _ rfl rfl rfl
                        exact ⟨_, x_index 35 (.tmp 93) (.tmp 97) rfl d0 d4 (idx35_1 _ _), rfl⟩
                      · refine opS_write (j := 0) rfl rfl (by decide) rfl (fun _ _ h => absurd h (by omega)) fun ac wx hW ho hd => ?_
                        have d14 : ac.eval (.tmp 107) = .pointer (some ⟨a, 1, none⟩) := hd 14 _ _ rfl rfl rfl
                        have d13 : ac.eval (.tmp 106) = .int .i64 (ackS d G L 1 i + (y.x.p.bs.length : Int)) := hd 13 _ _ rfl rfl rfl
                        have hax := (Below.block (show Up wc wx from hW) _ (lt_of_blk HA9.out)).trans HA9.out
                        exact ⟨_, x_store 3 (.tmp 107) (.tmp 106) rfl d14 d13 (run_store1 siz3 hax (by simp) rfl rfl), ⟨setCell_at _ hax, ((Up.out (show Up wc wx from hW) (fun k => k = a)).trans (setCell_out _ _ _ _) (Sub.refl _ _))⟩, fun _ => trivial, fun q v => facts_free (by simp [free_is, free_tru]) q v⟩
                    · intro L9 a9 wF hI hall
                      obtain ⟨k, hk, hW⟩ := hI.done hall (by decide)
                      have hWF : AccW wc a (ackS d G L 0 i) ((ackS d G L 1 i + (y.x.p.bs.length : Int))) 1 wF := by
                        cases k with
                        | zero => simp at hk
                        | succ k => exact hW
                      have l0 : a9.tmps.getD 0 undef = .pointer (some ⟨q, 0, none⟩) := hI.old 0 rfl
                      have l1 : a9.tmps.getD 1 undef = .agg #[.int .u32 (cu2 : Int), .int .u32 (wi : Int), .slice GA gn gc, .slice DA dn dc] := hI.old 1 rfl
                      have l2 : a9.tmps.getD 2 undef = undef := hI.old 2 rfl
                      have l3 : a9.tmps.getD 3 undef = .pointer (some ⟨b, 0, none⟩) := hI.old 3 rfl
                      have l4 : a9.tmps.getD 4 undef = .slice none 0 0 := hI.old 4 rfl
                      have l5 : a9.tmps.getD 5 undef = .slice (some ⟨a, 0, none⟩) 2 2 := hI.old 5 rfl
                      have l6 : a9.tmps.getD 6 undef = .int .i64 (d : Int) := hI.old 6 rfl
                      have l7 : a9.tmps.getD 7 undef = .int .i64 (i : Int) := hI.old 7 rfl
                      have l8 : a9.tmps.getD 8 undef = .pointer (some ⟨g, i * 11, none⟩) := hI.old 8 rfl
                      have l9 : a9.tmps.getD 9 undef = .bool false := hI.old 9 rfl
                      have l10 : a9.tmps.getD 10 undef = .slice (some ⟨a, 0, none⟩) 2 2 := hI.old 10 rfl
                      have l11 : a9.tmps.getD 11 undef = .pointer (some ⟨b, 0, none⟩) := hI.old 11 rfl
                      have l12 : a9.tmps.getD 12 undef = .int .u32 (cu2 : Int) := hI.old 12 rfl
                      have l13 : a9.tmps.getD 13 undef = .pointer (some ⟨q, 0, none⟩) := hI.old 13 rfl
                      have l14 : a9.tmps.getD 14 undef = .pointer (some ⟨q, 0, none⟩) := hI.old 14 rfl
                      have l15 : a9.tmps.getD 15 undef = .pointer (some ⟨q, 0, none⟩) := hI.old 15 rfl
                      have l16 : a9.tmps.getD 16 undef = .int .u32 (cu : Int) := hI.old 16 rfl
                      have l17 : a9.tmps.getD 17 undef = .int .u32 (d : Int) := hI.old 17 rfl
                      have l18 : a9.tmps.getD 18 undef = .int .i64 (d : Int) := hI.old 18 rfl
                      have l19 : a9.tmps.getD 19 undef = .pointer (some ⟨q, 0, none⟩) := hI.old 19 rfl
                      have l20 : a9.tmps.getD 20 undef = .pointer (some ⟨q, 0, none⟩) := hI.old 20 rfl
                      have l21 : a9.tmps.getD 21 undef = .pointer (some ⟨q, 2, none⟩) := hI.old 21 rfl
                      have l22 : a9.tmps.getD 22 undef = .int .i64 (o : Int) := hI.old 22 rfl
                      have l23 : a9.tmps.getD 23 undef = .int .i64 (i : Int) := hI.old 23 rfl
                      have l109 : a9.tmps.getD 109 undef = undef := hI.old 109 rfl
                      have hde : a9.defers = [] := hI.defers
                      have hal := act_lit a9 110 hI.size
                      clear hI
                      simp only [List.range, List.range.loop, List.map_cons, List.map_nil] at hal
                      rw [l0, l1, l2, l3, l4, l5, l6, l7, l8, l9, l10, l11, l12, l13, l14, l15, l16, l17, l18, l19, l20, l21, l22, l23, l109, hde] at hal
                      generalize a9.tmps.getD 24 undef = t24 at hal
                      generalize a9.tmps.getD 25 undef = t25 at hal
                      generalize a9.tmps.getD 26 undef = t26 at hal
                      generalize a9.tmps.getD 27 undef = t27 at hal
                      generalize a9.tmps.getD 28 undef = t28 at hal
                      generalize a9.tmps.getD 29 undef = t29 at hal
                      generalize a9.tmps.getD 30 undef = t30 at hal
                      generalize a9.tmps.getD 31 undef = t31 at hal
                      generalize a9.tmps.getD 32 undef = t32 at hal
                      generalize a9.tmps.getD 33 undef = t33 at hal
                      generalize a9.tmps.getD 34 undef = t34 at hal
                      generalize a9.tmps.getD 35 undef = t35 at hal
                      generalize a9.tmps.getD 36 undef = t36 at hal
                      generalize a9.tmps.getD 37 undef = t37 at hal
                      generalize a9.tmps.getD 38 undef = t38 at hal
                      generalize a9.tmps.getD 39 undef = t39 at hal
                      generalize a9.tmps.getD 40 undef = t40 at hal
                      generalize a9.tmps.getD 41 undef = t41 at hal
                      generalize a9.tmps.getD 42 undef = t42 at hal
                      generalize a9.tmps.getD 43 undef = t43 at hal
                      generalize a9.tmps.getD 44 undef = t44 at hal
                      generalize a9.tmps.getD 45 undef = t45 at hal
                      generalize a9.tmps.getD 46 undef = t46 at hal
                      generalize a9.tmps.getD 47 undef = t47 at hal
                      generalize a9.tmps.getD 48 undef = t48 at hal
                      generalize a9.tmps.getD 49 undef = t49 at hal
                      generalize a9.tmps.getD 50 undef = t50 at hal
                      generalize a9.tmps.getD 51 undef = t51 at hal
                      generalize a9.tmps.getD 52 undef = t52 at hal
                      generalize a9.tmps.getD 53 undef = t53 at hal
                      generalize a9.tmps.getD 54 undef = t54 at hal
                      generalize a9.tmps.getD 55 undef = t55 at hal
                      generalize a9.tmps.getD 56 undef = t56 at hal
                      generalize a9.tmps.getD 57 undef = t57 at hal
                      generalize a9.tmps.getD 58 undef = t58 at hal
                      generalize a9.tmps.getD 59 undef = t59 at hal
                      generalize a9.tmps.getD 60 undef = t60 at hal
                      generalize a9.tmps.getD 61 undef = t61 at hal
                      generalize a9.tmps.getD 62 undef = t62 at hal
                      generalize a9.tmps.getD 63 undef = t63 at hal
                      generalize a9.tmps.getD 64 undef = t64 at hal
                      generalize a9.tmps.getD 65 undef = t65 at hal
                      generalize a9.tmps.getD 66 undef = t66 at hal
                      generalize a9.tmps.getD 67 undef = t67 at hal
                      generalize a9.tmps.getD 68 undef = t68 at hal
                      generalize a9.tmps.getD 69 undef = t69 at hal
                      generalize a9.tmps.getD 70 undef = t70 at hal
                      generalize a9.tmps.getD 71 undef = t71 at hal
                      generalize a9.tmps.getD 72 undef = t72 at hal
                      generalize a9.tmps.getD 73 undef = t73 at hal
                      generalize a9.tmps.getD 74 undef = t74 at hal
                      generalize a9.tmps.getD 75 undef = t75 at hal
                      generalize a9.tmps.getD 76 undef = t76 at hal
                      generalize a9.tmps.getD 77 undef = t77 at hal
                      generalize a9.tmps.getD 78 undef = t78 at hal
                      generalize a9.tmps.getD 79 undef = t79 at hal
                      generalize a9.tmps.getD 80 undef = t80 at hal
                      generalize a9.tmps.getD 81 undef = t81 at hal
                      generalize a9.tmps.getD 82 undef = t82 at hal
                      generalize a9.tmps.getD 83 undef = t83 at hal
                      generalize a9.tmps.getD 84 undef = t84 at hal
                      generalize a9.tmps.getD 85 undef = t85 at hal
                      generalize a9.tmps.getD 86 undef = t86 at hal
                      generalize a9.tmps.getD 87 undef = t87 at hal
                      generalize a9.tmps.getD 88 undef = t88 at hal
                      generalize a9.tmps.getD 89 undef = t89 at hal
                      generalize a9.tmps.getD 90 undef = t90 at hal
                      generalize a9.tmps.getD 91 undef = t91 at hal
                      generalize a9.tmps.getD 92 undef = t92 at hal
                      generalize a9.tmps.getD 93 undef = t93 at hal
                      generalize a9.tmps.getD 94 undef = t94 at hal
                      generalize a9.tmps.getD 95 undef = t95 at hal
                      generalize a9.tmps.getD 96 undef = t96 at hal
                      generalize a9.tmps.getD 97 undef = t97 at hal
                      generalize a9.tmps.getD 98 undef = t98 at hal
                      generalize a9.tmps.getD 99 undef = t99 at hal
                      generalize a9.tmps.getD 100 undef = t100 at hal
                      generalize a9.tmps.getD 101 undef = t101 at hal
                      generalize a9.tmps.getD 102 undef = t102 at hal
                      generalize a9.tmps.getD 103 undef = t103 at hal
                      generalize a9.tmps.getD 104 undef = t104 at hal
                      generalize a9.tmps.getD 105 undef = t105 at hal
                      generalize a9.tmps.getD 106 undef = t106 at hal
                      generalize a9.tmps.getD 107 undef = t107 at hal
                      generalize a9.tmps.getD 108 undef = t108 at hal
                      clear l0 l1 l2 l3 l4 l5 l6 l7 l8 l9 l10 l11 l12 l13 l14 l15 l16 l17 l18 l19 l20 l21 l22 l23 l109 hde
                      subst hal
                      clear hall hk hW
                      have HAF := Lib.hid hWF.1
                      have HOF := Lib.hid hWF.2
                      have hga : g < a := by have := HBB.out; have := HAA.out; have := (row_lt HR.out (k := g) rfl).2; omega
                      have HRF := Lib.hid (HOF.out.own HR9.out (fun k hk e => by rw [ownBlock_slice] at hk; injection hk with hk; simp at hk; omega))
                      have HBF := Lib.hid (HOF.out.blk HB9.out (fun e => by have := HAA.out; omega))
                      have HO9F := Lib.hid (show Out (fun k => blk? (some (⟨g, 0, none⟩ : Addr)) = some k) w wF from HO9.out.trans HOF.out (fun k hk => .inr (by have := HAA.out; have := HBB.out; omega)))
                      have HT0 := Lib.hid (show ackT d G i 0 y = 0 by unfold ackT; simp [hh, hak2, hp])
                      have HT1 := Lib.hid (show ackT d G i 1 y = (y.x.p.bs.length : Int) by unfold ackT; simp [hh, hak2, hp])
                      clear hWF k9 k7 k6 a0 a1
                      go_wp2_with fail
                      go_roundw
                      case rel => exact ⟨i + 1, by omega, by go_num, HBF, Lib.hid (by rw [ackS_step HY.out, ackS_step HY.out, HT0.out, HT1.out, Int.add_zero]; exact HAF.out), HRF, HO9F⟩
                      case measure => simp [intOf]; omega
                · have HZ0 := Lib.hid (show ackT d G i 0 y = 0 by unfold ackT; rw [if_neg]; simp; omega)
                  have HZ1 := Lib.hid (show ackT d G i 1 y = 0 by unfold ackT; rw [if_neg]; simp; omega)
                  have hp2' : (2 : Int) ≤ y.x.path := by omega
                  go_wp2_with fail
                  go_roundw
                  case rel => exact ⟨i + 1, by omega, by go_num, HB9, Lib.hid (by rw [ackS_step HY.out, ackS_step HY.out, HZ0.out, HZ1.out, Int.add_zero, Int.add_zero]; exact HA9.out), HR9, HO9⟩
                  case measure => simp [intOf]; omega
              · have HZ0 := Lib.hid (show ackT d G i 0 y = 0 by unfold ackT; rw [if_neg]; simp; omega)
                have HZ1 := Lib.hid (show ackT d G i 1 y = 0 by unfold ackT; rw [if_neg]; simp; omega)
                have hp0' : y.x.path < (0 : Int) := by omega
                go_wp2_with fail
                go_roundw
                case rel => exact ⟨i + 1, by omega, by go_num, HB9, Lib.hid (by rw [ackS_step HY.out, ackS_step HY.out, HZ0.out, HZ1.out, Int.add_zero, Int.add_zero]; exact HA9.out), HR9, HO9⟩
                case measure => simp [intOf]; omega
          · rw [hh] at k9
            have HZ0 := Lib.hid (show ackT d G i 0 y = 0 by unfold ackT; simp [hh])
            have HZ1 := Lib.hid (show ackT d G i 1 y = 0 by unfold ackT; simp [hh])
            go_wp2_with fail
            go_roundw
            case rel => exact ⟨i + 1, by omega, by go_num, HB9, Lib.hid (by rw [ackS_step HY.out, ackS_step HY.out, HZ0.out, HZ1.out, Int.add_zero, Int.add_zero]; exact HA9.out), HR9, HO9⟩
            case measure => simp [intOf]; omega
    · obtain rfl : i = o := by omega
      go_wp2_with fail
      go_ret
      exact ⟨a, rfl, Lib.hid (by have := HAA.out; have := HBB.out; omega), HAi, HRi, HOi⟩
end Go.Proofs.Ytdlehchofmdjbaa
