import Derived.Test.YthncpkjnalmpkaaMgX
namespace Go.Proofs.Ythncpkjnalmpkaa
open Go Go.RowKit Mg
set_option linter.unusedVariables false
set_option linter.unusedSimpArgs false
/-! The law MsgHop. -/
section
variable {P : Program} {ops : Array Oper} {Φ : Nat → Value → World → Prop} {a0 : Act}
theorem opS_callUpG {ws : List Nat} {W : Nat → World → Prop} {i : Nat} {o : Oper} (j : Nat) (b : Bool) (oj : Oper) (d : Tmp) (hg : o.guard = some (j, b)) (hin : (o.after.toList.any fun e => e.on == j && Region.binds .any e) = true) (hj : ops[j]? = some oj) (hdj : oj.dst = some d) (hv : ∀ v w, Φ j v w → v = .bool b) (hi : ws.contains i = false) (hW : ∀ k w w', W k w → Up w w' → W k w') (hF : ∀ j x w w', Φ j x w → Up w w' → Φ j x w')
    (h : ∀ (L : Nat → Bool) (a : Act) (w : World), Stg ws W L w → L i = false → Closed ops L → (∀ t, oldB ops t = true → a.tmps.getD t undef = a0.tmps.getD t undef) →
      (∀ (j : Nat) (oj : Oper) (d : Tmp), (o.after.toList.any fun e => e.on == j && Region.binds .any e) = true → ops[j]? = some oj → oj.dst = some d → Φ j (a.tmps.getD d undef) w) → ∃ f args, (execOp a.eval o).run P w = .ok (.enter f args) w ∧ Calls P f args w fun e w' => ∃ v, e = .returned v ∧ Up w w' ∧ Φ i v w') : OpS P ops Φ (Stg ws W) a0 i o := by
  intro L a w hJ hl hc _ _ ho hd
  have hy := yielded_of (tmps := a.tmps) hj hdj (hv _ w (hd j oj d hin hj hdj))
  rw [if_pos (by simp [Region.wanted, hg, hy])]
  obtain ⟨f, args, hr, hcall⟩ := h L a w hJ hl hc ho hd
  unfold Oper.wp
  rw [hr]
  refine Calls.mono hcall fun e w' ⟨v, he, hu, hv⟩ => ?_
  subst he
  exact ⟨⟨v, rfl, hv⟩, hJ.same hi (fun k hk => hW k w w' hk hu), fun j x _ hj => hF j x w w' hj hu⟩
end
theorem x_sliceL {P : Program} {o : Oper} {a : Act} {w : World} (t : TypeId) (x y : Operand) {X Y v : Value} (ho : o.op = .slice t x (some y) none none) (hx : a.eval x = X) (hy : a.eval y = Y) (hr : (Instr.sliceAt t X (some Y) none none).run P w = .ok v w) : (execOp a.eval o).run P w = .ok (.value v) w := by simp [execOp, ho, hx, hy, hr, Result.andThen]
theorem x_sliceM {P : Program} {o : Oper} {a : Act} {w : World} (t : TypeId) (x y z : Operand) {X Y Q v : Value} (ho : o.op = .slice t x (some y) (some z) none) (hx : a.eval x = X) (hy : a.eval y = Y) (hz : a.eval z = Q) (hr : (Instr.sliceAt t X (some Y) (some Q) none).run P w = .ok v w) : (execOp a.eval o).run P w = .ok (.value v) w := by simp [execOp, ho, hx, hy, hz, hr, Result.andThen]
theorem run_slH (g n c : Nat) (w : World) (h : 20 ≤ n ∧ n ≤ c) : (Instr.sliceAt 26 (.slice (some ⟨g, 0, none⟩) n c) none (some (.int .i64 12)) none).run Try.prog w = .ok (.slice (some ⟨g, 0, none⟩) 12 c) w := by
  have h1 : (12 : Int) ≤ (c : Int) := by omega
  have h2 : ¬ c = 0 := by omega
  simp [go_sem, h1, h2]
theorem run_slL (g n c : Nat) (w : World) (h : 20 ≤ n) (h' : n ≤ c) : (Instr.sliceAt 26 (.slice (some ⟨g, 0, none⟩) n c) (some (.int .i64 16)) none none).run Try.prog w = .ok (.slice (some ⟨g, 16, none⟩) (n - 16) (c - 16)) w := by
  have h1 : (n : Int) ≤ (c : Int) := by omega
  have h2 : ¬ c = 16 := by omega
  have h3 : (16 : Int) ≤ (n : Int) := by omega
  have h4 : ((n : Int) - 16).toNat = n - 16 := by omega
  have h5 : ((c : Int) - 16).toNat = c - 16 := by omega
  simp [go_sem, h1, h2, h3, h4, h5, h']
theorem run_slM (g n c : Nat) (w : World) (h : 20 ≤ n ∧ n ≤ c) : (Instr.sliceAt 26 (.slice (some ⟨g, 0, none⟩) n c) (some (.int .i64 12)) (some (.int .i64 16)) none).run Try.prog w = .ok (.slice (some ⟨g, 12, none⟩) 4 (c - 12)) w := by
  have h1 : (16 : Int) ≤ (c : Int) := by omega
  have h2 : ¬ c = 12 := by omega
  have h5 : ((c : Int) - 12).toNat = c - 12 := by omega
  simp [go_sem, h1, h2, h5]
theorem grdS (x y : Operand) (s t : ByteArray) (w : World) : (eqGuard .eql 9 x y (.string s) (.string t)).run Try.prog w = .ok () w := by kernel_rfl
theorem run_eqS (s : ByteArray) (w : World) : (binOp .eql 9 (.string s) (.string s)).run Try.prog w = .ok (.bool true) w := by simp [go_sem]
theorem run_c2252 (n : Int) (h0 : 0 ≤ n) (h1 : n < 4294967296) (w : World) : (convert 22 52 (.int .u32 n)).run Try.prog w = .ok (.int .u64 n) w := by
  simp [go_sem, IntKind.wrap, IntKind.bits, IntKind.signed]
  omega
def BytF (xs : List Int) (v : Value) (w : World) : Prop := ∃ A N c, v = .slice A N c ∧ InB w A N c xs
theorem keeps_bytF (xs : List Int) : Keeps (BytF xs) := fun v w w' ⟨A, N, c, h1, h2⟩ hu => ⟨A, N, c, h1, h2.up hu⟩
theorem InB.front {w : World} {A : Option Addr} {m c k : Nat} {xs : List Int} (h : InB w A m c xs) (hk : k ≤ m) : InB w A k c (xs.take k) := by
  refine ⟨fun hne => ?_, fun x hx => h.byt x (List.mem_of_mem_take hx), Nat.le_trans hk h.cap, by simp [h.len]; omega⟩
  obtain ⟨g, o, e, hlt, hc⟩ := h.cells (by intro e; apply hne; unfold ints at e ⊢; rw [List.map_eq_nil_iff] at e ⊢; subst e; simp)
  refine ⟨g, o, e, hlt, fun j u hu => hc j u ?_⟩
  unfold ints at hu ⊢
  rw [List.map_take, List.getElem?_take] at hu
  split at hu
  · exact hu
  · cases hu
def hopM (m : Msg) (h : Int) : Msg := { m with hop := h }
theorem putM_hop (m : Msg) (h : Int) : (putM (hopM m h)).2 = (putM m).2 ∧ (putM (hopM m h)).1.length = (putM m).1.length := by
  unfold hopM putM
  have e1 : mixM { m with hop := h } = mixM m := rfl
  have e2 : (encM { m with hop := h }).length = (encM m).length := by rw [encM_length, encM_length]
  rw [e1]
  split
  · exact ⟨rfl, rfl⟩
  · split
    · exact ⟨rfl, rfl⟩
    · split
      · exact ⟨rfl, rfl⟩
      · split
        · exact ⟨rfl, rfl⟩
        · exact ⟨rfl, e2⟩
set_option maxRecDepth 100000 in
set_option maxHeartbeats 20000000 in
theorem law_hop (x : MsB) (hop : Int) (w : World) (h : MsIn w x) (hh0 : 0 ≤ hop) (hh1 : hop < 4294967296) : Calls Try.prog 9 #[msV x, .int .u32 hop] w (RetB true w) := by
  have H := Lib.hid h
  have HU := Lib.hid (up_alloc w (msO x))
  have HC := Lib.hid (new_at w (msO x))
  clear h
  unfold msV
  go_enter Try.func9, Try.ntmps9
  go_upto_region 1 with (fail)
  change Code.wp _ _ _ _ (w.alloc (msO x))
  generalize w.alloc (msO x) = wa at HC HU ⊢
  generalize w.heap.size = pb at HC ⊢
  have HI := Lib.hid (H.out.up HU.out)
  have z0 : wa.cell? ⟨pb, 0, none⟩ = some (.bool x.req) := cell_of HC.out (j := 0) rfl
  have z1 : wa.cell? ⟨pb, 1, none⟩ = some (.bool x.prox) := cell_of HC.out (j := 1) rfl
  have z2 : wa.cell? ⟨pb, 2, none⟩ = some (.bool x.fail) := cell_of HC.out (j := 2) rfl
  have z3 : wa.cell? ⟨pb, 3, none⟩ = some (.bool x.again) := cell_of HC.out (j := 3) rfl
  have z4 : wa.cell? ⟨pb, 4, none⟩ = some (.int .u32 x.code) := cell_of HC.out (j := 4) rfl
  have z5 : wa.cell? ⟨pb, 5, none⟩ = some (.int .u32 x.app) := cell_of HC.out (j := 5) rfl
  have z6 : wa.cell? ⟨pb, 6, none⟩ = some (.int .u32 x.hop) := cell_of HC.out (j := 6) rfl
  have z7 : wa.cell? ⟨pb, 7, none⟩ = some (.int .u32 x.end_) := cell_of HC.out (j := 7) rfl
  have z8 : wa.cell? ⟨pb, 8, none⟩ = some (.slice x.A x.n x.c) := cell_of HC.out (j := 8) rfl
  have hxn := HI.out.n
  go_wp2_with fail
  refine (mown_any x wa HI.out.avs hxn).mono ?_
  rintro e w1 ⟨y, rfl, hy, hg, hy2, hu1⟩
  have HY := Lib.hid (takeM_in HI.out hy.out hg.out hy2.out)
  unfold msV
  go_upto_region 2 with (fail)
  change Code.wp _ _ _ _ (w1.alloc (msO y))
  obtain ⟨q, HQ⟩ : ∃ p, Hid (w1.heap.size = p) := ⟨_, Lib.hid rfl⟩
  have HC1 := Lib.hid (new_at w1 (msO y))
  have HV1 := Lib.hid (up_alloc w1 (msO y))
  rw [HQ.out] at HC1 ⊢
  have HPQ := Lib.hid (show w1.heap.size = q from HQ.out)
  have hpq : pb < q := by have := lt_of_blk (blk_up HC.out hu1.out); have := HQ.out; omega
  generalize w1.alloc (msO y) = w2 at HC1 HV1 ⊢
  have z6' : w2.cell? ⟨q, 6, none⟩ = some (.int .u32 y.hop) := cell_of HC1.out (j := 6) rfl
  have fz := frozen_at (j := 6) HC1.out
  go_upto_region 3 with (fail)
  have HD1 := Lib.hid (show (w2.setCell ⟨q, 6, none⟩ (.int .u32 hop)).heap[q]? = some (msO { y with hop := hop }) from (setCell_at (j := 6) (.int .u32 hop) HC1.out).trans rfl)
  have HO := setCell_out w2 q 6 (.int .u32 hop)
  generalize w2.setCell ⟨q, 6, none⟩ (.int .u32 hop) = w3 at HD1 HO ⊢
  have U3 := Lib.hid (show Up wa w3 from Below.out (hu1.out.trans HV1.out) HO (fun k hk => by have := hu1.out.size; have := HPQ.out; omega) (hu1.out.trans HV1.out).size)
  have U13 := Lib.hid (show Up w1 w3 from Below.out HV1.out HO (fun k hk => by have := HPQ.out; omega) HV1.out.size)
  have HY3 := Lib.hid (show MsIn w3 { y with hop := hop } from ⟨HY.out.avs.up U13.out, ⟨HY.out.ok.code, HY.out.ok.app, ⟨hh0, hh1⟩, HY.out.ok.end_, HY.out.ok.avps⟩, HY.out.n⟩)
  have HYP := Lib.hid (show ({ y with hop := hop } : MsB).pure = { (hopM x.pure hop) with avps := (hopM x.pure hop).avps.take 200 } by
    have := hy.out
    show ({ y.pure with hop := hop } : Msg) = _
    rw [this]; rfl)
  have HC3 := Lib.hid (blk_up HC.out U3.out)
  clear HC1 HV1 HO HPQ HQ z6' fz hy hg hy2 HY hu1 U13
  clear z0 z1 z2 z3 z4 z5 z6 z7 z8
  have z0 : w3.cell? ⟨pb, 0, none⟩ = some (.bool x.req) := cell_of HC3.out (j := 0) rfl
  have z1 : w3.cell? ⟨pb, 1, none⟩ = some (.bool x.prox) := cell_of HC3.out (j := 1) rfl
  have z2 : w3.cell? ⟨pb, 2, none⟩ = some (.bool x.fail) := cell_of HC3.out (j := 2) rfl
  have z3 : w3.cell? ⟨pb, 3, none⟩ = some (.bool x.again) := cell_of HC3.out (j := 3) rfl
  have z4 : w3.cell? ⟨pb, 4, none⟩ = some (.int .u32 x.code) := cell_of HC3.out (j := 4) rfl
  have z5 : w3.cell? ⟨pb, 5, none⟩ = some (.int .u32 x.app) := cell_of HC3.out (j := 5) rfl
  have z6 : w3.cell? ⟨pb, 6, none⟩ = some (.int .u32 x.hop) := cell_of HC3.out (j := 6) rfl
  have z7 : w3.cell? ⟨pb, 7, none⟩ = some (.int .u32 x.end_) := cell_of HC3.out (j := 7) rfl
  have z8 : w3.cell? ⟨pb, 8, none⟩ = some (.slice x.A x.n x.c) := cell_of HC3.out (j := 8) rfl
  go_wp2_with fail
  refine (mown_any x w3 (HI.out.avs.up U3.out) hxn).mono ?_
  rintro e w4 ⟨y2, rfl, hy, hg, hy2, hu4⟩
  have HY := Lib.hid (takeM_in (HI.out.up U3.out) hy.out hg.out hy2.out)
  go_wp2_with fail
  refine (mput_any y2 w4 HY.out).mono ?_
  rintro e w5 ⟨ys, k, A2, n2, c2, rfl, hr, hN2, hO2, hu5⟩
  have HR := Lib.hid (show putM x.pure = (ys, k) by have := hr.out; rwa [hy.out, putM_take] at this)
  have U5 := Lib.hid (hu4.out.trans hu5.out)
  have HB2 := Lib.hid (own_inB hO2.out (putM_byt HI.out.ok HR.out))
  have HO2' := Lib.hid hO2.out
  have HD5 := Lib.hid (blk_up HD1.out U5.out)
  have HY5 := Lib.hid (HY3.out.up U5.out)
  clear hr hy hg hy2 HY hu4 hu5 HD1 hO2
  clear z0 z1 z2 z3 z4 z5 z6 z7 z8
  have x0 : w5.cell? ⟨q, 0, none⟩ = some (.bool y.req) := cell_of HD5.out (j := 0) rfl
  have x1 : w5.cell? ⟨q, 1, none⟩ = some (.bool y.prox) := cell_of HD5.out (j := 1) rfl
  have x2 : w5.cell? ⟨q, 2, none⟩ = some (.bool y.fail) := cell_of HD5.out (j := 2) rfl
  have x3 : w5.cell? ⟨q, 3, none⟩ = some (.bool y.again) := cell_of HD5.out (j := 3) rfl
  have x4 : w5.cell? ⟨q, 4, none⟩ = some (.int .u32 y.code) := cell_of HD5.out (j := 4) rfl
  have x5 : w5.cell? ⟨q, 5, none⟩ = some (.int .u32 y.app) := cell_of HD5.out (j := 5) rfl
  have x6 : w5.cell? ⟨q, 6, none⟩ = some (.int .u32 hop) := cell_of HD5.out (j := 6) rfl
  have x7 : w5.cell? ⟨q, 7, none⟩ = some (.int .u32 y.end_) := cell_of HD5.out (j := 7) rfl
  have x8 : w5.cell? ⟨q, 8, none⟩ = some (.slice y.A y.n y.c) := cell_of HD5.out (j := 8) rfl
  go_wp2_with fail
  refine (mput_any { y with hop := hop } w5 HY5.out).mono ?_
  rintro e w6 ⟨zs, k', A3, n3, c3, rfl, hr, hN3, hO3, hu6⟩
  have HR3 := Lib.hid (show putM (hopM x.pure hop) = (zs, k') by have := hr.out; rwa [HYP.out, putM_take] at this)
  obtain ⟨e1, e2⟩ := putM_hop x.pure hop
  rw [HR.out, HR3.out] at e1 e2
  simp only at e1 e2
  subst e1
  have HLN := Lib.hid (show n3 = n2 by rw [hN2.out, hN3.out]; exact e2)
  have U6 := Lib.hid (U3.out.trans (U5.out.trans hu6.out))
  have HB3 := Lib.hid (own_inB hO3.out (putM_byt HY5.out.ok (by have := hr.out; exact this)))
  have HB2' := Lib.hid (HB2.out.up hu6.out)
  have HO3' := Lib.hid hO3.out
  have HO2'' := Lib.hid (own_up HO2'.out hu6.out)
  clear hr e2 HB2 HO2' hO3 HD5 HY5 HY3 HYP U3 U5 x0 x1 x2 x3 x4 x5 x6 x7 x8
  have dn : ((n2 : Int) != (n3 : Int)) = false := by rw [HLN.out]; simp
  go_wp2_with fail
  refine (answersM_ok w6).mono ?_
  rintro e w7 ⟨rfl, hu7⟩
  have U7 := Lib.hid (HU.out.trans (U6.out.trans hu7.out))
  by_cases hk : k' = 0
  case neg =>
    have d1 : (k' != 0) = true := by simpa using hk
    go_wp2_with fail
    go_ret
    exact ⟨rfl, U7⟩
  subst hk
  obtain ⟨ea, eb, ec, ed, ee⟩ := putM_ok HR.out
  obtain ⟨fa, _, _, _, _⟩ := putM_ok HR3.out
  obtain ⟨p1, p2, p3⟩ := encM_hop x.pure hop
  rw [← ea, show encM { x.pure with hop := hop } = zs from fa.symm] at p1 p2
  rw [show encM { x.pure with hop := hop } = zs from fa.symm] at p3
  have hlen : 20 ≤ n2 := by rw [hN2.out, ea, encM_length]; omega
  have hlen3 : 20 ≤ n3 := by rw [HLN.out]; exact hlen
  obtain ⟨ga, rfl, _, _⟩ := OwnI.at_ HO2''.out (by omega)
  obtain ⟨gb, rfl, _, _⟩ := HO3'.out.at_ (by omega)
  have hc2 := HB2'.out.cap
  have hc3 := HB3.out.cap
  have J2 := HB2'.out.up hu7.out
  have J3 := HB3.out.up hu7.out
  have I1 := Lib.hid (J2.front (k := 12) (by omega))
  have I2 := Lib.hid (J3.front (k := 12) (by omega))
  have I3 := Lib.hid (show InB w7 (some ⟨ga, 16, none⟩) (n2 - 16) (c2 - 16) (ys.drop 16) by have := J2.tail (p := 16) (by omega); rwa [Nat.zero_add] at this)
  have I4 := Lib.hid (show InB w7 (some ⟨gb, 16, none⟩) (n3 - 16) (c3 - 16) (zs.drop 16) by have := J3.tail (p := 16) (by omega); rwa [Nat.zero_add] at this)
  have I5 := Lib.hid (show InB w7 (some ⟨gb, 12, none⟩) 4 (c3 - 12) ((zs.drop 12).take 4) by have := (J3.tail (p := 12) (by omega)).front (k := 4) (by omega); rwa [Nat.zero_add] at this)
  obtain ⟨S1, E1⟩ : ∃ s, Hid (strOfNums (ys.take 12) = s) := ⟨_, Lib.hid rfl⟩
  obtain ⟨S2, E3⟩ : ∃ s, Hid (strOfNums (ys.drop 16) = s) := ⟨_, Lib.hid rfl⟩
  obtain ⟨S3, E5⟩ : ∃ s, Hid (strOfNums ((zs.drop 12).take 4) = s) := ⟨_, Lib.hid rfl⟩
  have E2 := Lib.hid (show strOfNums (zs.take 12) = S1 by rw [← p1]; exact E1.out)
  have E4 := Lib.hid (show strOfNums (zs.drop 16) = S2 by rw [← p2]; exact E3.out)
  have E6 := Lib.hid (show strOfNums (be hop 4) = S3 by rw [← p3]; exact E5.out)
  clear ea eb ec ed ee fa p1 p2 p3 J2 J3 HR HR3 HLN hN2 hN3 HB2' HB3 HO2'' HO3' hu7 hu6 U6 HI HC3 HC HU
  go_upto_region 9 with (fail)
  have HK : ∀ φ ∈ ([Is (.slice (some ⟨ga, 0, none⟩) n2 c2), Is (.slice (some ⟨ga, 0, none⟩) 12 c2), Is (.string S1), Is (.slice (some ⟨gb, 0, none⟩) n3 c3), Is (.slice (some ⟨gb, 0, none⟩) 12 c3), Is (.string S1), Is (.bool true), Is (.bool true), Is (.slice (some ⟨ga, 0, none⟩) n2 c2), Is (.slice (some ⟨ga, 16, none⟩) (n2 - 16) (c2 - 16)), Is (.string S2), Is (.slice (some ⟨gb, 0, none⟩) n3 c3), Is (.slice (some ⟨gb, 16, none⟩) (n3 - 16) (c3 - 16)), Is (.string S2), Is (.bool true), Is (.bool true), Is (.bool true), Is (.slice (some ⟨gb, 0, none⟩) n3 c3), Is (.slice (some ⟨gb, 12, none⟩) 4 (c3 - 12)), Is (.string S3), Is (.int .u32 hop), Is (.int .u64 hop), BytF (be hop 4), Is (.string S3), Is (.bool true), Is (.bool true), Is (.bool true)] : List (Value → World → Prop)), Keeps φ := by
    simp [keeps_is, keeps_bytF]
  refine staged_lit (by kernel_rfl) (facts [Is (.slice (some ⟨ga, 0, none⟩) n2 c2), Is (.slice (some ⟨ga, 0, none⟩) 12 c2), Is (.string S1), Is (.slice (some ⟨gb, 0, none⟩) n3 c3), Is (.slice (some ⟨gb, 0, none⟩) 12 c3), Is (.string S1), Is (.bool true), Is (.bool true), Is (.slice (some ⟨ga, 0, none⟩) n2 c2), Is (.slice (some ⟨ga, 16, none⟩) (n2 - 16) (c2 - 16)), Is (.string S2), Is (.slice (some ⟨gb, 0, none⟩) n3 c3), Is (.slice (some ⟨gb, 16, none⟩) (n3 - 16) (c3 - 16)), Is (.string S2), Is (.bool true), Is (.bool true), Is (.bool true), Is (.slice (some ⟨gb, 0, none⟩) n3 c3), Is (.slice (some ⟨gb, 12, none⟩) 4 (c3 - 12)), Is (.string S3), Is (.int .u32 hop), Is (.int .u64 hop), BytF (be hop 4), Is (.string S3), Is (.bool true), Is (.bool true), Is (.bool true)]) (Stg [] (fun _ x => Up w7 x)) 67 rfl (by decide +kernel) (by decide +kernel) (Stg.start (Up.drew w7)) ?_ ?_
  · refine ⟨?_, ?_, ?_, ?_, ?_, ?_, ?_, ?_, ?_, ?_, ?_, ?_, ?_, ?_, ?_, ?_, ?_, ?_, ?_, ?_, ?_, ?_, ?_, ?_, ?_, ?_, ?_, trivial⟩
    · refine opS_same rfl rfl fun Lx ac w1 hJ hl hc ho hd => ?_
      have s6 : ac.eval (.tmp 6) = .slice (some ⟨ga, 0, none⟩) n2 c2 := ho 6 rfl
      exact ⟨_, x_move (.tmp 6) rfl s6, rfl⟩
    · refine opS_same rfl rfl fun Lx ac w1 hJ hl hc ho hd => ?_
      have d0 : ac.eval (.tmp 41) = .slice (some ⟨ga, 0, none⟩) n2 c2 := hd 0 _ _ rfl rfl rfl
      exact ⟨_, x_slice 26 _ (.const (.int .i64 12)) rfl d0 rfl (run_slH ga n2 c2 w1 (by omega)), rfl⟩
    · refine opS_same rfl rfl fun Lx ac w1 hJ hl hc ho hd => ?_
      have d1 : ac.eval (.tmp 42) = .slice (some ⟨ga, 0, none⟩) 12 c2 := hd 1 _ _ rfl rfl rfl
      obtain ⟨_, _, hU⟩ := hJ
      exact ⟨_, x_conv 26 9 _ rfl d1 (by have := conv_up I1.out hU; rwa [E1.out] at this), rfl⟩
    · refine opS_same rfl rfl fun Lx ac w1 hJ hl hc ho hd => ?_
      have s8 : ac.eval (.tmp 8) = .slice (some ⟨gb, 0, none⟩) n3 c3 := ho 8 rfl
      exact ⟨_, x_move (.tmp 8) rfl s8, rfl⟩
    · refine opS_same rfl rfl fun Lx ac w1 hJ hl hc ho hd => ?_
      have d3 : ac.eval (.tmp 44) = .slice (some ⟨gb, 0, none⟩) n3 c3 := hd 3 _ _ rfl rfl rfl
      exact ⟨_, x_slice 26 _ (.const (.int .i64 12)) rfl d3 rfl (run_slH gb n3 c3 w1 (by omega)), rfl⟩
    · refine opS_same rfl rfl fun Lx ac w1 hJ hl hc ho hd => ?_
      have d4 : ac.eval (.tmp 45) = .slice (some ⟨gb, 0, none⟩) 12 c3 := hd 4 _ _ rfl rfl rfl
      obtain ⟨_, _, hU⟩ := hJ
      exact ⟨_, x_conv 26 9 _ rfl d4 (by have := conv_up I2.out hU; rwa [E2.out] at this), rfl⟩
    · refine opS_same rfl rfl fun Lx ac w1 hJ hl hc ho hd => ?_
      have d2 : ac.eval (.tmp 43) = .string S1 := hd 2 _ _ rfl rfl rfl
      have d5 : ac.eval (.tmp 46) = .string S1 := hd 5 _ _ rfl rfl rfl
      exact ⟨_, x_bin .eql 9 9 (.tmp 43) (.tmp 46) rfl d2 d5 (grdS _ _ _ _ _) (run_eqS _ _), rfl⟩
    · refine opS_same rfl rfl fun Lx ac w1 hJ hl hc ho hd => ?_
      have d6 : ac.eval (.tmp 47) = .bool true := hd 6 _ _ rfl rfl rfl
      exact ⟨_, x_move (.tmp 47) rfl d6, rfl⟩
    · refine opS_sameG 7 true _ _ rfl rfl rfl rfl (fun _ _ h => h) rfl fun Lx ac w1 hJ hl hc ho hd => ?_
      have s6 : ac.eval (.tmp 6) = .slice (some ⟨ga, 0, none⟩) n2 c2 := ho 6 rfl
      exact ⟨_, x_move (.tmp 6) rfl s6, rfl⟩
    · refine opS_sameG 7 true _ _ rfl rfl rfl rfl (fun _ _ h => h) rfl fun Lx ac w1 hJ hl hc ho hd => ?_
      have d8 : ac.eval (.tmp 49) = .slice (some ⟨ga, 0, none⟩) n2 c2 := hd 8 _ _ rfl rfl rfl
      exact ⟨_, x_sliceL 26 _ (.const (.int .i64 16)) rfl d8 rfl (run_slL ga n2 c2 w1 (by omega) (by omega)), rfl⟩
    · refine opS_sameG 7 true _ _ rfl rfl rfl rfl (fun _ _ h => h) rfl fun Lx ac w1 hJ hl hc ho hd => ?_
      have d9 : ac.eval (.tmp 50) = .slice (some ⟨ga, 16, none⟩) (n2 - 16) (c2 - 16) := hd 9 _ _ rfl rfl rfl
      obtain ⟨_, _, hU⟩ := hJ
      exact ⟨_, x_conv 26 9 _ rfl d9 (by have := conv_up I3.out hU; rwa [E3.out] at this), rfl⟩
    · refine opS_sameG 7 true _ _ rfl rfl rfl rfl (fun _ _ h => h) rfl fun Lx ac w1 hJ hl hc ho hd => ?_
      have s8 : ac.eval (.tmp 8) = .slice (some ⟨gb, 0, none⟩) n3 c3 := ho 8 rfl
      exact ⟨_, x_move (.tmp 8) rfl s8, rfl⟩
    · refine opS_sameG 7 true _ _ rfl rfl rfl rfl (fun _ _ h => h) rfl fun Lx ac w1 hJ hl hc ho hd => ?_
      have d11 : ac.eval (.tmp 52) = .slice (some ⟨gb, 0, none⟩) n3 c3 := hd 11 _ _ rfl rfl rfl
      exact ⟨_, x_sliceL 26 _ (.const (.int .i64 16)) rfl d11 rfl (run_slL gb n3 c3 w1 (by omega) (by omega)), rfl⟩
    · refine opS_sameG 7 true _ _ rfl rfl rfl rfl (fun _ _ h => h) rfl fun Lx ac w1 hJ hl hc ho hd => ?_
      have d12 : ac.eval (.tmp 53) = .slice (some ⟨gb, 16, none⟩) (n3 - 16) (c3 - 16) := hd 12 _ _ rfl rfl rfl
      obtain ⟨_, _, hU⟩ := hJ
      exact ⟨_, x_conv 26 9 _ rfl d12 (by have := conv_up I4.out hU; rwa [E4.out] at this), rfl⟩
    · refine opS_sameG 7 true _ _ rfl rfl rfl rfl (fun _ _ h => h) rfl fun Lx ac w1 hJ hl hc ho hd => ?_
      have d10 : ac.eval (.tmp 51) = .string S2 := hd 10 _ _ rfl rfl rfl
      have d13 : ac.eval (.tmp 54) = .string S2 := hd 13 _ _ rfl rfl rfl
      exact ⟨_, x_bin .eql 9 9 (.tmp 51) (.tmp 54) rfl d10 d13 (grdS _ _ _ _ _) (run_eqS _ _), rfl⟩
    · refine opS_same rfl rfl fun Lx ac w1 hJ hl hc ho hd => ?_
      have d7 : ac.eval (.tmp 48) = .bool true := hd 7 _ _ rfl rfl rfl
      have d14 : ac.eval (.tmp 55) = .bool true := hd 14 _ _ rfl rfl rfl
      exact ⟨_, x_pick (.tmp 48) (.tmp 55) (.const (.bool false)) (b := true) (Y := .bool false) rfl d7 (fun _ => d14) (fun h => absurd h (by decide)), rfl⟩
    · refine opS_same rfl rfl fun Lx ac w1 hJ hl hc ho hd => ?_
      have d15 : ac.eval (.tmp 56) = .bool true := hd 15 _ _ rfl rfl rfl
      exact ⟨_, x_move (.tmp 56) rfl d15, rfl⟩
    · refine opS_sameG 16 true _ _ rfl rfl rfl rfl (fun _ _ h => h) rfl fun Lx ac w1 hJ hl hc ho hd => ?_
      have s8 : ac.eval (.tmp 8) = .slice (some ⟨gb, 0, none⟩) n3 c3 := ho 8 rfl
      exact ⟨_, x_move (.tmp 8) rfl s8, rfl⟩
    · refine opS_sameG 16 true _ _ rfl rfl rfl rfl (fun _ _ h => h) rfl fun Lx ac w1 hJ hl hc ho hd => ?_
      have d17 : ac.eval (.tmp 58) = .slice (some ⟨gb, 0, none⟩) n3 c3 := hd 17 _ _ rfl rfl rfl
      exact ⟨_, x_sliceM 26 _ (.const (.int .i64 12)) (.const (.int .i64 16)) rfl d17 rfl rfl (run_slM gb n3 c3 w1 (by omega)), rfl⟩
    · refine opS_sameG 16 true _ _ rfl rfl rfl rfl (fun _ _ h => h) rfl fun Lx ac w1 hJ hl hc ho hd => ?_
      have d18 : ac.eval (.tmp 59) = .slice (some ⟨gb, 12, none⟩) 4 (c3 - 12) := hd 18 _ _ rfl rfl rfl
      obtain ⟨_, _, hU⟩ := hJ
      exact ⟨_, x_conv 26 9 _ rfl d18 (by have := conv_up I5.out hU; rwa [E5.out] at this), rfl⟩
    · refine opS_sameG 16 true _ _ rfl rfl rfl rfl (fun _ _ h => h) rfl fun Lx ac w1 hJ hl hc ho hd => ?_
      have s1 : ac.eval (.tmp 1) = .int .u32 hop := ho 1 rfl
      exact ⟨_, x_move (.tmp 1) rfl s1, rfl⟩
    · refine opS_sameG 16 true _ _ rfl rfl rfl rfl (fun _ _ h => h) rfl fun Lx ac w1 hJ hl hc ho hd => ?_
      have d20 : ac.eval (.tmp 61) = .int .u32 hop := hd 20 _ _ rfl rfl rfl
      exact ⟨_, x_conv 22 52 (.tmp 61) rfl d20 (run_c2252 hop hh0 hh1 _), rfl⟩
    · refine opS_callUpG 16 true _ _ rfl rfl rfl rfl (fun _ _ h => h) rfl (fun k wx wy h hu => Up.trans h hu) (facts_keep HK) fun L ac w1 hJ hl hc ho hd => ?_
      have d21 : ac.eval (.tmp 62) = .int .u64 hop := hd 21 _ _ rfl rfl rfl
      refine ⟨28, _, x_fcall 28 [.const (.slice none 0 0), .tmp 62, .const (.int .i64 4)] _ rfl (by kernel_rfl), ?_⟩
      simp only [List.map_cons, List.map_nil, d21]
      refine (rput none 0 0 4 [] hop w1 (inB_nil _) (by omega) (by omega) (by omega)).mono fun e w2 ⟨A8, N8, c8, he, hN8, hO8, hu8⟩ => ⟨_, he, hu8, A8, N8, c8, rfl, ?_⟩
      exact own_inB hO8 (be_byt _ _)
    · refine opS_sameG 16 true _ _ rfl rfl rfl rfl (fun _ _ h => h) rfl fun Lx ac w1 hJ hl hc ho hd => ?_
      have d22 := hd 22 _ _ rfl rfl rfl
      obtain ⟨A8, N8, c8, e8, i8⟩ := hd 22 _ _ rfl rfl rfl
      have d22 : ac.eval (.tmp 63) = .slice A8 N8 c8 := e8
      exact ⟨_, x_conv 26 9 _ rfl d22 (by have := conv_up i8 (Up.refl w1); rwa [E6.out] at this), rfl⟩
    · refine opS_sameG 16 true _ _ rfl rfl rfl rfl (fun _ _ h => h) rfl fun Lx ac w1 hJ hl hc ho hd => ?_
      have d19 : ac.eval (.tmp 60) = .string S3 := hd 19 _ _ rfl rfl rfl
      have d23 : ac.eval (.tmp 64) = .string S3 := hd 23 _ _ rfl rfl rfl
      exact ⟨_, x_bin .eql 9 9 (.tmp 60) (.tmp 64) rfl d19 d23 (grdS _ _ _ _ _) (run_eqS _ _), rfl⟩
    · refine opS_same rfl rfl fun Lx ac w1 hJ hl hc ho hd => ?_
      have d16 : ac.eval (.tmp 57) = .bool true := hd 16 _ _ rfl rfl rfl
      have d24 : ac.eval (.tmp 65) = .bool true := hd 24 _ _ rfl rfl rfl
      exact ⟨_, x_pick (.tmp 57) (.tmp 65) (.const (.bool false)) (b := true) (Y := .bool false) rfl d16 (fun _ => d24) (fun h => absurd h (by decide)), rfl⟩
    · refine opS_same rfl rfl fun Lx ac w1 hJ hl hc ho hd => ?_
      have d25 : ac.eval (.tmp 66) = .bool true := hd 25 _ _ rfl rfl rfl
      exact ⟨_, x_assign (.tmp 66) rfl d25, rfl⟩
  · intro L1 a1 w9 hI hall
    obtain ⟨kq, hk, hUF⟩ := hI.done hall (by simp)
    have HUn := Lib.hid (show Up w7 w9 from hUF)
    clear hk hUF kq
    have l4 : a1.tmps.getD 4 undef = .bool true := hI.get hall (i := 26) rfl rfl
    have hde : a1.defers = [] := hI.defers
    have hal := act_lit a1 67 hI.size
    clear hI
    simp only [List.range, List.range.loop, List.map_cons, List.map_nil] at hal
    rw [l4, hde] at hal
    generalize a1.tmps.getD 0 undef = t0 at hal
    generalize a1.tmps.getD 1 undef = t1 at hal
    generalize a1.tmps.getD 2 undef = t2 at hal
    generalize a1.tmps.getD 3 undef = t3 at hal
    generalize a1.tmps.getD 5 undef = t5 at hal
    generalize a1.tmps.getD 6 undef = t6 at hal
    generalize a1.tmps.getD 7 undef = t7 at hal
    generalize a1.tmps.getD 8 undef = t8 at hal
    generalize a1.tmps.getD 9 undef = t9 at hal
    generalize a1.tmps.getD 10 undef = t10 at hal
    generalize a1.tmps.getD 11 undef = t11 at hal
    generalize a1.tmps.getD 12 undef = t12 at hal
    generalize a1.tmps.getD 13 undef = t13 at hal
    generalize a1.tmps.getD 14 undef = t14 at hal
    generalize a1.tmps.getD 15 undef = t15 at hal
    generalize a1.tmps.getD 16 undef = t16 at hal
    generalize a1.tmps.getD 17 undef = t17 at hal
    generalize a1.tmps.getD 18 undef = t18 at hal
    generalize a1.tmps.getD 19 undef = t19 at hal
    generalize a1.tmps.getD 20 undef = t20 at hal
    generalize a1.tmps.getD 21 undef = t21 at hal
    generalize a1.tmps.getD 22 undef = t22 at hal
    generalize a1.tmps.getD 23 undef = t23 at hal
    generalize a1.tmps.getD 24 undef = t24 at hal
    generalize a1.tmps.getD 25 undef = t25 at hal
    generalize a1.tmps.getD 26 undef = t26 at hal
    generalize a1.tmps.getD 27 undef = t27 at hal
    generalize a1.tmps.getD 28 undef = t28 at hal
    generalize a1.tmps.getD 29 undef = t29 at hal
    generalize a1.tmps.getD 30 undef = t30 at hal
    generalize a1.tmps.getD 31 undef = t31 at hal
    generalize a1.tmps.getD 32 undef = t32 at hal
    generalize a1.tmps.getD 33 undef = t33 at hal
    generalize a1.tmps.getD 34 undef = t34 at hal
    generalize a1.tmps.getD 35 undef = t35 at hal
    generalize a1.tmps.getD 36 undef = t36 at hal
    generalize a1.tmps.getD 37 undef = t37 at hal
    generalize a1.tmps.getD 38 undef = t38 at hal
    generalize a1.tmps.getD 39 undef = t39 at hal
    generalize a1.tmps.getD 40 undef = t40 at hal
    generalize a1.tmps.getD 41 undef = t41 at hal
    generalize a1.tmps.getD 42 undef = t42 at hal
    generalize a1.tmps.getD 43 undef = t43 at hal
    generalize a1.tmps.getD 44 undef = t44 at hal
    generalize a1.tmps.getD 45 undef = t45 at hal
    generalize a1.tmps.getD 46 undef = t46 at hal
    generalize a1.tmps.getD 47 undef = t47 at hal
    generalize a1.tmps.getD 48 undef = t48 at hal
    generalize a1.tmps.getD 49 undef = t49 at hal
    generalize a1.tmps.getD 50 undef = t50 at hal
    generalize a1.tmps.getD 51 undef = t51 at hal
    generalize a1.tmps.getD 52 undef = t52 at hal
    generalize a1.tmps.getD 53 undef = t53 at hal
    generalize a1.tmps.getD 54 undef = t54 at hal
    generalize a1.tmps.getD 55 undef = t55 at hal
    generalize a1.tmps.getD 56 undef = t56 at hal
    generalize a1.tmps.getD 57 undef = t57 at hal
    generalize a1.tmps.getD 58 undef = t58 at hal
    generalize a1.tmps.getD 59 undef = t59 at hal
    generalize a1.tmps.getD 60 undef = t60 at hal
    generalize a1.tmps.getD 61 undef = t61 at hal
    generalize a1.tmps.getD 62 undef = t62 at hal
    generalize a1.tmps.getD 63 undef = t63 at hal
    generalize a1.tmps.getD 64 undef = t64 at hal
    generalize a1.tmps.getD 65 undef = t65 at hal
    generalize a1.tmps.getD 66 undef = t66 at hal
    clear l4 hde
    subst hal
    go_wp2_with fail
    go_ret
    exact ⟨rfl, Lib.hid (U7.out.trans HUn.out)⟩
end Go.Proofs.Ythncpkjnalmpkaa
