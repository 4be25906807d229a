import Derived.Test.YtccilbgbjikmpaaTsQ
import Derived.Test.YtccilbgbjikmpaaStaged
namespace Go.Proofs.Ytccilbgbjikmpaa
open Go Go.RowKit
set_option linter.unusedVariables false
set_option linter.unusedSimpArgs false
/-! Tell. -/
theorem set4 {w : World} {q : Nat} {cs : Array Value} {a b c d : Value} {T : TypeId} (h : w.heap[q]? = some (.cells cs T (0, 0))) (hs : cs.size = 4) :
    ((((w.setCell ⟨q, 0, none⟩ a).setCell ⟨q, 1, none⟩ b).setCell ⟨q, 2, none⟩ c).setCell ⟨q, 3, none⟩ d).heap[q]? = some (.cells #[a, b, c, d] T (0, 0)) ∧
    Out (fun k => k = q) w ((((w.setCell ⟨q, 0, none⟩ a).setCell ⟨q, 1, none⟩ b).setCell ⟨q, 2, none⟩ c).setCell ⟨q, 3, none⟩ d) := by
  refine ⟨?_, (((setCell_out _ _ _ _).trans (setCell_out _ _ _ _) (Sub.refl _ _)).trans (setCell_out _ _ _ _) (Sub.refl _ _)).trans (setCell_out _ _ _ _) (Sub.refl _ _)⟩
  rw [setCell_at _ (setCell_at _ (setCell_at _ (setCell_at _ h)))]
  obtain ⟨l⟩ := cs
  match l, hs with
  | [u, v, x, y], _ => rfl
theorem siz35 (w : World) : (Go.sizeOf 35).run Try.prog w = .ok 4 w := by kernel_rfl
theorem agg22 (w : World) : (isAgg 22).run Try.prog w = .ok false w := by kernel_rfl
theorem agg24 (w : World) : (isAgg 24).run Try.prog w = .ok false w := by kernel_rfl
theorem fld500 (pb : Nat) (w : World) : (Instr.fieldAt 50 (.pointer (some ⟨pb, 0, none⟩)) 0).run Try.prog w = .ok (.pointer (some ⟨pb, 0, none⟩)) w := by kernel_rfl
theorem fld502 (pb : Nat) (w : World) : (Instr.fieldAt 50 (.pointer (some ⟨pb, 0, none⟩)) 2).run Try.prog w = .ok (.pointer (some ⟨pb, 2, none⟩)) w := by kernel_rfl
theorem build35 (x y : Int) (A B : Option Addr) (n m c e : Nat) (w : World) : (Instr.build 35 #[(0, .int .u32 x), (1, .int .u32 y), (2, .slice A n c), (3, .slice B m e)]).run Try.prog w = .ok (.agg #[.int .u32 x, .int .u32 y, .slice A n c, .slice B m e]) w := by kernel_rfl
theorem zero35 (w : World) : (zeroValue 35).run Try.prog w = .ok (.agg #[.int .u32 0, .int .u32 0, .slice none 0 0, .slice none 0 0]) w := by kernel_rfl
theorem run_alloc35 (w : World) : (Instr.alloc 35 true (.tuple #[])).run Try.prog w = .ok (.pointer (some ⟨w.heap.size, 0, none⟩)) (w.alloc (.cells #[.int .u32 0, .int .u32 0, .slice none 0 0, .slice none 0 0] 35)) := by kernel_rfl
theorem x_alloc35 {o : Oper} {a : Act} {w : World} (ho : o.op = .alloc 35) : (execOp a.eval o).run Try.prog w = .ok (.value (.pointer (some ⟨w.heap.size, 0, none⟩))) (w.alloc (.cells #[.int .u32 0, .int .u32 0, .slice none 0 0, .slice none 0 0] 35)) := by
  simp [execOp, ho, run_alloc35, Result.andThen]
/-- A store of four cells. -/
theorem run_store4 {w : World} {b : Nat} {cs : Array Value} {x0 x1 x2 x3 : Value} (hb : w.heap[b]? = some (.cells cs 35 (0, 0))) (hs : cs.size = 4) (h0 : x0.oneCell' = true) (h1 : x1.oneCell' = true) (h2 : x2.oneCell' = true) (h3 : x3.oneCell' = true) (hc : (Value.agg #[x0, x1, x2, x3]).cells = #[x0, x1, x2, x3]) :
    (Instr.storeAt 35 (.pointer (some ⟨b, 0, none⟩)) (.agg #[x0, x1, x2, x3])).run Try.prog w = .ok () ((((w.setCell ⟨b, 0, none⟩ x0).setCell ⟨b, 1, none⟩ x1).setCell ⟨b, 2, none⟩ x2).setCell ⟨b, 3, none⟩ x3) := by
  have := run_storeCells_cells (P := Try.prog) b 0 [x0, x1, x2, x3] 0 w (fun k hk => by
    have : k < 4 := by simpa using hk
    exact cell_at hb (by omega)) (fun k hk => frozen_at hb) (by simp [h0, h1, h2, h3])
  simp [Instr.storeAt, Instr.sureAddr, storeVar, siz35, hc, Result.andThen]
  simpa [World.setCells] using this
theorem results_row1 {P : Program} {fn : Func} {p : Tmp} {ty : TypeId} (h : fn.results = #[.cell p ty]) (tmps : Array Value) (w : World) (g : Nat) (t : TypeId) (cs : Array Value) (fr : Nat × Nat) (d : TypeDesc)
    (hp : tmps.getD p undef = .pointer (some ⟨g, 0, none⟩)) (hg : w.heap[g]? = some (.cells cs t fr))
    (hu : P.underlying ty = some d) (hd : (match d with | .struct _ | .array _ _ => true | _ => false) = true) (hi : (P.info? ty).map (·.size) = some cs.size) :
    (results fn tmps).run P w = .ok (.agg cs) w := by
  have hp' : tmps[p]?.getD undef = .pointer (some ⟨g, 0, none⟩) := by simpa using hp
  simp [results, h, hp', asAddr, run_loadVar_row w g t ty cs fr d hg hu hd hi, Result.andThen]
set_option maxRecDepth 100000 in
set_option maxHeartbeats 2000000 in
theorem tell_nil (win : Int) (w : World) : Calls Try.prog 12 #[.pointer none, .int .u32 win] w fun e w' => e = .returned (heV Ck.zeroD (.slice none 0 0) (.slice none 0 0)) ∧ Up w w' := by
  have hq := new_at w (.cells #[.int .u32 0, .int .u32 0, .slice none 0 0, .slice none 0 0] 35)
  have HU := Lib.hid (up_alloc w (.cells #[.int .u32 0, .int .u32 0, .slice none 0 0, .slice none 0 0] 35))
  have HQ := Lib.hid hq
  have e0 := cell_of hq (j := 0) rfl
  have f0 := frozen_at (j := 0) hq
  have e1 := cell_of hq (j := 1) rfl
  have f1 := frozen_at (j := 1) hq
  have e2 := cell_of hq (j := 2) rfl
  have f2 := frozen_at (j := 2) hq
  have e3 := cell_of hq (j := 3) rfl
  have f3 := frozen_at (j := 3) hq
  clear hq
  go_enter Try.func12, Try.ntmps12
  go_wp2_with fail
  exact bodyPost_ret (results_row1 (fn := Try.f12) (p := 4) (ty := 35) rfl _ _ w.heap.size 35 _ (0, 0) _ rfl HQ.out Try.underlying35 rfl rfl) rfl ⟨rfl, HU.out⟩
theorem x_build {P : Program} {o : Oper} {a : Act} {w : World} (t : TypeId) (ps : Array (Nat × Operand)) {v : Value} (ho : o.op = .build t ps) (hr : (Instr.build t (ps.map fun (i, x) => (i, a.eval x))).run P w = .ok v w) : (execOp a.eval o).run P w = .ok (.value v) w :=
  by simp [execOp, ho, hr, Result.andThen]
/-- A row of stretches, of the call's own. -/
def GpV (C : Nat) (A : List Nat) (base : Nat) : Value → World → Prop := fun v w => ∃ (L : List Nat) (G : List (Int × Int)) (n : Nat) (B : Option Addr) (c : Nat), v = .slice B n c ∧ n = G.length ∧ Ts.Good G (L.map (dI C)) ∧ (L.Perm A ∧ L.Pairwise (· < ·)) ∧ w.ownsRow base 43 2 (.slice B n c) n (gapc G)
theorem keeps_gpV (C : Nat) (A : List Nat) (base : Nat) : Keeps (GpV C A base) := fun v w w' ⟨L, G, n, B, c, h1, h2, h3, h4, h5⟩ hu => ⟨L, G, n, B, c, h1, h2, h3, h4, own_up h5 hu⟩
def AggV (C : Nat) (A : List Nat) (base : Nat) (x y : Int) (u : Value) : Value → World → Prop := fun v w => ∃ z, v = .agg #[.int .u32 x, .int .u32 y, z, u] ∧ GpV C A base z w
theorem keeps_aggV (C : Nat) (A : List Nat) (base : Nat) (x y : Int) (u : Value) : Keeps (AggV C A base x y u) := fun v w w' ⟨z, h1, h2⟩ hu => ⟨z, h1, keeps_gpV C A base z w w' h2 hu⟩
def New35 (base : Nat) : Value → World → Prop := fun v w => ∃ b, v = .pointer (some ⟨b, 0, none⟩) ∧ base ≤ b ∧ w.heap[b]? = some (.cells #[.int .u32 0, .int .u32 0, .slice none 0 0, .slice none 0 0] 35 (0, 0))
theorem keeps_new35 (base : Nat) : Keeps (New35 base) := fun v w w' ⟨b, h1, h2, h3⟩ hu => ⟨b, h1, h2, (hu.block b (lt_of_blk h3)).trans h3⟩
/-- What Tell answers, and the track behind it. -/
def TellPost (C : Nat) (A : List Nat) (d : List Int) (win : Int) (pb : Nat) (mo : Option Nat) (D : Option Addr) (c : Nat) (w : World) (e : Ending) (w' : World) : Prop :=
  ∃ (L : List Nat) (G : List (Int × Int)) (n m : Nat) (B : Option Addr) (cB : Nat), e = .returned (heV ⟨key C, win, G, d⟩ (.slice B n cB) (.slice D m c)) ∧ n = G.length ∧ m = d.length ∧ Ts.Good G (L.map (dI C)) ∧ (L.Perm A ∧ L.Pairwise (· < ·)) ∧
    w'.ownsRow w.heap.size 43 2 (.slice B n cB) n (gapc G) ∧ OwnI .u32 22 0 w' D m c d ∧ TAt w' pb mo none 0 C A [] ∧ Out (fun k => k = pb) w w'
set_option maxRecDepth 100000 in
set_option maxHeartbeats 2000000 in
theorem tell_any (pb : Nat) (mo : Option Nat) (D : Option Addr) (c C : Nat) (A : List Nat) (d : List Int) (win : Int) (w : World) (h : TAt w pb mo D c C A d) (hA : Ts.Ok C A) (h64 : A.length ≤ 64) :
    Calls Try.prog 12 #[.pointer (some ⟨pb, 0, none⟩), .int .u32 win] w (TellPost C A d win pb mo D c w) := by
  obtain ⟨W, hW⟩ : ∃ W, W = w.alloc (.cells #[.int .u32 0, .int .u32 0, .slice none 0 0, .slice none 0 0] 35) := ⟨_, rfl⟩
  have hu0 := up_alloc w (.cells #[.int .u32 0, .int .u32 0, .slice none 0 0, .slice none 0 0] 35)
  have hq0 := new_at w (.cells #[.int .u32 0, .int .u32 0, .slice none 0 0, .slice none 0 0] 35)
  rw [← hW] at hu0 hq0
  have hT := h.up hu0
  have hpb := lt_of_blk h.top
  have HW := Lib.hid hW
  have HU0 := Lib.hid hu0
  have HQ0 := Lib.hid hq0
  have HT := Lib.hid hT
  obtain ⟨q0, hq⟩ : ∃ q0, q0 = w.heap.size := ⟨_, rfl⟩
  have HQ := Lib.hid hq
  obtain ⟨m, hm⟩ : ∃ m, m = d.length := ⟨_, rfl⟩
  have HM := Lib.hid hm
  obtain ⟨kc, hkc⟩ : ∃ kc, kc = key C := ⟨_, rfl⟩
  have HKC := Lib.hid hkc
  have c0 : ∀ w1, Up W w1 → w1.cell? ⟨pb, 0, none⟩ = some (.int .u32 kc) := fun w1 hu => by rw [hkc]; exact cell_up hT.cells.1 hu
  have c2 : ∀ w1, Up W w1 → w1.cell? ⟨pb, 2, none⟩ = some (.slice D m c) := fun w1 hu => by rw [hm]; exact cell_up hT.cells.2.2.1 hu
  have hgp : ∀ w1, Up W w1 → Calls Try.prog 22 #[.pointer (some ⟨pb, 0, none⟩)] w1 fun e w' => ∃ v, e = .returned v ∧ Up w1 w' ∧ GpV C A W.heap.size v w' := fun w1 hu =>
    (gaps_any pb mo D c C A d w1 (hT.up hu) hA h64).mono fun e w' ⟨L, G, n, B, cB, h1, h2, h3, h4, h5, h6⟩ => ⟨_, h1, h6, L, G, n, B, cB, rfl, h2, h3, h4, own_base h5 hu.size⟩
  have HC0 := Lib.hid c0
  have HC2 := Lib.hid c2
  have HGP := Lib.hid hgp
  clear h hA h64 hW hu0 hq0 hT hm hkc c0 c2 hgp
  go_enter Try.func12, Try.ntmps12
  go_upto_region 3 with (fail)
  rw [← HW.out]
  rw [← HQ.out]
  clear hq
  have HK : ∀ φ ∈ [Is (.pointer (some ⟨pb, 0, none⟩)), Is (.pointer (some ⟨pb, 0, none⟩)), Is (.pointer (some ⟨pb, 0, none⟩)), Is (.int .u32 kc), Is (.int .u32 win), Is (.pointer (some ⟨pb, 0, none⟩)), GpV C A W.heap.size, Is (.pointer (some ⟨pb, 0, none⟩)), Is (.pointer (some ⟨pb, 0, none⟩)), Is (.pointer (some ⟨pb, 2, none⟩)), Is (.slice D m c), AggV C A W.heap.size kc win (.slice D m c), New35 W.heap.size], Keeps φ := by
    simp [keeps_is, keeps_gpV, keeps_aggV, keeps_new35]
  refine staged_last (l := [_, _, _, _, _, _, _, _, _, _, _, _, _]) (by kernel_rfl) (facts [Is (.pointer (some ⟨pb, 0, none⟩)), Is (.pointer (some ⟨pb, 0, none⟩)), Is (.pointer (some ⟨pb, 0, none⟩)), Is (.int .u32 kc), Is (.int .u32 win), Is (.pointer (some ⟨pb, 0, none⟩)), GpV C A W.heap.size, Is (.pointer (some ⟨pb, 0, none⟩)), Is (.pointer (some ⟨pb, 0, none⟩)), Is (.pointer (some ⟨pb, 2, none⟩)), Is (.slice D m c), AggV C A W.heap.size kc win (.slice D m c), New35 W.heap.size]) (Stg [] (fun _ w1 => Up W w1)) 25 rfl (by decide +kernel) (by decide +kernel) (by decide +kernel) rfl (Stg.start (Up.drew W)) ?_ ?_
  · refine ⟨?_, ?_, ?_, ?_, ?_, ?_, ?_, ?_, ?_, ?_, ?_, ?_, ?_, trivial⟩
    · refine opS_same rfl rfl fun L ac w1 hJ hl hc ho hd => ?_
      have s0 : ac.eval (.tmp 0) = .pointer (some ⟨pb, 0, none⟩) := ho 0 rfl
      exact ⟨_, x_move (.tmp 0) rfl s0, rfl⟩
    · refine opS_same rfl rfl fun L ac w1 hJ hl hc ho hd => ?_
      have d0 : ac.eval (.tmp 9) = .pointer (some ⟨pb, 0, none⟩) := hd 0 _ _ rfl rfl rfl
      exact ⟨_, x_nil (.tmp 9) rfl d0, rfl⟩
    · refine opS_same rfl rfl fun L ac w1 hJ hl hc ho hd => ?_
      have d1 : ac.eval (.tmp 10) = .pointer (some ⟨pb, 0, none⟩) := hd 1 _ _ rfl rfl rfl
      exact ⟨_, x_field 50 (.tmp 10) 0 rfl d1 (fld500 _ _), rfl⟩
    · refine opS_same rfl rfl fun L ac w1 hJ hl hc ho hd => ?_
      have d2 : ac.eval (.tmp 11) = .pointer (some ⟨pb, 0, none⟩) := hd 2 _ _ rfl rfl rfl
      obtain ⟨_, _, hW⟩ := hJ
      exact ⟨_, x_load 22 (.tmp 11) rfl d2 (run_load1 agg22 (HC0.out w1 hW)), rfl⟩
    · refine opS_same rfl rfl fun L ac w1 hJ hl hc ho hd => ?_
      have s1 : ac.eval (.tmp 1) = .int .u32 win := ho 1 rfl
      exact ⟨_, x_move (.tmp 1) rfl s1, rfl⟩
    · refine opS_same rfl rfl fun L ac w1 hJ hl hc ho hd => ?_
      have s0 : ac.eval (.tmp 0) = .pointer (some ⟨pb, 0, none⟩) := ho 0 rfl
      exact ⟨_, x_move (.tmp 0) rfl s0, rfl⟩
    · refine opS_callUp rfl rfl (fun k w1 w2 h hu => Below.trans h (hu.mono h.size)) (facts_keep HK) fun L ac w1 hJ hl hc ho hd => ?_
      have d5 : ac.eval (.tmp 14) = .pointer (some ⟨pb, 0, none⟩) := hd 5 _ _ rfl rfl rfl
      obtain ⟨_, _, hW⟩ := hJ
      exact ⟨22, _, x_fcall 22 [.tmp 14] _ rfl (by kernel_rfl), by simp only [List.map_cons, List.map_nil, d5]; exact HGP.out w1 hW⟩
    · refine opS_same rfl rfl fun L ac w1 hJ hl hc ho hd => ?_
      have s0 : ac.eval (.tmp 0) = .pointer (some ⟨pb, 0, none⟩) := ho 0 rfl
      exact ⟨_, x_move (.tmp 0) rfl s0, rfl⟩
    · refine opS_same rfl rfl fun L ac w1 hJ hl hc ho hd => ?_
      have d7 : ac.eval (.tmp 16) = .pointer (some ⟨pb, 0, none⟩) := hd 7 _ _ rfl rfl rfl
      exact ⟨_, x_nil (.tmp 16) rfl d7, rfl⟩
    · refine opS_same rfl rfl fun L ac w1 hJ hl hc ho hd => ?_
      have d8 : ac.eval (.tmp 17) = .pointer (some ⟨pb, 0, none⟩) := hd 8 _ _ rfl rfl rfl
      exact ⟨_, x_field 50 (.tmp 17) 2 rfl d8 (fld502 _ _), rfl⟩
    · refine opS_same rfl rfl fun L ac w1 hJ hl hc ho hd => ?_
      have d9 : ac.eval (.tmp 18) = .pointer (some ⟨pb, 2, none⟩) := hd 9 _ _ rfl rfl rfl
      obtain ⟨_, _, hW⟩ := hJ
      exact ⟨_, x_load 24 (.tmp 18) rfl d9 (run_load1 agg24 (HC2.out w1 hW)), rfl⟩
    · refine opS_same rfl rfl fun L ac w1 hJ hl hc ho hd => ?_
      have d3 : ac.eval (.tmp 12) = .int .u32 kc := hd 3 _ _ rfl rfl rfl
      have d4 : ac.eval (.tmp 13) = .int .u32 win := hd 4 _ _ rfl rfl rfl
      have d6 := hd 6 _ _ rfl rfl rfl
      have d10 : ac.eval (.tmp 19) = .slice D m c := hd 10 _ _ rfl rfl rfl
      obtain ⟨L1, G, n, B, cB, h1, h2⟩ := d6
      have d6 : ac.eval (.tmp 15) = .slice B n cB := h1
      exact ⟨_, x_build 35 _ rfl (by simp only [List.map_toArray, List.map_cons, List.map_nil, d3, d4, d6, d10]; exact build35 _ _ _ _ _ _ _ _ w1), _, rfl, L1, G, n, B, cB, rfl, h2⟩
    · refine opS_grow rfl rfl (fun k w1 w2 h hu => Below.trans h (hu.mono h.size)) (facts_keep HK) fun L ac w1 hJ hl hc ho hd => ?_
      obtain ⟨_, _, hW⟩ := hJ
      exact fine_run _ _ (x_alloc35 rfl) (up_alloc _ _) ⟨w1.heap.size, rfl, hW.size, new_at _ _⟩
  · intro L a1 w2 hI hall
    obtain ⟨_, _, hW2⟩ := hI.world
    have g20 := hI.facts 11 _ 20 rfl (hall 11 (by decide)) rfl
    have g5 := hI.facts 12 _ 5 rfl (hall 12 (by decide)) rfl
    obtain ⟨z, l20, L1, G, n, B, cB, hz, hn, hG, hL, hrow⟩ := g20
    subst hz
    obtain ⟨b, l5, hbW, hb⟩ := g5
    have l0 : a1.tmps.getD 0 undef = Value.pointer (some ⟨pb, 0, none⟩) := hI.old 0 rfl
    have l1 : a1.tmps.getD 1 undef = Value.int .u32 win := hI.old 1 rfl
    have l2 : a1.tmps.getD 2 undef = undef := hI.old 2 rfl
    have l3 : a1.tmps.getD 3 undef = undef := hI.old 3 rfl
    have l4 : a1.tmps.getD 4 undef = Value.pointer (some ⟨q0, 0, none⟩) := hI.old 4 rfl
    have l6 : a1.tmps.getD 6 undef = Value.pointer (some ⟨pb, 0, none⟩) := hI.old 6 rfl
    have l7 : a1.tmps.getD 7 undef = Value.bool false := hI.old 7 rfl
    have l8 : a1.tmps.getD 8 undef = undef := hI.old 8 rfl
    have l21 : a1.tmps.getD 21 undef = undef := hI.old 21 rfl
    have l22 : a1.tmps.getD 22 undef = undef := hI.old 22 rfl
    have l23 : a1.tmps.getD 23 undef = undef := hI.old 23 rfl
    have l24 : a1.tmps.getD 24 undef = undef := hI.old 24 rfl
    have hde : a1.defers = [] := hI.defers
    have hal := act_lit a1 25 hI.size
    clear hI
    simp only [List.range, List.range.loop, List.map_cons, List.map_nil] at hal
    rw [l0, l1, l2, l3, l4, l6, l7, l8, l21, l22, l23, l24, hde, l5, l20] at hal
    generalize a1.tmps.getD 9 undef = t9 at hal
    generalize a1.tmps.getD 10 undef = t10 at hal
    generalize a1.tmps.getD 11 undef = t11 at hal
    generalize a1.tmps.getD 12 undef = t12 at hal
    generalize a1.tmps.getD 13 undef = t13 at hal
    generalize a1.tmps.getD 14 undef = t14 at hal
    generalize a1.tmps.getD 15 undef = t15 at hal
    generalize a1.tmps.getD 16 undef = t16 at hal
    generalize a1.tmps.getD 17 undef = t17 at hal
    generalize a1.tmps.getD 18 undef = t18 at hal
    generalize a1.tmps.getD 19 undef = t19 at hal
    have hst := run_store4 (x0 := .int .u32 kc) (x1 := .int .u32 win) (x2 := .slice B n cB) (x3 := .slice D m c) hb rfl rfl rfl rfl rfl rfl
    have hs := set4 (a := .int .u32 kc) (b := .int .u32 win) (c := .slice B n cB) (d := .slice D m c) hb rfl
    generalize ((((w2.setCell ⟨b, 0, none⟩ (.int .u32 kc)).setCell ⟨b, 1, none⟩ (.int .u32 win)).setCell ⟨b, 2, none⟩ (.slice B n cB)).setCell ⟨b, 3, none⟩ (.slice D m c)) = w3 at hst hs
    obtain ⟨hb3, ho3⟩ := hs
    unfold Oper.wp
    rw [x_store 35 (.tmp 5) (.tmp 20) rfl l5 l20 hst]
    clear hst hall
    clear l0 l1 l2 l3 l4 l6 l7 l8 l21 l22 l23 l24 hde l5 l20
    subst hal
    show Exit.then _ (bodyPost Try.prog Try.f12 (TellPost C A d win pb mo D c w)) Exit.normal ({ tmps := #[.pointer (some ⟨pb, 0, none⟩), .int .u32 win, undef, undef, .pointer (some ⟨q0, 0, none⟩), .pointer (some ⟨b, 0, none⟩), .pointer (some ⟨pb, 0, none⟩), .bool false, undef, t9, t10, t11, t12, t13, t14, t15, t16, t17, t18, t19, .agg #[.int .u32 kc, .int .u32 win, .slice B n cB, .slice D m c], undef, undef, undef, undef], defers := [] } : Act) w3
    have hbne : b ≠ pb := fun e => by rw [e] at hbW; have := HU0.out.size; omega
    have hWq : W.heap.size = q0 + 1 := by rw [HW.out, HQ.out]; simp
    have hT2 := (HT.out.up hW2).keep (w' := w3) (fun k hk => ho3.block k (Nat.lt_of_lt_of_le (HT.out.lt k hk) hW2.size) (fun e => by have := HT.out.lt k hk; omega))
    have hx := hT2.top
    have x2 := hT2.cells.2.2.1
    have f2 := hT2.cells.2.2.2 2
    rw [← HM.out] at x2
    have y0 := cell_of hb3 (j := 0) rfl
    have y1 := cell_of hb3 (j := 1) rfl
    have y2 := cell_of hb3 (j := 2) rfl
    have y3 := cell_of hb3 (j := 3) rfl
    have hq3 : w3.heap[q0]? = some (.cells #[.int .u32 0, .int .u32 0, .slice none 0 0, .slice none 0 0] 35 (0, 0)) := by
      have h0 : W.heap[q0]? = some (.cells #[.int .u32 0, .int .u32 0, .slice none 0 0, .slice none 0 0] 35 (0, 0)) := by rw [HQ.out]; exact HQ0.out
      exact ho3.blk ((hW2.block _ (lt_of_blk h0)).trans h0) (by omega)
    have e0 := cell_of hq3 (j := 0) rfl
    have g0 := frozen_at (j := 0) hq3
    have e1 := cell_of hq3 (j := 1) rfl
    have g1 := frozen_at (j := 1) hq3
    have e2 := cell_of hq3 (j := 2) rfl
    have g2 := frozen_at (j := 2) hq3
    have e3 := cell_of hq3 (j := 3) rfl
    have g3 := frozen_at (j := 3) hq3
    have HX1 := Lib.hid hT2
    have HX2 := Lib.hid hb3
    have HX3 := Lib.hid hq3
    have HX4 := Lib.hid ho3
    have HX5 := Lib.hid hW2
    have HX6 := Lib.hid hn
    have HX7 := Lib.hid hG
    have HX8 := Lib.hid hL
    have HX9 := Lib.hid hrow
    have HXA := Lib.hid hb
    have HXB := Lib.hid hWq
    have hqb : q0 ≠ b := by omega
    have hqp : q0 ≠ pb := by have := HQ.out; omega
    clear hT2 hb3 hq3 ho3 hW2 hn hG hL hrow hb hWq hx HK
    go_wp2_with fail
    obtain ⟨p1, p2⟩ := TAt.put (mo' := mo) (D' := none) (c' := 0) (C' := C) (A' := A) (d' := []) HX1.out.top 2 (.slice none 0 0) rfl HX1.out.map (ownI_nil _ _ _ _) (by simp) (fun y hy => absurd hy (by simp)) (fun q hq e => by subst hq; exact HX1.out.not_map.1 e.symm) (by simp [blk?])
    obtain ⟨w4, hw4⟩ : ∃ w4, w3.setCell ⟨pb, 2, none⟩ (.slice none 0 0) = w4 := ⟨_, rfl⟩
    rw [hw4] at p1 p2 ⊢
    have hq4 := p2.blk HX3.out hqp
    have hs := set4 (a := .int .u32 kc) (b := .int .u32 win) (c := .slice B n cB) (d := .slice D m c) hq4 rfl
    obtain ⟨w5, hw5⟩ : ∃ w5, (((w4.setCell ⟨q0, 0, none⟩ (.int .u32 kc)).setCell ⟨q0, 1, none⟩ (.int .u32 win)).setCell ⟨q0, 2, none⟩ (.slice B n cB)).setCell ⟨q0, 3, none⟩ (.slice D m c) = w5 := ⟨_, rfl⟩
    rw [hw5] at hs ⊢
    obtain ⟨hs1, hs2⟩ := hs
    have o1 : Up w w3 := (HU0.out.trans HX5.out).out_ HX4.out (fun k hk => by rw [hk]; have := HU0.out.size; omega)
    have o5 : Out (fun k => k = pb) w w5 := ((o1.out _).trans p2 (Sub.refl _ _)).trans hs2 (fun k hk => .inr (by rw [hk, HQ.out]; exact Nat.le_refl _))
    have hrowB : w5.ownsRow W.heap.size 43 2 (.slice B n cB) n (gapc G) := own_blk HX9.out fun g hg => by
      rw [ownBlock_slice] at hg
      have h1 := row_lt HX9.out hg
      have h2 := HXB.out
      have h3 := HQ.out
      have hgb : g ≠ b := by
        rcases HX9.out.2 with ⟨h4, _⟩ | ⟨g', cap, cur, hv, _, hh, _⟩
        · injection h4 with h4; rw [h4] at hg; cases hg
        · injection hv with hv; rw [hv] at hg; simp at hg
          intro e
          rw [hg, e, HXA.out] at hh
          injection hh with hh; injection hh with _ hh; cases hh
      rw [hs2.block g (Nat.lt_of_lt_of_le h1.2 (Nat.le_trans HX4.out.size p2.size)) (by omega), p2.block g (Nat.lt_of_lt_of_le h1.2 HX4.out.size) (by omega), HX4.out.block g h1.2 hgb]
    have hrowD : OwnI .u32 22 0 w5 D m c d := by
      have h0 := HX1.out.row
      rw [← HM.out] at h0
      refine own_blk h0 fun g hg => ?_
      rw [ownBlock_slice] at hg
      have h1 := row_lt h0 hg
      have hgq : g ≠ q0 := fun e => by
        obtain ⟨cs, hcs⟩ := blk_own h0 hg
        rw [e, HX3.out] at hcs
        injection hcs with hcs; injection hcs with _ hcs; cases hcs
      have hgp : g ≠ pb := fun e => HX1.out.not_row (by rw [← e]; exact hg)
      rw [hs2.block g (Nat.lt_of_lt_of_le h1.2 p2.size) hgq, p2.block g h1.2 hgp]
    have hT5 : TAt w5 pb mo none 0 C A [] := p1.keep fun k hk => hs2.block k (p1.lt k hk) (fun e => by
      rcases hk with hk | hk | hk
      · omega
      · subst hk
        obtain ⟨E, ⟨clk, h1, _⟩, _⟩ := p1.map
        rw [e, hq4] at h1; cases h1
      · cases hk)
    refine bodyPost_ret (results_row1 (fn := Try.f12) (p := 4) (ty := 35) rfl _ _ q0 35 _ (0, 0) _ rfl hs1 Try.underlying35 rfl rfl) rfl ?_
    exact ⟨L1, G, n, m, B, cB, by rw [HKC.out]; rfl, HX6.out, HM.out, HX7.out, HX8.out, own_base hrowB (by have := HU0.out.size; omega), hrowD, hT5, o5⟩
end Go.Proofs.Ytccilbgbjikmpaa
