import Derived.Test.YtghldkjbmfbdfaaDoorDc4
namespace Go.Proofs.YtghldkjbmfbdfaaDoor
open Go Go.RowKit Dc
set_option linter.unusedVariables false
set_option linter.unusedSimpArgs false
/-! What a list misses; a copy of bytes; a row of one attribute. -/
theorem clone_some (A : Addr) (m c : Nat) (xs : List Int) (w : World) (h : InB w (some A) m c xs) (hm : m ≤ 140737488351232) :
    Calls Tryd.prog 30 #[.slice (some A) m c] w fun e w' => ∃ A' c', e = .returned (.slice A' m c') ∧ Hid (OwnI .u8 5 w.heap.size w' A' m c' xs) ∧ Hid (Up w w') := by
  have qT : ∀ (w : World) (a : Option Addr) (n c n' c' : Nat), (binOp .eql 22 (.slice a n c) (.slice none n' c')).run Tryd.prog w = .ok (.bool a.isNone) w := fun w a n c n' c' => Lib.run_eql_slice_nil w _ _ a n c n' c' Tryd.underlying22
  have H := Lib.hid h
  clear h
  go_enter Tryd.func30, Tryd.ntmps30
  go_wp2_with (at_builtin; refine wpList_appendI rfl (.tmp 5) (.tmp 6) 22 rfl .u8 w.heap.size 5 1 Tryd.underlying22 (by kernel_rfl) (some ⟨w.heap.size, 0, none⟩) 0 0 [] rfl (ownI_new _ _ _) (some A) m c xs rfl H.out.len (H.out.cells.alloc _) (by omega) (by omega) (by simp) ((Below.refl _ _).alloc (Nat.le_refl _) _) ?_; intro A6 N6 c6 w6 HN6 HW6 HB6 hsz6)
  have hN : N6 = m := by have := HN6.out; omega
  subst hN
  go_ret
  exact ⟨A6, c6, rfl, Lib.hid (by have := HW6.out; rw [List.nil_append] at this; exact this), Lib.hid HB6.out⟩
theorem clone_any (A : Option Addr) (m c : Nat) (xs : List Int) (w : World) (h : InB w A m c xs) (hm : m ≤ 140737488351232) :
    Calls Tryd.prog 30 #[.slice A m c] w fun e w' => ∃ A' c', e = .returned (.slice A' m c') ∧ Hid (OwnI .u8 5 w.heap.size w' A' m c' xs) ∧ Hid (Up w w') := by
  cases A with
  | some A => exact clone_some A m c xs w h hm
  | none =>
    have qT : ∀ (w : World) (a : Option Addr) (n c n' c' : Nat), (binOp .eql 22 (.slice a n c) (.slice none n' c')).run Tryd.prog w = .ok (.bool a.isNone) w := fun w a n c n' c' => Lib.run_eql_slice_nil w _ _ a n c n' c' Tryd.underlying22
    have hx : xs = [] := by
      cases xs with
      | nil => rfl
      | cons y ys =>
        obtain ⟨_, _, e, _⟩ := h.cells (by simp [ints])
        cases e
    subst hx
    obtain rfl : m = 0 := h.len.symm
    clear h
    go_enter Tryd.func30, Tryd.ntmps30
    go_wp2_with fail
    go_ret
    exact ⟨none, 0, rfl, Lib.hid (ownI_nil _ _ _ _), Lib.hid (Up.refl _)⟩
theorem bslice1 (C V : Int) (M Q : Bool) (A : Option Addr) (n c : Nat) (w : World) : (Instr.buildSlice 29 1 #[(0, .agg #[.int .u32 C, .int .u32 V, .bool M, .bool Q, .slice A n c])]).run Tryd.prog w = .ok (.slice (some ⟨w.heap.size, 0, none⟩) 1 1) (w.alloc (.cells #[.int .u32 C, .int .u32 V, .bool M, .bool Q, .slice A n c] 38)) := by kernel_rfl
/-- A row of one attribute with bytes of its own. -/
theorem gl_one {B0 : Nat} {w w' : World} {q : Nat} {x : AvB} (hq : B0 ≤ q) (hx : OwnA B0 w x) (hu : Up w w') (hqw : w.heap.size ≤ q) (hw : w'.heap[q]? = some (.cells (avc x).toArray 38 (0, 0))) : GL B0 w' (some ⟨q, 0, none⟩) 1 1 [x] := by
  refine ⟨⟨by simp [rowa, avc, avcL], .inr ⟨q, 1, (avc x).toArray, rfl, hq, hw, Nat.le_refl _, by decide, by simp [avc, avcL], by simp [rowa, avc, avcL]⟩⟩, rfl, fun y hy => ?_⟩
  rw [List.mem_singleton.1 hy]
  exact ⟨hx.up hu, fun k hk e => by have h1 := hx.lt hk; injection e with e; have e2 : q = k := e; omega⟩
theorem x_make {P : Program} {o : Oper} {a : Act} {w w' : World} (t : TypeId) (x y : Operand) {X Y v : Value} (ho : o.op = .makeSlice t x y) (hx : a.eval x = X) (hy : a.eval y = Y) (hr : (Instr.makeSlice t X Y).run P w = .ok v w') : (execOp a.eval o).run P w = .ok (.value v) w' := by simp [execOp, ho, hx, hy, hr, Result.andThen]
theorem agg36 (w : World) : (isAgg 36).run Tryd.prog w = .ok false w := by kernel_rfl
theorem agg4 (w : World) : (isAgg 4).run Tryd.prog w = .ok false w := by kernel_rfl
theorem fld400 (g : Nat) (w : World) : (Instr.fieldAt 40 (.pointer (some ⟨g, 0, none⟩)) 0).run Tryd.prog w = .ok (.pointer (some ⟨g, 0, none⟩)) w := by kernel_rfl
theorem fld401 (g : Nat) (w : World) : (Instr.fieldAt 40 (.pointer (some ⟨g, 0, none⟩)) 1).run Tryd.prog w = .ok (.pointer (some ⟨g, 1, none⟩)) w := by kernel_rfl
theorem fld402 (g : Nat) (w : World) : (Instr.fieldAt 40 (.pointer (some ⟨g, 0, none⟩)) 2).run Tryd.prog w = .ok (.pointer (some ⟨g, 2, none⟩)) w := by kernel_rfl
theorem fld403 (g : Nat) (w : World) : (Instr.fieldAt 40 (.pointer (some ⟨g, 0, none⟩)) 3).run Tryd.prog w = .ok (.pointer (some ⟨g, 3, none⟩)) w := by kernel_rfl
theorem fld404 (g : Nat) (w : World) : (Instr.fieldAt 40 (.pointer (some ⟨g, 0, none⟩)) 4).run Tryd.prog w = .ok (.pointer (some ⟨g, 4, none⟩)) w := by kernel_rfl
theorem build38m (C V : Int) (M : Bool) (A : Option Addr) (n c : Nat) (w : World) : (Instr.build 38 #[(0, .int .u32 C), (1, .int .u32 V), (2, .bool M), (4, .slice A n c)]).run Tryd.prog w = .ok (.agg #[.int .u32 C, .int .u32 V, .bool M, .bool false, .slice A n c]) w := by kernel_rfl
theorem lea_le (k : Int) : 0 ≤ lea k ∧ lea k ≤ 8 := by
  unfold lea nsz
  repeat' split
  all_goals omega
def RowZ (n base : Nat) (v : Value) (w : World) : Prop := ∃ A c, v = .slice A n c ∧ OwnI .u8 5 base w A n c (List.replicate n 0)
theorem keeps_rowZ (n base : Nat) : Keeps (RowZ n base) := fun v w w' ⟨A, c, h1, h2⟩ hu => ⟨A, c, h1, own_up h2 hu⟩
def AggZ (C V : Int) (M : Bool) (n base : Nat) (v : Value) (w : World) : Prop := ∃ A c, v = .agg #[.int .u32 C, .int .u32 V, .bool M, .bool false, .slice A n c] ∧ OwnI .u8 5 base w A n c (List.replicate n 0)
theorem keeps_aggZ (C V : Int) (M : Bool) (n base : Nat) : Keeps (AggZ C V M n base) := fun v w w' ⟨A, c, h1, h2⟩ hu => ⟨A, c, h1, own_up h2 hu⟩
set_option maxRecDepth 100000 in
set_option maxHeartbeats 2000000 in
theorem shortest_any (r : Ru) (n : Nat) (hn : (lea r.type).toNat = n) (w : World) : Calls Tryd.prog 32 #[ruV r] w fun e w' => ∃ A c, e = .returned (.agg #[.int .u32 r.code, .int .u32 r.vendor, .bool r.must, .bool false, .slice A n c]) ∧ Hid (OwnI .u8 5 w.heap.size w' A n c (List.replicate n 0)) ∧ Hid (Up w w') := by
  have hl := lea_le r.type
  have HN := Lib.hid (show lea r.type = (n : Int) by omega)
  have hn8 : n ≤ 8 := by omega
  clear hn hl
  have HU := Lib.hid (up_alloc w (ruC r))
  have HC := Lib.hid (new_at w (ruC r))
  have HZ := Lib.hid (show (w.alloc (ruC r)).heap.size = w.heap.size + 1 from Array.size_push ..)
  go_enter Tryd.func32, Tryd.ntmps32
  go_upto_region 1 with (fail)
  change Code.wp _ _ _ _ ((w.alloc (ruC r)).alloc (.cells #[.int .u32 0, .int .u32 0, .bool false, .bool false, .slice none 0 0] 38))
  generalize w.alloc (ruC r) = wa at HC HU HZ ⊢
  have HUb := Lib.hid (up_alloc wa (.cells #[.int .u32 0, .int .u32 0, .bool false, .bool false, .slice none 0 0] 38))
  have HQ := Lib.hid (new_at wa (.cells #[.int .u32 0, .int .u32 0, .bool false, .bool false, .slice none 0 0] 38))
  rw [HZ.out] at HQ
  have HCb := Lib.hid (blk_up HC.out HUb.out)
  have U1 := Lib.hid (HU.out.trans HUb.out)
  clear HC HU HUb
  generalize wa.alloc (.cells #[.int .u32 0, .int .u32 0, .bool false, .bool false, .slice none 0 0] 38) = wb at HQ HCb U1 ⊢
  have HZ := Lib.hid (show w.heap.size ≤ w.heap.size + 1 by omega)
  generalize w.heap.size + 1 = q at HQ HZ ⊢
  generalize hqx : w.heap.size = qx at HCb ⊢
  have HQX := Lib.hid hqx
  clear hqx
  have HK : ∀ φ ∈ [Is (.pointer (some ⟨qx, 0, none⟩)), Is (.int .u32 r.code), Is (.pointer (some ⟨qx, 1, none⟩)), Is (.int .u32 r.vendor), Is (.pointer (some ⟨qx, 3, none⟩)), Is (.bool r.must), Is (.pointer (some ⟨qx, 2, none⟩)), Is (.int .i64 r.type), Is (.int .i64 (n : Int)), RowZ n wb.heap.size, AggZ r.code r.vendor r.must n wb.heap.size], Keeps φ := by
    simp [keeps_is, keeps_rowZ, keeps_aggZ]
  refine staged_last (l := [_, _, _, _, _, _, _, _, _, _, _]) (by kernel_rfl) (facts [Is (.pointer (some ⟨qx, 0, none⟩)), Is (.int .u32 r.code), Is (.pointer (some ⟨qx, 1, none⟩)), Is (.int .u32 r.vendor), Is (.pointer (some ⟨qx, 3, none⟩)), Is (.bool r.must), Is (.pointer (some ⟨qx, 2, none⟩)), Is (.int .i64 r.type), Is (.int .i64 (n : Int)), RowZ n wb.heap.size, AggZ r.code r.vendor r.must n wb.heap.size]) (Stg [] (fun _ y => Up wb y)) 14 rfl (by decide +kernel) (by decide +kernel) (by decide +kernel) rfl (Stg.start (Up.drew wb)) ?_ ?_
  · refine ⟨?_, ?_, ?_, ?_, ?_, ?_, ?_, ?_, ?_, ?_, ?_, trivial⟩
    · refine opS_same rfl rfl fun Lx ac w1 hJ hl hc ho hd => ?_
      have s1 : ac.eval (.tmp 1) = .pointer (some ⟨qx, 0, none⟩) := ho 1 rfl
      exact ⟨_, x_field 40 (.tmp 1) 0 rfl s1 (fld400 _ _), rfl⟩
    · refine opS_same rfl rfl fun Lx ac w1 hJ hl hc ho hd => ?_
      have d0 : ac.eval (.tmp 3) = .pointer (some ⟨qx, 0, none⟩) := hd 0 _ _ rfl rfl rfl
      obtain ⟨_, _, hU⟩ := hJ
      exact ⟨_, x_load 36 (.tmp 3) rfl d0 (run_load1 agg36 (cell_up (cell_of HCb.out (j := 0) rfl) hU)), rfl⟩
    · refine opS_same rfl rfl fun Lx ac w1 hJ hl hc ho hd => ?_
      have s1 : ac.eval (.tmp 1) = .pointer (some ⟨qx, 0, none⟩) := ho 1 rfl
      exact ⟨_, x_field 40 (.tmp 1) 1 rfl s1 (fld401 _ _), rfl⟩
    · refine opS_same rfl rfl fun Lx ac w1 hJ hl hc ho hd => ?_
      have d2 : ac.eval (.tmp 5) = .pointer (some ⟨qx, 1, none⟩) := hd 2 _ _ rfl rfl rfl
      obtain ⟨_, _, hU⟩ := hJ
      exact ⟨_, x_load 36 (.tmp 5) rfl d2 (run_load1 agg36 (cell_up (cell_of HCb.out (j := 1) rfl) hU)), rfl⟩
    · refine opS_same rfl rfl fun Lx ac w1 hJ hl hc ho hd => ?_
      have s1 : ac.eval (.tmp 1) = .pointer (some ⟨qx, 0, none⟩) := ho 1 rfl
      exact ⟨_, x_field 40 (.tmp 1) 3 rfl s1 (fld403 _ _), rfl⟩
    · refine opS_same rfl rfl fun Lx ac w1 hJ hl hc ho hd => ?_
      have d4 : ac.eval (.tmp 7) = .pointer (some ⟨qx, 3, none⟩) := hd 4 _ _ rfl rfl rfl
      obtain ⟨_, _, hU⟩ := hJ
      exact ⟨_, x_load 4 (.tmp 7) rfl d4 (run_load1 agg4 (cell_up (cell_of HCb.out (j := 3) rfl) hU)), rfl⟩
    · refine opS_same rfl rfl fun Lx ac w1 hJ hl hc ho hd => ?_
      have s1 : ac.eval (.tmp 1) = .pointer (some ⟨qx, 0, none⟩) := ho 1 rfl
      exact ⟨_, x_field 40 (.tmp 1) 2 rfl s1 (fld402 _ _), rfl⟩
    · refine opS_same rfl rfl fun Lx ac w1 hJ hl hc ho hd => ?_
      have d6 : ac.eval (.tmp 9) = .pointer (some ⟨qx, 2, none⟩) := hd 6 _ _ rfl rfl rfl
      obtain ⟨_, _, hU⟩ := hJ
      exact ⟨_, x_load 3 (.tmp 9) rfl d6 (run_load1 agg3 (cell_up (cell_of HCb.out (j := 2) rfl) hU)), rfl⟩
    · refine opS_callUp rfl rfl (fun k wx wy h hu => Up.trans h hu) (facts_keep HK) fun L ac wx hJ hl hc ho hd => ?_
      have d7 : ac.eval (.tmp 10) = .int .i64 r.type := hd 7 _ _ rfl rfl rfl
      obtain ⟨_, _, hU⟩ := hJ
      refine ⟨12, _, x_fcall 12 [.tmp 10] _ rfl (by kernel_rfl), ?_⟩
      simp only [List.map_cons, List.map_nil, d7]
      refine (least_any r.type wx).mono fun e w2 ⟨he, hw⟩ => ⟨_, he, by rw [hw]; exact Up.refl _, ?_⟩
      show Value.int .i64 _ = _
      rw [HN.out]
    · refine opS_grow rfl rfl (fun k wx wy h hu => Up.trans h hu) (facts_keep HK) fun L ac wx hJ hl hc ho hd => ?_
      have d8 : ac.eval (.tmp 11) = .int .i64 (n : Int) := hd 8 _ _ rfl rfl rfl
      obtain ⟨_, _, hU⟩ := hJ
      refine fine_run _ _ (x_make 22 (.tmp 11) (.tmp 11) rfl d8 d8 (make_bytes n (by omega) _ rfl wx)) (up_alloc _ _) ⟨_, _, rfl, ?_⟩
      refine OwnI.base' (ownI_row (w0 := wx) (by simp) (by unfold maxLen; omega) ?_) hU.size
      rw [show ints .u8 (List.replicate n 0) = List.replicate n (.int .u8 0) by simp [ints]]
      exact new_at _ _
    · refine opS_same rfl rfl fun Lx ac w1 hJ hl hc ho hd => ?_
      have d1 : ac.eval (.tmp 4) = .int .u32 r.code := hd 1 _ _ rfl rfl rfl
      have d3 : ac.eval (.tmp 6) = .int .u32 r.vendor := hd 3 _ _ rfl rfl rfl
      have d5 : ac.eval (.tmp 8) = .bool r.must := hd 5 _ _ rfl rfl rfl
      have d9 := hd 9 _ _ rfl rfl rfl
      obtain ⟨A, cc, hv, ho9⟩ := d9
      have d9b : ac.eval (.tmp 12) = .slice A n cc := hv
      exact ⟨_, x_build 38 _ rfl (by simp only [List.map_toArray, List.map_cons, List.map_nil, d1, d3, d5, d9b]; exact build38m _ _ _ _ _ _ _), A, cc, rfl, ho9⟩
  · intro L1 a1 wd hI hall
    obtain ⟨_, _, hW⟩ := hI.world
    obtain ⟨A, cc, l13, hown⟩ := hI.facts 10 _ 13 rfl (hall 10 (by decide)) rfl
    have p2 : a1.tmps.getD 2 undef = .pointer (some ⟨q, 0, none⟩) := hI.old 2 rfl
    have hb := (hW.block _ (lt_of_blk HQ.out)).trans HQ.out
    have hst := run_store5 (x0 := .int .u32 r.code) (x1 := .int .u32 r.vendor) (x2 := .bool r.must) (x3 := .bool false) (x4 := .slice A n cc) hb rfl rfl rfl rfl rfl rfl rfl
    have hs := set5 (a := .int .u32 r.code) (b := .int .u32 r.vendor) (c := .bool r.must) (d := .bool false) (e := .slice A n cc) hb rfl
    generalize (((((wd.setCell ⟨q, 0, none⟩ (.int .u32 r.code)).setCell ⟨q, 1, none⟩ (.int .u32 r.vendor)).setCell ⟨q, 2, none⟩ (.bool r.must)).setCell ⟨q, 3, none⟩ (.bool false)).setCell ⟨q, 4, none⟩ (.slice A n cc)) = we at hst hs
    obtain ⟨hb3, ho3⟩ := hs
    unfold Oper.wp
    rw [x_store 38 (.tmp 2) (.tmp 13) rfl p2 l13 hst]
    have HB3 := Lib.hid hb3
    have U3 := Lib.hid (show Up w we from Below.out (Up.trans U1.out hW) ho3 (fun k hk => by rw [hk]; have := HQX.out; have := HZ.out; omega) (Up.trans U1.out hW).size)
    have HO3 := Lib.hid (show OwnI .u8 5 w.heap.size we A n cc (List.replicate n 0) from OwnI.base' (ho3.own hown (fun g hg e => by have h1 := (row_lt hown (by rwa [ownBlock_slice] at hg)).1; have h2 := lt_of_blk HQ.out; omega)) (by have := U1.out.size; omega))
    clear hst hb3 ho3 hW hb hown l13 p2
    have l0 : a1.tmps.getD 0 undef = ruV r := hI.old 0 rfl
    have l1 : a1.tmps.getD 1 undef = .pointer (some ⟨qx, 0, none⟩) := hI.old 1 rfl
    have l2 : a1.tmps.getD 2 undef = .pointer (some ⟨q, 0, none⟩) := hI.old 2 rfl
    have hde : a1.defers = [] := hI.defers
    have hal := act_lit a1 14 hI.size
    clear hI
    simp only [List.range, List.range.loop, List.map_cons, List.map_nil] at hal
    rw [l0, l1, l2, hde] at hal
    generalize a1.tmps.getD 3 undef = t3 at hal
    generalize a1.tmps.getD 4 undef = t4 at hal
    generalize a1.tmps.getD 5 undef = t5 at hal
    generalize a1.tmps.getD 6 undef = t6 at hal
    generalize a1.tmps.getD 7 undef = t7 at hal
    generalize a1.tmps.getD 8 undef = t8 at hal
    generalize a1.tmps.getD 9 undef = t9 at hal
    generalize a1.tmps.getD 10 undef = t10 at hal
    generalize a1.tmps.getD 11 undef = t11 at hal
    generalize a1.tmps.getD 12 undef = t12 at hal
    generalize a1.tmps.getD 13 undef = t13 at hal
    clear l0 l1 l2 hde
    subst hal
    simp only [Oper.upon, Act.put]
    go_wp2_with fail
    refine bodyPost_ret (results_cell_row (fn := Tryd.f32) (p := 2) (ty := 38) rfl _ _ q 38 _ (0, 0) _ rfl HB3.out Tryd.underlying38 rfl (by kernel_rfl)) rfl ?_
    exact ⟨A, cc, rfl, HO3, U3⟩
end Go.Proofs.YtghldkjbmfbdfaaDoor
