import Derived.Test.YthncpkjnalmpkaaMaB
namespace Go.Proofs.Ythncpkjnalmpkaa
open Go Go.RowKit Mg
set_option linter.unusedVariables false
set_option linter.unusedSimpArgs false
/-! The reference's Answer. -/
def RowF (B : Nat) (V : Int) (v : Value) (w : World) : Prop := ∃ A c, v = .slice A 4 c ∧ OwnI .u8 5 B w A 4 c (be V 4)
def AggF (B : Nat) (V : Int) (v : Value) (w : World) : Prop := ∃ A c, v = .agg #[.int .u32 268, .int .u32 0, .bool true, .bool false, .slice A 4 c] ∧ OwnI .u8 5 B w A 4 c (be V 4)
def OneF (B : Nat) (V : Int) (v : Value) (w : World) : Prop := ∃ q A c, v = .slice (some ⟨q, 0, none⟩) 1 1 ∧ B ≤ q ∧ w.heap[q]? = some (.cells #[.int .u32 268, .int .u32 0, .bool true, .bool false, .slice A 4 c] 56 (0, 0)) ∧ OwnI .u8 5 B w A 4 c (be V 4)
def GiF (B : Nat) (V : Int) (v : Value) (w : World) : Prop := ∃ A' c' A c, v = .slice A' 1 c' ∧ GI B w A' 1 c' [⟨268, 0, true, false, A, 4, c, be V 4⟩] ∧ ∀ q, blk? A = some q → B ≤ q
theorem keeps_rowF (B : Nat) (V : Int) : Keeps (RowF B V) := fun v w w' ⟨A, c, h1, h2⟩ hu => ⟨A, c, h1, own_up h2 hu⟩
theorem keeps_aggF (B : Nat) (V : Int) : Keeps (AggF B V) := fun v w w' ⟨A, c, h1, h2⟩ hu => ⟨A, c, h1, own_up h2 hu⟩
theorem keeps_oneF (B : Nat) (V : Int) : Keeps (OneF B V) := fun v w w' ⟨q, A, c, h1, h2, h3, h4⟩ hu => ⟨q, A, c, h1, h2, blk_up h3 hu, own_up h4 hu⟩
theorem keeps_giF (B : Nat) (V : Int) : Keeps (GiF B V) := fun v w w' ⟨A', c', A, c, h1, h2, h3⟩ hu => ⟨A', c', A, c, h1, h2.up hu, h3⟩
theorem build56 (C : Int) (A : Option Addr) (n c : Nat) (w : World) : (Instr.build 56 #[(0, .int .u32 C), (2, .bool true), (4, .slice A n c)]).run Try.prog w = .ok (.agg #[.int .u32 C, .int .u32 0, .bool true, .bool false, .slice A n c]) w := by kernel_rfl
theorem bs23 (C V : Int) (M Q : Bool) (A : Option Addr) (n c : Nat) (w : World) : (Instr.buildSlice 23 1 #[(0, .agg #[.int .u32 C, .int .u32 V, .bool M, .bool Q, .slice A n c])]).run Try.prog w = .ok (.slice (some ⟨w.heap.size, 0, none⟩) 1 1) (w.alloc (.cells #[.int .u32 C, .int .u32 V, .bool M, .bool Q, .slice A n c] 56)) := by kernel_rfl
theorem agg23 (w : World) : (isAgg 23).run Try.prog w = .ok false w := by kernel_rfl
theorem siz23 (w : World) : (Go.sizeOf 23).run Try.prog w = .ok 1 w := by kernel_rfl
theorem fld258 (g : Nat) (w : World) : (Instr.fieldAt 25 (.pointer (some ⟨g, 0, none⟩)) 8).run Try.prog w = .ok (.pointer (some ⟨g, 8, none⟩)) w := by kernel_rfl
set_option maxRecDepth 100000 in
set_option maxHeartbeats 40000000 in
theorem ranswer_any (X : MsB) (code : Int) (host realm : ByteArray) (A : Option Addr) (n cap : Nat) (l : List AvB) (w : World) (hc0 : -9223372036854775808 ≤ code) (hc1 : code < 9223372036854775808) (hh : host.size ≤ 140737488351232) (hr : realm.size ≤ 140737488351232) (h : InL w A n cap l) (hn : n ≤ 100) :
    Calls Try.prog 24 #[msV X, .int .i64 code, .string host, .string realm, .slice A n cap] w (AnsP X.pure code (strB host) (strB realm) (l.map AvB.pure) w) := by
  have HLT := Lib.hid (show (l.map AvB.pure).length = n by simp [h.len])
  have HU := Lib.hid (Up.trans (up_alloc w (msO X)) (up_alloc (w.alloc (msO X)) (.cells #[.bool false, .bool false, .bool false, .bool false, .int .u32 0, .int .u32 0, .int .u32 0, .int .u32 0, .slice none 0 0] 25)))
  have HP := Lib.hid (blk_up (new_at w (msO X)) (up_alloc (w.alloc (msO X)) (.cells #[.bool false, .bool false, .bool false, .bool false, .int .u32 0, .int .u32 0, .int .u32 0, .int .u32 0, .slice none 0 0] 25)))
  have hq := new_at (w.alloc (msO X)) (.cells #[.bool false, .bool false, .bool false, .bool false, .int .u32 0, .int .u32 0, .int .u32 0, .int .u32 0, .slice none 0 0] 25)
  rw [show (w.alloc (msO X)).heap.size = w.heap.size + 1 by simp] at hq
  have HQ := Lib.hid hq
  have H := Lib.hid (h.up HU.out)
  have HW0 := Lib.hid (show ∀ y ∈ l, y.bs ≠ [] → ∀ q, blk? y.A = some q → q < w.heap.size from fun y hy hne q hq => (h.av y hy).inb.lt hne hq)
  have hcap := h.cap
  clear h hq
  unfold msV
  go_enter Try.func24, Try.ntmps24
  go_upto_region 1 with (fail)
  change Code.wp _ _ _ _ ((w.alloc (msO X)).alloc (.cells #[.bool false, .bool false, .bool false, .bool false, .int .u32 0, .int .u32 0, .int .u32 0, .int .u32 0, .slice none 0 0] 25))
  generalize (w.alloc (msO X)).alloc (.cells #[.bool false, .bool false, .bool false, .bool false, .int .u32 0, .int .u32 0, .int .u32 0, .int .u32 0, .slice none 0 0] 25) = wa at HU HP HQ H ⊢
  obtain ⟨pb, HPB⟩ : ∃ p, Hid (w.heap.size = p) := ⟨_, Lib.hid rfl⟩
  rw [HPB.out] at HP HQ ⊢
  obtain ⟨V, HV⟩ : ∃ V, Hid (numM code = V) := ⟨_, Lib.hid rfl⟩
  have hV0 : 0 ≤ V ∧ V < 4294967296 := by rw [← HV.out]; unfold numM; split <;> omega
  obtain ⟨D, HD⟩ : ∃ D : Bool, Hid (decide (0 ≤ code ∧ code ≤ 4294967295) = D) := ⟨_, Lib.hid rfl⟩
  go_upto_region 2 with (fail)
  go_cut [18] from 13 to 18 (fun v wx => v = .bool D ∧ wx = wa)
  case first =>
    by_cases e1 : 0 ≤ code
    · have d1 : decide (0 ≤ code) = true := decide_eq_true e1
      by_cases e2 : code ≤ 4294967295
      · have d2 : decide (code ≤ 4294967295) = true := decide_eq_true e2
        go_wp2_with fail
        go_meet
        rw [← HD.out, decide_eq_true (show 0 ≤ code ∧ code ≤ 4294967295 by omega)]
        exact ⟨rfl, rfl⟩
      · have d2 : decide (code ≤ 4294967295) = false := decide_eq_false e2
        go_wp2_with fail
        go_meet
        rw [← HD.out, decide_eq_false (show ¬ (0 ≤ code ∧ code ≤ 4294967295) by omega)]
        exact ⟨rfl, rfl⟩
    · have d1 : decide (0 ≤ code) = false := decide_eq_false e1
      go_wp2_with fail
      go_meet
      rw [← HD.out, decide_eq_false (show ¬ (0 ≤ code ∧ code ≤ 4294967295) by omega)]
      exact ⟨rfl, rfl⟩
  case rest =>
  obtain ⟨rfl, hw⟩ := hcut
  obtain rfl := hw.symm
  clear hw
  go_upto_if 18 with (fail)
  go_cut [11] (fun v wx => v = .int .u64 V ∧ wx = wa)
  case first =>
    by_cases e1 : 0 ≤ code ∧ code ≤ 4294967295
    · obtain rfl : D = true := by rw [← HD.out]; exact decide_eq_true e1
      have e0 := e1.1
      have e2 := e1.2
      go_wp2_with fail
      go_meet
      exact ⟨by rw [← HV.out, show numM code = code from if_pos e1], rfl⟩
    · obtain rfl : D = false := by rw [← HD.out]; exact decide_eq_false e1
      go_wp2_with fail
      go_meet
      exact ⟨by rw [← HV.out, show numM code = 0 from if_neg e1], rfl⟩
  case rest =>
  obtain ⟨rfl, hw⟩ := hcut
  obtain rfl := hw.symm
  clear hw
  have z1 : wa.cell? ⟨pb, 1, none⟩ = some (.bool X.prox) := cell_of HP.out (j := 1) rfl
  have z4 : wa.cell? ⟨pb, 4, none⟩ = some (.int .u32 X.code) := cell_of HP.out (j := 4) rfl
  have z5 : wa.cell? ⟨pb, 5, none⟩ = some (.int .u32 X.app) := cell_of HP.out (j := 5) rfl
  have z6 : wa.cell? ⟨pb, 6, none⟩ = some (.int .u32 X.hop) := cell_of HP.out (j := 6) rfl
  have z7 : wa.cell? ⟨pb, 7, none⟩ = some (.int .u32 X.end_) := cell_of HP.out (j := 7) rfl
  obtain ⟨F, HF⟩ : ∃ F : Bool, Hid (decide (3000 ≤ code ∧ code < 4000) = F) := ⟨_, Lib.hid rfl⟩
  go_upto_region 4 with (fail)
  go_cut [12] from 21 to 37 (fun v wx => v = .pointer (some ⟨wa.heap.size, 0, none⟩) ∧ wx = wa.alloc (.cells #[.bool false, .bool X.prox, .bool F, .bool false, .int .u32 X.code, .int .u32 X.app, .int .u32 X.hop, .int .u32 X.end_, .slice none 0 0] 25))
  case first =>
    by_cases e1 : 3000 ≤ code
    · have d1 : decide (3000 ≤ code) = true := decide_eq_true e1
      by_cases e2 : code < 4000
      · have d2 : decide (code < 4000) = true := decide_eq_true e2
        go_wp2_with fail
        go_meet
        rw [← HF.out, decide_eq_true (show 3000 ≤ code ∧ code < 4000 by omega)]
        exact ⟨rfl, rfl⟩
      · have d2 : decide (code < 4000) = false := decide_eq_false e2
        go_wp2_with fail
        go_meet
        rw [← HF.out, decide_eq_false (show ¬ (3000 ≤ code ∧ code < 4000) by omega)]
        exact ⟨rfl, rfl⟩
    · have d1 : decide (3000 ≤ code) = false := decide_eq_false e1
      go_wp2_with fail
      go_meet
      rw [← HF.out, decide_eq_false (show ¬ (3000 ≤ code ∧ code < 4000) by omega)]
      exact ⟨rfl, rfl⟩
  case rest =>
  obtain ⟨rfl, rfl⟩ := hcut
  obtain ⟨p, HPE⟩ : ∃ p, Hid (wa.heap.size = p) := ⟨_, Lib.hid rfl⟩
  have HXb := Lib.hid (new_at wa (.cells #[.bool false, .bool X.prox, .bool F, .bool false, .int .u32 X.code, .int .u32 X.app, .int .u32 X.hop, .int .u32 X.end_, .slice none 0 0] 25))
  have HVb := Lib.hid (up_alloc wa (.cells #[.bool false, .bool X.prox, .bool F, .bool false, .int .u32 X.code, .int .u32 X.app, .int .u32 X.hop, .int .u32 X.end_, .slice none 0 0] 25))
  rw [HPE.out] at HXb ⊢
  generalize wa.alloc (.cells #[.bool false, .bool X.prox, .bool F, .bool false, .int .u32 X.code, .int .u32 X.app, .int .u32 X.hop, .int .u32 X.end_, .slice none 0 0] 25) = wb at HXb HVb ⊢
  have HQb := Lib.hid (blk_up HQ.out HVb.out)
  have hqp : pb + 1 < p := by have := lt_of_blk HQ.out; have := HPE.out; omega
  obtain ⟨BS, HBS⟩ : ∃ b, Hid (wb.heap.size = b) := ⟨_, Lib.hid rfl⟩
  have hpb : p < BS := by have := lt_of_blk HXb.out; have := HBS.out; omega
  clear z1 z4 z5 z6 z7 HP HQ HD
  go_upto_region 5 with (fail)
  have HK : ∀ φ ∈ ([Is (.pointer (some ⟨p, 8, none⟩)), Is (.slice none 0 0), Is (.int .u64 V), RowF wb.heap.size V, AggF wb.heap.size V, OneF wb.heap.size V, GiF wb.heap.size V, Is (.pointer (some ⟨p, 8, none⟩))] : List (Value → World → Prop)), Keeps φ := by
    simp [keeps_is, keeps_rowF, keeps_aggF, keeps_oneF, keeps_giF]
  refine staged_last (l := [_, _, _, _, _, _, _, _]) (by kernel_rfl) (facts [Is (.pointer (some ⟨p, 8, none⟩)), Is (.slice none 0 0), Is (.int .u64 V), RowF wb.heap.size V, AggF wb.heap.size V, OneF wb.heap.size V, GiF wb.heap.size V, Is (.pointer (some ⟨p, 8, none⟩))]) (Stg [] (fun _ x => Up wb x)) 68 rfl (by decide +kernel) (by decide +kernel) (by decide +kernel) rfl (Stg.start (Up.drew wb)) ?_ ?_
  · refine ⟨?_, ?_, ?_, ?_, ?_, ?_, ?_, ?_, trivial⟩
    · refine opS_same rfl rfl fun Lx ac w1 hJ hl hc ho hd => ?_
      have s12 : ac.eval (.tmp 12) = .pointer (some ⟨p, 0, none⟩) := ho 12 rfl
      exact ⟨_, x_field 25 _ 8 rfl s12 (fld258 _ _), rfl⟩
    · refine opS_same rfl rfl fun Lx ac w1 hJ hl hc ho hd => ?_
      have d0 : ac.eval (.tmp 38) = .pointer (some ⟨p, 8, none⟩) := hd 0 _ _ rfl rfl rfl
      obtain ⟨_, _, hU⟩ := hJ
      exact ⟨_, x_load 23 _ rfl d0 (run_load1 agg23 (cell_of (blk_up HXb.out hU) (j := 8) rfl)), rfl⟩
    · refine opS_same rfl rfl fun Lx ac w1 hJ hl hc ho hd => ?_
      have s11 : ac.eval (.tmp 11) = .int .u64 V := ho 11 rfl
      exact ⟨_, x_move (.tmp 11) rfl s11, rfl⟩
    · refine opS_callUp rfl rfl (fun k wx wy h hu => Up.trans h hu) (facts_keep HK) fun L ac w1 hJ hl hc ho hd => ?_
      have d2 : ac.eval (.tmp 40) = .int .u64 V := hd 2 _ _ rfl rfl rfl
      obtain ⟨_, _, hU⟩ := hJ
      refine ⟨28, _, x_fcall 28 [.const (.slice none 0 0), .tmp 40, .const (.int .i64 4)] _ rfl (by kernel_rfl), ?_⟩
      simp only [List.map_cons, List.map_nil, d2]
      refine (rput none 0 0 4 [] V w1 (inB_nil _) (by omega) (by omega) (by omega)).mono fun e w2 ⟨A8, N8, c8, he, hN8, hO8, hu8⟩ => ?_
      obtain rfl : N8 = 4 := by rw [hN8, List.nil_append, be_length]
      exact ⟨_, he, hu8, A8, c8, rfl, hO8.base hU.size⟩
    · refine opS_same rfl rfl fun Lx ac w1 hJ hl hc ho hd => ?_
      have d3 := hd 3 _ _ rfl rfl rfl
      obtain ⟨A8, c8, e8, i8⟩ := d3
      have d3 : ac.eval (.tmp 41) = .slice A8 4 c8 := e8
      exact ⟨_, x_build 56 _ rfl (by simp only [List.map_toArray, List.map_cons, List.map_nil, d3]; exact build56 _ _ _ _ w1), A8, c8, rfl, i8⟩
    · refine opS_grow rfl rfl (fun k wx wy h hu => Up.trans h hu) (facts_keep HK) fun L ac w1 hJ hl hc ho hd => ?_
      have d4 := hd 4 _ _ rfl rfl rfl
      obtain ⟨_, _, hU⟩ := hJ
      obtain ⟨A8, c8, e8, i8⟩ := d4
      have d4 : ac.eval (.tmp 42) = .agg #[.int .u32 268, .int .u32 0, .bool true, .bool false, .slice A8 4 c8] := e8
      exact fine_run _ _ (x_bslice 23 1 _ rfl (by simp only [List.map_toArray, List.map_cons, List.map_nil, d4]; exact bs23 _ _ _ _ _ _ _ w1)) (up_alloc _ _) ⟨w1.heap.size, A8, c8, rfl, hU.size, new_at _ _, own_up i8 (up_alloc _ _)⟩
    · refine opS_grow rfl rfl (fun k wx wy h hu => Up.trans h hu) (facts_keep HK) fun L ac w1 hJ hl hc ho hd => ?_
      have d1 : ac.eval (.tmp 39) = .slice none 0 0 := hd 1 _ _ rfl rfl rfl
      have d5 := hd 5 _ _ rfl rfl rfl
      obtain ⟨_, _, hU⟩ := hJ
      obtain ⟨q8, A8, c8, e8, hq8, hb8, i8⟩ := d5
      have d5 : ac.eval (.tmp 43) = .slice (some ⟨q8, 0, none⟩) 1 1 := e8
      have hcells : Cells w1 (some ⟨q8, 0, none⟩) (rowa [⟨268, 0, true, false, A8, 4, c8, be V 4⟩]) := fun _ => ⟨q8, 0, rfl, lt_of_blk hb8, fun j u hu => cell_of hb8 (by rw [Nat.zero_add]; simpa [rowa, avc, avcL] using hu)⟩
      obtain ⟨A9, c9, w9, hrun, ho9, hown, hb9⟩ := append_G (P := Try.prog) (t := 23) (ty := 23) Try.underlying23 info38 rfl (by decide) (World.ownsRow_nil w1 wb.heap.size 56 5) (some ⟨q8, 0, none⟩) 1 1 (rowa [⟨268, 0, true, false, A8, 4, c8, be V 4⟩]) (by simp [rowa, avc, avcL]) hcells (rowa_one _) (by omega) (by omega) hU.size
      have hu9 : Up w1 w9 := Out.up (ho9.mono fun k hk => by cases hk)
      have hgi := (gi_nil wb.heap.size w1).pushes (ms := [⟨268, 0, true, false, A8, 4, c8, be V 4⟩]) (m := 1) (N := 0 + 1) (fun y hy => by rw [List.mem_singleton.1 hy]; exact ⟨⟨own_inB i8 (be_byt _ _), ok3 268 _ (by omega) (by omega) (be_byt _ _), by show 4 ≤ _; omega⟩, fun _ q _ e => by cases e⟩) rfl rfl hown ho9 hb9
      exact fine_run _ _ (x_append (.tmp 39) (.tmp 43) 23 23 rfl d1 d5 hrun) hu9 ⟨A9, c9, A8, c8, rfl, hgi, fun q hq => (row_lt i8 hq).1⟩
    · refine opS_same rfl rfl fun Lx ac w1 hJ hl hc ho hd => ?_
      have s12 : ac.eval (.tmp 12) = .pointer (some ⟨p, 0, none⟩) := ho 12 rfl
      exact ⟨_, x_field 25 _ 8 rfl s12 (fld258 _ _), rfl⟩
  · intro L1 a1 w2 hI hall
    obtain ⟨_, _, hW2⟩ := hI.world
    have g44 := hI.facts 6 _ 44 rfl (hall 6 (by decide)) rfl
    have l45 : a1.tmps.getD 45 undef = .pointer (some ⟨p, 8, none⟩) := hI.facts 7 _ 45 rfl (hall 7 (by decide)) rfl
    obtain ⟨A', c', A0, c0, l44, hgi, hA0⟩ := g44
    have l2 : a1.tmps.getD 2 undef = .string host := hI.old 2 rfl
    have l3 : a1.tmps.getD 3 undef = .string realm := hI.old 3 rfl
    have l4 : a1.tmps.getD 4 undef = .slice A n cap := hI.old 4 rfl
    have l10 : a1.tmps.getD 10 undef = .pointer (some ⟨pb + 1, 0, none⟩) := hI.old 10 rfl
    have l12 : a1.tmps.getD 12 undef = .pointer (some ⟨p, 0, none⟩) := hI.old 12 rfl
    have hde : a1.defers = [] := hI.defers
    have hal := act_lit a1 68 hI.size
    clear hI
    simp only [List.range, List.range.loop, List.map_cons, List.map_nil] at hal
    have hX2 := blk_up HXb.out hW2
    unfold Oper.wp
    rw [x_store 23 (.tmp 45) (.tmp 44) rfl l45 l44 (run_store1 siz23 hX2 (by show 8 < 9; omega) rfl rfl)]
    have HXd := Lib.hid (setCell_at (j := 8) (.slice A' 1 c') hX2)
    have HOd := setCell_out w2 p 8 (.slice A' 1 c')
    have GId := Lib.hid (hgi.outS HOd (fun k hk e => by have := (hgi.lt hk).1; have := HBS.out; omega) (fun x hx hne k hk e => by rw [List.mem_singleton.1 hx] at hk; have := hA0 k hk; have := HBS.out; omega))
    have UAd := Lib.hid (show Up wa (w2.setCell ⟨p, 8, none⟩ (.slice A' 1 c')) from Below.out (HVb.out.trans hW2) HOd (fun k hk => by have := HPE.out; omega) (HVb.out.trans hW2).size)
    have HQd := Lib.hid (HOd.blk (blk_up HQb.out hW2) (by omega))
    have HSd := Lib.hid (show BS ≤ (w2.setCell ⟨p, 8, none⟩ (.slice A' 1 c')).heap.size by have h1 := HOd.size; have h2 := hW2.size; have h3 := HBS.out; omega)
    have HA0 := Lib.hid (show ∀ q, blk? A0 = some q → BS ≤ q by rw [← HBS.out]; exact hA0)
    rw [HBS.out] at GId
    generalize w2.setCell ⟨p, 8, none⟩ (.slice A' 1 c') = wd at GId UAd HQd HXd HSd ⊢
    rw [l2, l3, l4, l10, l12, hde] at hal
    generalize hTT : a1.tmps = TT at hal l44 l45
    clear hall hTT hgi hX2 HOd hW2 l44 l45 l2 l3 l4 l10 l12 hde HK hA0 HXb HQb HVb
    subst hal
    simp only [Oper.upon, Act.put]
    obtain ⟨L1', HL1⟩ : ∃ L : List AvB, Hid ([⟨268, 0, true, false, A0, 4, c0, be V 4⟩] = L) := ⟨_, Lib.hid rfl⟩
    have HGE1 := Lib.hid (show ∀ y ∈ L1', y.bs ≠ [] → ∀ q, blk? y.A = some q → BS ≤ q by rw [← HL1.out]; intro y hy hne q hq; rw [List.mem_singleton.1 hy] at hq; exact HA0.out q hq)
    rw [HL1.out] at GId
    have HE1 := Lib.hid (show L1'.map AvB.pure = [⟨268, 0, true, false, be V 4⟩] by rw [← HL1.out]; rfl)
    obtain ⟨B1, hB1⟩ : ∃ B, Hid (A' = B) := ⟨_, Lib.hid rfl⟩
    obtain ⟨c1, hc1'⟩ : ∃ c, Hid (c' = c) := ⟨_, Lib.hid rfl⟩
    rw [hB1.out, hc1'.out] at GId HXd
    have HX1 := HXd
    have HQ1 := HQd
    have HG1 := GId
    have HU1 := UAd
    have HS1 := HSd
    clear HXd HQd GId UAd HSd HL1 HA0 hB1 hc1'
    obtain ⟨w1, hw1⟩ : ∃ w, wd = w := ⟨_, rfl⟩
    rw [hw1] at HX1 HQ1 HG1 HU1 HS1 ⊢
    clear hw1
    have zc : w1.cell? ⟨p, 8, none⟩ = some (.slice B1 1 c1) := cell_of HX1.out (j := 8) rfl
    obtain ⟨d2, v2, hcv, hue, hie, hze⟩ := conv_str host w1
    obtain ⟨h2, HH⟩ : ∃ h, Hid (w1.heap.size = h) := ⟨_, Lib.hid rfl⟩
    rw [HH.out] at hcv hie
    have HIE := Lib.hid hie
    have HUE := Lib.hid hue
    have HHL := Lib.hid (show BS ≤ h2 by have := HS1.out; have := HH.out; omega)
    clear hie hue hze
    have HUA := Lib.hid (up_alloc v2 (.cells #[.int .u32 264, .int .u32 0, .bool true, .bool false, .slice (some ⟨h2, 0, none⟩) host.size d2] 56))
    have HCL := Lib.hid (avCells v2 ⟨264, 0, true, false, some ⟨h2, 0, none⟩, host.size, d2, strB host⟩)
    have HGk := Lib.hid ((HG1.out.up HUE.out).up HUA.out)
    have HSz := Lib.hid (show BS ≤ (v2.alloc (.cells #[.int .u32 264, .int .u32 0, .bool true, .bool false, .slice (some ⟨h2, 0, none⟩) host.size d2] 56)).heap.size by have h1 := HS1.out; have h2 := HUE.out.size; have h3 := HUA.out.size; omega)
    have HXk := Lib.hid (blk_up (blk_up HX1.out HUE.out) HUA.out)
    have HQk := Lib.hid (blk_up (blk_up HQ1.out HUE.out) HUA.out)
    have HBP := Lib.hid (show ¬ (blk? B1 = some p) from fun e => by have := (HG1.out.lt e).1; omega)
    have HBQ := Lib.hid (show ¬ (blk? B1 = some (pb + 1)) from fun e => by have := (HG1.out.lt e).1; omega)
    have HAV := Lib.hid (show AvIn (v2.alloc (.cells #[.int .u32 264, .int .u32 0, .bool true, .bool false, .slice (some ⟨h2, 0, none⟩) host.size d2] 56)) ⟨264, 0, true, false, some ⟨h2, 0, none⟩, host.size, d2, strB host⟩ ∧ Off B1 ⟨264, 0, true, false, some ⟨h2, 0, none⟩, host.size, d2, strB host⟩ from ⟨⟨HIE.out.up HUA.out, ok3 264 _ (by omega) (by omega) (strB_byt _), hh⟩, fun _ q hq e => by injection hq with hq; have e1 : h2 = q := hq; have h2 := (HG1.out.lt e).2; have := HH.out; omega⟩)
    go_upto_region 7 with (at_builtin; refine wpList_appendG rfl (.tmp 47) (.tmp 51) 23 rfl BS 56 (.agg #[.int .u32 0, .int .u32 0, .bool false, .bool false, .slice none 0 0]) 5 40 Try.underlying23 info38 rfl (by decide) B1 1 c1 (rowa L1') rfl HGk.out.row (some ⟨v2.heap.size, 0, none⟩) 1 1 (rowa [⟨264, 0, true, false, some ⟨h2, 0, none⟩, host.size, d2, strB host⟩]) rfl (by simp [rowa, avc, avcL]) HCL.out (rowa_one _) (by omega) (by omega) HSz.out ?_; intro B2 N2 c2 y2 HN HW HO HB'; have hx9 := HO.out.blk HXk.out HBP.out; have z9 := cell_of hx9 (j := 8) rfl; have f9 := frozen_at (j := 8) hx9)
    have HG9 := Lib.hid (HGk.out.pushes (ms := [⟨264, 0, true, false, some ⟨h2, 0, none⟩, host.size, d2, strB host⟩]) (m := 1) (fun y hy => by rw [List.mem_singleton.1 hy]; exact HAV.out) rfl HN.out HW.out HO.out HB'.out)
    have HV := Lib.hid (show Up wa _ from Up.trans (Up.trans HU1.out HUE.out) HUA.out)
    have HV9 := Lib.hid (show Up wa y2 from Below.out HV.out HO.out (fun q hq => by have h1 := (HGk.out.lt hq).1; have := HPE.out; omega) HV.out.size)
    have HXs := Lib.hid (setCell_at (j := 8) (.slice B2 N2 c2) hx9)
    have hos := setCell_out y2 p 8 (.slice B2 N2 c2)
    have HS9 := Lib.hid (show BS ≤ y2.heap.size from Nat.le_trans HSz.out HO.out.size)
    obtain rfl : N2 = 2 := HN.out
    have HGE9 := Lib.hid (show ∀ y ∈ L1' ++ [⟨264, 0, true, false, some ⟨h2, 0, none⟩, host.size, d2, strB host⟩], y.bs ≠ [] → ∀ q, blk? y.A = some q → BS ≤ q from fun y hy hne q hq => by
      rcases List.mem_append.1 hy with hy | hy
      · exact HGE1.out y hy hne q hq
      · rw [List.mem_singleton.1 hy] at hq
        injection hq with hq
        have e1 : h2 = q := hq
        have := HHL.out; omega)
    have HGs := Lib.hid (HG9.out.outS hos (fun q hq e => by have := (HG9.out.lt hq).1; omega) (fun y hy hne q hq e => by have := HGE9.out y hy hne q hq; omega))
    have HQs := Lib.hid (hos.blk (HO.out.blk HQk.out HBQ.out) (by omega))
    have HUs := Lib.hid (show Up wa (y2.setCell ⟨p, 8, none⟩ (.slice B2 2 c2)) from Below.out HV9.out hos (fun q hq => by have := HPE.out; omega) HV9.out.size)
    have HSs := Lib.hid (show BS ≤ (y2.setCell ⟨p, 8, none⟩ (.slice B2 2 c2)).heap.size from Nat.le_trans HS9.out hos.size)
    have HX2 := HXs
    have HQ2 := HQs
    have HG2 := HGs
    have HU2 := HUs
    have HS2 := HSs
    have HE9 := Lib.hid (show List.map AvB.pure (L1' ++ [(⟨264, 0, true, false, some ⟨h2, 0, none⟩, host.size, d2, strB host⟩ : AvB)]) = (L1'.map AvB.pure) ++ [⟨264, 0, true, false, strB host⟩] by rw [List.map_append]; rfl)
    rw [HE1.out] at HE9
    obtain ⟨L2', HL⟩ : ∃ L, Hid (L1' ++ [(⟨264, 0, true, false, some ⟨h2, 0, none⟩, host.size, d2, strB host⟩ : AvB)] = L) := ⟨_, Lib.hid rfl⟩
    rw [HL.out] at HG2 HGE9 HE9
    have HGE2 := HGE9
    have HE2 := HE9
    clear HXs HQs HGs HUs HSs hx9 z9 f9 hos zc hcv HL HGE9 HE9 HX1 HQ1 HG1 HU1 HS1 HIE HUE HUA HCL HGk HSz HXk HQk HBP HBQ HAV HG9 HV HV9 HS9 HW HO HB' HN
    generalize y2.setCell ⟨p, 8, none⟩ (.slice B2 2 c2) = w2 at HX2 HQ2 HG2 HU2 HS2 ⊢
    have zc : w2.cell? ⟨p, 8, none⟩ = some (.slice B2 2 c2) := cell_of HX2.out (j := 8) rfl
    obtain ⟨d3, v3, hcv, hue, hie, hze⟩ := conv_str realm w2
    obtain ⟨h3, HH⟩ : ∃ h, Hid (w2.heap.size = h) := ⟨_, Lib.hid rfl⟩
    rw [HH.out] at hcv hie
    have HIE := Lib.hid hie
    have HUE := Lib.hid hue
    have HHL := Lib.hid (show BS ≤ h3 by have := HS2.out; have := HH.out; omega)
    clear hie hue hze
    have HUA := Lib.hid (up_alloc v3 (.cells #[.int .u32 296, .int .u32 0, .bool true, .bool false, .slice (some ⟨h3, 0, none⟩) realm.size d3] 56))
    have HCL := Lib.hid (avCells v3 ⟨296, 0, true, false, some ⟨h3, 0, none⟩, realm.size, d3, strB realm⟩)
    have HGk := Lib.hid ((HG2.out.up HUE.out).up HUA.out)
    have HSz := Lib.hid (show BS ≤ (v3.alloc (.cells #[.int .u32 296, .int .u32 0, .bool true, .bool false, .slice (some ⟨h3, 0, none⟩) realm.size d3] 56)).heap.size by have h1 := HS2.out; have h2 := HUE.out.size; have h3 := HUA.out.size; omega)
    have HXk := Lib.hid (blk_up (blk_up HX2.out HUE.out) HUA.out)
    have HQk := Lib.hid (blk_up (blk_up HQ2.out HUE.out) HUA.out)
    have HBP := Lib.hid (show ¬ (blk? B2 = some p) from fun e => by have := (HG2.out.lt e).1; omega)
    have HBQ := Lib.hid (show ¬ (blk? B2 = some (pb + 1)) from fun e => by have := (HG2.out.lt e).1; omega)
    have HAV := Lib.hid (show AvIn (v3.alloc (.cells #[.int .u32 296, .int .u32 0, .bool true, .bool false, .slice (some ⟨h3, 0, none⟩) realm.size d3] 56)) ⟨296, 0, true, false, some ⟨h3, 0, none⟩, realm.size, d3, strB realm⟩ ∧ Off B2 ⟨296, 0, true, false, some ⟨h3, 0, none⟩, realm.size, d3, strB realm⟩ from ⟨⟨HIE.out.up HUA.out, ok3 296 _ (by omega) (by omega) (strB_byt _), hr⟩, fun _ q hq e => by injection hq with hq; have e1 : h3 = q := hq; have h2 := (HG2.out.lt e).2; have := HH.out; omega⟩)
    go_upto_region 8 with (at_builtin; refine wpList_appendG rfl (.tmp 55) (.tmp 59) 23 rfl BS 56 (.agg #[.int .u32 0, .int .u32 0, .bool false, .bool false, .slice none 0 0]) 5 40 Try.underlying23 info38 rfl (by decide) B2 2 c2 (rowa L2') rfl HGk.out.row (some ⟨v3.heap.size, 0, none⟩) 1 1 (rowa [⟨296, 0, true, false, some ⟨h3, 0, none⟩, realm.size, d3, strB realm⟩]) rfl (by simp [rowa, avc, avcL]) HCL.out (rowa_one _) (by omega) (by omega) HSz.out ?_; intro B3 N3 c3 y3 HN HW HO HB'; have hx9 := HO.out.blk HXk.out HBP.out; have z9 := cell_of hx9 (j := 8) rfl; have f9 := frozen_at (j := 8) hx9)
    have HG9 := Lib.hid (HGk.out.pushes (ms := [⟨296, 0, true, false, some ⟨h3, 0, none⟩, realm.size, d3, strB realm⟩]) (m := 1) (fun y hy => by rw [List.mem_singleton.1 hy]; exact HAV.out) rfl HN.out HW.out HO.out HB'.out)
    have HV := Lib.hid (show Up wa _ from Up.trans (Up.trans HU2.out HUE.out) HUA.out)
    have HV9 := Lib.hid (show Up wa y3 from Below.out HV.out HO.out (fun q hq => by have h1 := (HGk.out.lt hq).1; have := HPE.out; omega) HV.out.size)
    have HXs := Lib.hid (setCell_at (j := 8) (.slice B3 N3 c3) hx9)
    have hos := setCell_out y3 p 8 (.slice B3 N3 c3)
    have HS9 := Lib.hid (show BS ≤ y3.heap.size from Nat.le_trans HSz.out HO.out.size)
    obtain rfl : N3 = 3 := HN.out
    have HGE9 := Lib.hid (show ∀ y ∈ L2' ++ [⟨296, 0, true, false, some ⟨h3, 0, none⟩, realm.size, d3, strB realm⟩], y.bs ≠ [] → ∀ q, blk? y.A = some q → BS ≤ q from fun y hy hne q hq => by
      rcases List.mem_append.1 hy with hy | hy
      · exact HGE2.out y hy hne q hq
      · rw [List.mem_singleton.1 hy] at hq
        injection hq with hq
        have e1 : h3 = q := hq
        have := HHL.out; omega)
    have HGs := Lib.hid (HG9.out.outS hos (fun q hq e => by have := (HG9.out.lt hq).1; omega) (fun y hy hne q hq e => by have := HGE9.out y hy hne q hq; omega))
    have HQs := Lib.hid (hos.blk (HO.out.blk HQk.out HBQ.out) (by omega))
    have HUs := Lib.hid (show Up wa (y3.setCell ⟨p, 8, none⟩ (.slice B3 3 c3)) from Below.out HV9.out hos (fun q hq => by have := HPE.out; omega) HV9.out.size)
    have HSs := Lib.hid (show BS ≤ (y3.setCell ⟨p, 8, none⟩ (.slice B3 3 c3)).heap.size from Nat.le_trans HS9.out hos.size)
    have HX3 := HXs
    have HQ3 := HQs
    have HG3 := HGs
    have HU3 := HUs
    have HS3 := HSs
    have HE9 := Lib.hid (show List.map AvB.pure (L2' ++ [(⟨296, 0, true, false, some ⟨h3, 0, none⟩, realm.size, d3, strB realm⟩ : AvB)]) = (L2'.map AvB.pure) ++ [⟨296, 0, true, false, strB realm⟩] by rw [List.map_append]; rfl)
    rw [HE2.out] at HE9
    obtain ⟨L3', HL⟩ : ∃ L, Hid (L2' ++ [(⟨296, 0, true, false, some ⟨h3, 0, none⟩, realm.size, d3, strB realm⟩ : AvB)] = L) := ⟨_, Lib.hid rfl⟩
    rw [HL.out] at HG3 HGE9 HE9
    have HGE3 := HGE9
    have HE3 := HE9
    clear HXs HQs HGs HUs HSs hx9 z9 f9 hos zc hcv HL HGE9 HE9 HX2 HQ2 HG2 HU2 HS2 HIE HUE HUA HCL HGk HSz HXk HQk HBP HBQ HAV HG9 HV HV9 HS9 HW HO HB' HN
    generalize y3.setCell ⟨p, 8, none⟩ (.slice B3 3 c3) = w3 at HX3 HQ3 HG3 HU3 HS3 ⊢
    have zc : w3.cell? ⟨p, 8, none⟩ = some (.slice B3 3 c3) := cell_of HX3.out (j := 8) rfl
    have Hl3 := Lib.hid (H.out.up HU3.out)
    have HBP := Lib.hid (show ¬ (blk? B3 = some p) from fun e => by have := (HG3.out.lt e).1; omega)
    have HBQ := Lib.hid (show ¬ (blk? B3 = some (pb + 1)) from fun e => by have := (HG3.out.lt e).1; omega)
    have HLA := Lib.hid (show ∀ y ∈ l, y.bs ≠ [] → ∀ q, blk? y.A = some q → q < p from fun y hy hne q hq => by have := (H.out.av y hy).inb.lt hne hq; have := HPE.out; omega)
    have HAV := Lib.hid (show ∀ y ∈ l, AvIn w3 y ∧ Off B3 y from fun y hy => ⟨Hl3.out.av y hy, fun hne q hq e => by have h1 := HLA.out y hy hne q hq; have h2 := (HG3.out.lt e).1; omega⟩)
    have hln : l.length = n := H.out.len
    have HLN := Lib.hid hln
    clear hln
    go_upto_region 9 with (at_builtin; refine wpList_appendG rfl (.tmp 63) (.tmp 64) 23 rfl BS 56 (.agg #[.int .u32 0, .int .u32 0, .bool false, .bool false, .slice none 0 0]) 5 40 Try.underlying23 info38 rfl (by decide) B3 3 c3 (rowa L3') rfl HG3.out.row A n cap (rowa l) rfl (by rw [rowa_length, HLN.out]) Hl3.out.cells (rowa_one _) (by omega) (by omega) HS3.out ?_; intro B4 N4 c4 y4 HN HW HO HB'; have hx9 := HO.out.blk HX3.out HBP.out; have z9 := cell_of hx9 (j := 8) rfl; have f9 := frozen_at (j := 8) hx9)
    have HG9 := Lib.hid (HG3.out.pushes (ms := l) (m := n) HAV.out HLN.out HN.out HW.out HO.out HB'.out)
    have HV9 := Lib.hid (show Up wa y4 from Below.out HU3.out HO.out (fun q hq => by have h1 := (HG3.out.lt hq).1; have := HPE.out; omega) HU3.out.size)
    have HXs := Lib.hid (setCell_at (j := 8) (.slice B4 N4 c4) hx9)
    have hos := setCell_out y4 p 8 (.slice B4 N4 c4)
    obtain rfl : N4 = 3 + n := HN.out
    have HQ9 := Lib.hid (HO.out.blk HQ3.out HBQ.out)
    have HGs := Lib.hid (HG9.out.outS hos (fun q hq e => by have := (HG9.out.lt hq).1; omega) (fun y hy hne q hq e => by
      rcases List.mem_append.1 hy with hy | hy
      · have := HGE3.out y hy hne q hq; omega
      · have := HLA.out y hy hne q hq; omega))
    have HQs := Lib.hid (hos.blk HQ9.out (by omega))
    have HUs := Lib.hid (show Up wa (y4.setCell ⟨p, 8, none⟩ (.slice B4 (3 + n) c4)) from Below.out HV9.out hos (fun q hq => by have := HPE.out; omega) HV9.out.size)
    have HX := HXs
    have HQ := HQs
    have HG := HGs
    have HU4 := HUs
    clear HXs HQs HGs HUs hx9 z9 f9 hos zc HX3 HQ3 HG3 HU3 HG9 HV9 HQ9 HW HO HB' HN
    generalize y4.setCell ⟨p, 8, none⟩ (.slice B4 (3 + n) c4) = w4 at HX HQ HG HU4 ⊢
    have m0 : w4.cell? ⟨p, 0, none⟩ = some (.bool false) := cell_of HX.out (j := 0) rfl
    have m1 : w4.cell? ⟨p, 1, none⟩ = some (.bool X.prox) := cell_of HX.out (j := 1) rfl
    have m2 : w4.cell? ⟨p, 2, none⟩ = some (.bool F) := cell_of HX.out (j := 2) rfl
    have m3 : w4.cell? ⟨p, 3, none⟩ = some (.bool false) := cell_of HX.out (j := 3) rfl
    have m4 : w4.cell? ⟨p, 4, none⟩ = some (.int .u32 X.code) := cell_of HX.out (j := 4) rfl
    have m5 : w4.cell? ⟨p, 5, none⟩ = some (.int .u32 X.app) := cell_of HX.out (j := 5) rfl
    have m6 : w4.cell? ⟨p, 6, none⟩ = some (.int .u32 X.hop) := cell_of HX.out (j := 6) rfl
    have m7 : w4.cell? ⟨p, 7, none⟩ = some (.int .u32 X.end_) := cell_of HX.out (j := 7) rfl
    have m8 : w4.cell? ⟨p, 8, none⟩ = some (.slice B4 (3 + n) c4) := cell_of HX.out (j := 8) rfl
    go_wp2_with (with_reducible refine wpList_store_row rfl 25 _ _ rfl (pb + 1) #[.bool false, .bool X.prox, .bool F, .bool false, .int .u32 X.code, .int .u32 X.app, .int .u32 X.hop, .int .u32 X.end_, .slice B4 (3 + n) c4] rfl rfl 25 _ HQ.out (by kernel_rfl) rfl (by simp [Value.oneCell']) ?_)
    refine bodyPost_ret (results_cell_row (fn := Try.f24) (p := 10) (ty := 25) rfl _ _ (pb + 1) 25 _ (0, 0) _ rfl (setRow_heap _ _ _ _ _ _ HQ.out) Try.underlying25 rfl (by kernel_rfl)) rfl ?_
    have hos := setRow_out w4 (pb + 1) #[.bool false, .bool X.prox, .bool F, .bool false, .int .u32 X.code, .int .u32 X.app, .int .u32 X.hop, .int .u32 X.end_, .slice B4 (3 + n) c4]
    have hG9 := HG.out.outS hos (fun q hq e => by have := (HG.out.lt hq).1; omega) (fun y hy hne q hq e => by
      rcases List.mem_append.1 hy with hy | hy
      · have := HGE3.out y hy hne q hq; omega
      · have := HW0.out y hy hne q hq; have := HPB.out; omega)
    have hUw : Up w w4 := HU.out.trans HU4.out
    refine ⟨⟨false, X.prox, F, false, X.code, X.app, X.hop, X.end_, B4, 3 + n, c4, L3' ++ l⟩, rfl, Lib.hid ?_, Lib.hid hG9.inL, Lib.hid (by show 3 + n ≤ 103; omega), Lib.hid (below_setRow hUw (by have := HPB.out; omega) _)⟩
    show (⟨false, X.prox, F, false, X.code, X.app, X.hop, X.end_, (L3' ++ l).map AvB.pure⟩ : Msg) = _
    rw [List.map_append, HE3.out, ← HF.out, ← HV.out]
    rfl
end Go.Proofs.Ythncpkjnalmpkaa
