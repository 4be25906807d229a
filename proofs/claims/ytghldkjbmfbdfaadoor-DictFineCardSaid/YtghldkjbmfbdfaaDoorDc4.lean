import Derived.Test.YtghldkjbmfbdfaaDoorDc3
import Derived.Test.YtghldkjbmfbdfaaDoorVa
namespace Go.Proofs.YtghldkjbmfbdfaaDoor
open Go Go.RowKit Dc
set_option linter.unusedVariables false
set_option linter.unusedSimpArgs false
/-! One attribute against the rules. -/
def prc (x : Int) : Int := if x = 0 then 2001 else x
theorem prc_ne {x : Int} (h : x ≠ 0) : prc x = x := if_neg h
set_option maxRecDepth 100000 in
set_option maxHeartbeats 1000000 in
theorem ofValue_any (k : Int) (A : Option Addr) (m c : Nat) (xs : List Int) (w : World) (hin : InB w A m c xs) (hT : Tab w) (hm : m ≤ 140737488355328) : Calls Tryd.prog 44 #[.int .i64 k, .slice A m c] w fun e w' => e = .returned (.int .i64 (prc (valF k xs))) ∧ Up w w' := by
  have H := Lib.hid hin
  have HT := Lib.hid hT
  have HV : Hid (prc (valF k xs) = if fitsR k xs = 0 then 2001 else if fitsR k xs = 3 then 5014 else 5004) := Lib.hid (by unfold valF; split <;> (try split) <;> rfl)
  clear hin hT
  go_enter Tryd.func44, Tryd.ntmps44
  go_wp2_with fail
  refine (fits_any valid_ok k A m c xs _ H.out HT.out hm).mono ?_
  rintro e w1 ⟨rfl, hu⟩
  have HU := Lib.hid hu
  clear hu
  generalize fitsR k xs = N at HV ⊢
  by_cases h0 : N = 0
  · subst h0
    go_wp2_with fail
    go_ret
    exact ⟨by rw [HV.out]; rfl, HU.out⟩
  · have e0 : (N == 0) = false := by rw [beq_eq_false_iff_ne]; exact h0
    rw [if_neg h0] at HV
    by_cases h3 : N = 3
    · subst h3
      go_wp2_with fail
      go_ret
      exact ⟨by rw [HV.out]; rfl, HU.out⟩
    · have e3 : (N == 3) = false := by rw [beq_eq_false_iff_ne]; exact h3
      rw [if_neg h3] at HV
      go_wp2_with fail
      go_ret
      exact ⟨by rw [HV.out]; rfl, HU.out⟩
def exF (rs : List Ru) (F : Nm → Int) (a : Av.Avp) : Int := match find rs (nmA a) with
  | none => if a.must then 5001 else 0
  | some r => if r.most = 0 then 5008 else if r.most < F (nmA a) + 1 then 5009 else valF r.type a.bs
def exU (rs : List Ru) (F : Nm → Int) (a : Av.Avp) : Nm → Int := match find rs (nmA a) with
  | none => F
  | some _ => updF F (nmA a) (F (nmA a) + 1)
theorem plc_find {rs : List Ru} {n : Nm} : (plc rs n = none ∧ find rs n = none) ∨ ∃ i r, plc rs n = some i ∧ rs[i]? = some r ∧ find rs n = some r := by
  cases h : plc rs n with
  | none =>
    refine .inl ⟨rfl, ?_⟩
    unfold plc at h
    rw [List.findIdx?_eq_none_iff] at h
    refine find_none fun i r hi e => ?_
    have := h r (List.mem_of_getElem? hi)
    simp [e] at this
  | some i =>
    refine .inr ?_
    unfold plc at h
    rw [List.findIdx?_eq_some_iff_getElem] at h
    obtain ⟨h1, h2, h3⟩ := h
    refine ⟨i, rs[i], rfl, List.getElem?_eq_getElem h1, find_some (List.getElem?_eq_getElem h1) (by simpa using h2) fun j q hj hq => ?_⟩
    obtain ⟨hj2, rfl⟩ := List.getElem?_eq_some_iff.1 hq
    simpa using h3 j hj
theorem exF_none {rs : List Ru} {F : Nm → Int} {a : Av.Avp} (h : find rs (nmA a) = none) : exF rs F a = (if a.must then 5001 else 0) ∧ exU rs F a = F := by unfold exF exU; rw [h]; exact ⟨rfl, rfl⟩
theorem exF_some {rs : List Ru} {F : Nm → Int} {a : Av.Avp} {r : Ru} (h : find rs (nmA a) = some r) : exF rs F a = (if r.most = 0 then 5008 else if r.most < F (nmA a) + 1 then 5009 else valF r.type a.bs) ∧ exU rs F a = updF F (nmA a) (F (nmA a) + 1) := by unfold exF exU; rw [h]; exact ⟨rfl, rfl⟩
theorem grda3 (x y : Operand) (a b : Int) (w : World) : (eqGuard .add 3 x y (.int .i64 a) (.int .i64 b)).run Tryd.prog w = .ok () w := by kernel_rfl
theorem run_inc3 (a : Int) (h : 0 ≤ a ∧ a ≤ 140737488351232) (w : World) : (binOp .add 3 (.int .i64 a) (.int .i64 1)).run Tryd.prog w = .ok (.int .i64 (a + 1)) w := by
  simp [go_sem, IntKind.wrap, IntKind.bits, IntKind.signed]; omega
theorem run_gt3 {a b : Int} {t : Bool} (h : decide (b < a) = t) (w : World) : (binOp .gtr 3 (.int .i64 a) (.int .i64 b)).run Tryd.prog w = .ok (.bool t) w := by
  subst h; simp [go_sem]
theorem fld405 (g : Nat) (w : World) : (Instr.fieldAt 40 (.pointer (some ⟨g, 0, none⟩)) 5).run Tryd.prog w = .ok (.pointer (some ⟨g, 5, none⟩)) w := by kernel_rfl
theorem agg3 (w : World) : (isAgg 3).run Tryd.prog w = .ok false w := by kernel_rfl
theorem x_lookup {P : Program} {o : Oper} {a : Act} {w : World} (t : TypeId) (x y : Operand) {X Y v : Value} (ho : o.op = .lookup t x y false) (hx : a.eval x = X) (hy : a.eval y = Y) (hr : (Instr.lookup t X Y false).run P w = .ok v w) : (execOp a.eval o).run P w = .ok (.value v) w := by simp [execOp, ho, hx, hy, hr, Result.andThen]
theorem MapC.of {w : World} {m : Nat} {es : Array MapEntry} {c : Nat} {F : Nm → Int} (h : w.heap[m]? = some (.map es c)) (he : MapE es c F) : MapC w m F := ⟨es, c, h, he⟩
def avO (x : AvB) : Obj := .cells #[.int .u32 x.code, .int .u32 x.vendor, .bool x.must, .bool x.prot, .slice x.A x.n x.c] 38
theorem nm_ok {w : World} {x : AvB} (h : AvIn w x) : NmOk (nmA x.pure) := ⟨h.ok.code, h.ok.vendor⟩
set_option maxRecDepth 100000 in
set_option maxHeartbeats 4000000 in
theorem exam_any (A : Option Addr) (m c : Nat) (rs : List Ru) (x : AvB) (mb : Nat) (F : Nm → Int) (w0 w : World) (h : InR w0 A m c rs) (hx : AvIn w0 x) (hT : Tab w0) (hU : Up w0 w) (hm : m ≤ 140737488351232) (hmap : MapC w mb F) (hb : w0.heap.size ≤ mb) (hF : 0 ≤ F (nmA x.pure) ∧ F (nmA x.pure) ≤ 140737488351232) :
    Calls Tryd.prog 29 #[.slice A m c, .map (some mb), avV x] w fun e w' => e = .returned (.int .i64 (prc (exF rs F x.pure))) ∧ MapC w' mb (exU rs F x.pure) ∧ Up w0 w' ∧ Out (fun q => q = mb) w w' := by
  have H := Lib.hid h
  have HX := Lib.hid hx
  have HT := Lib.hid hT
  have HL := Lib.hid h.len
  have hcap := h.cap
  have HF := Lib.hid hF
  have HOk := Lib.hid (nm_ok hx)
  have HMB := Lib.hid hb
  have HU0 := Lib.hid (hU.trans (up_alloc w (avO x)))
  have HXa := Lib.hid (new_at w (avO x))
  have HW0 := Lib.hid (up_alloc w (avO x))
  have HMa := Lib.hid (hmap.up (up_alloc w (avO x)))
  have HZ := Lib.hid (show (w.alloc (avO x)).heap.size = w.heap.size + 1 from Array.size_push ..)
  have HQm := Lib.hid hmap.lt
  clear h hx hT hU hmap hF hb
  unfold avV
  go_enter Tryd.func29, Tryd.ntmps29
  go_upto_region 1 with (fail)
  change Code.wp _ _ _ _ (w.alloc (avO x))
  generalize w.alloc (avO x) = wa at HU0 HXa HMa HZ HW0 ⊢
  have z0 := cell_of HXa.out (j := 0) rfl
  have z1 := cell_of HXa.out (j := 1) rfl
  have HNb := Lib.hid (new_at wa (nmC (nmA x.pure)))
  have HUb := Lib.hid (up_alloc wa (nmC (nmA x.pure)))
  rw [HZ.out] at HNb
  go_upto_region 2 with (fail)
  change Code.wp _ _ _ _ (wa.alloc (nmC (nmA x.pure)))
  generalize wa.alloc (nmC (nmA x.pure)) = wb at HNb HUb ⊢
  simp only [HZ.out]
  have hqn : ¬ (w.heap.size + 1 = mb) := by have := HQm.out; omega
  have hqx : ¬ (w.heap.size = mb) := by have := HQm.out; omega
  generalize w.heap.size + 1 = qn at HNb hqn ⊢
  generalize w.heap.size = qx at HXa hqx ⊢
  have HU1 := Lib.hid (HU0.out.trans HUb.out)
  have HW1 := Lib.hid (Up.trans HW0.out HUb.out)
  have HXb := Lib.hid (blk_up HXa.out HUb.out)
  have HMb := Lib.hid (HMa.out.up HUb.out)
  clear z0 z1 HU0 HXa HMa HUb HQm HZ
  have y0 := cell_of HNb.out (j := 0) rfl
  have y1 := cell_of HNb.out (j := 1) rfl
  go_wp2_with fail
  refine (place_any A m c rs (nmA x.pure) wb (H.out.up HU1.out) hm).mono ?_
  rintro e wc ⟨rfl, hu⟩
  have HUc := Lib.hid (HU1.out.trans hu)
  have HWc := Lib.hid (show Out (fun q => q = mb) w wc from Up.out (Up.trans HW1.out hu) _)
  have HXc := Lib.hid (blk_up HXb.out hu)
  have HNc := Lib.hid (blk_up HNb.out hu)
  have HMc := Lib.hid (HMb.out.up hu)
  clear hu y0 y1 HXb HNb HMb HU1
  rcases plc_find (rs := rs) (n := nmA x.pure) with ⟨hp, hf⟩ | ⟨i, r, hp, hi, hf⟩
  · obtain ⟨e1, e2⟩ := exF_none (F := F) hf
    rw [hp]
    have HEU := Lib.hid e2
    have HE := Lib.hid e1
    clear hp hf e1 e2
    have d1 : decide (idxI none < 0) = true := rfl
    generalize idxI none = z at d1 ⊢
    have x2 : wc.cell? ⟨qx, 2, none⟩ = some (.bool x.must) := cell_of HXc.out (j := 2) rfl
    have HE2 := Lib.hid (show exF rs F x.pure = if x.must = true then 5001 else 0 from HE.out)
    cases hmu : x.must
    · rw [hmu] at x2 HE2
      go_wp2_with fail
      go_ret
      exact ⟨by rw [HE2.out]; rfl, by rw [HEU.out]; exact HMc.out, HUc.out, HWc.out⟩
    · rw [hmu] at x2 HE2
      go_wp2_with fail
      go_ret
      exact ⟨by rw [HE2.out]; rfl, by rw [HEU.out]; exact HMc.out, HUc.out, HWc.out⟩
  · obtain ⟨e1, e2⟩ := exF_some (F := F) hf
    rw [hp]
    have HEU := Lib.hid e2
    have HE := Lib.hid e1
    have HR := Lib.hid hi
    have hil : i < m := by have := (List.getElem?_eq_some_iff.1 hi).1; rw [HL.out] at this; exact this
    clear hp hf e1 e2 hi
    have d1 : decide (idxI (some i) < 0) = false := decide_eq_false (by simp [idxI])
    have hz : idxI (some i) = (i : Int) := rfl
    generalize idxI (some i) = z at d1 hz ⊢
    subst hz
    go_upto_region 7 with (fail)
    obtain ⟨es, cl, hes, hE⟩ := HMc.out
    obtain ⟨v0, st, es1, c1, hen, hE1, hst⟩ := entryC hE HOk.out mb
    obtain ⟨es2, hE2, hst2⟩ := hst (F (nmA x.pure) + 1)
    have HEN := Lib.hid hen
    have HST := Lib.hid hst2
    have HE0 := Lib.hid hE
    have HE1 := Lib.hid hE1
    have HE2 := Lib.hid hE2
    have HES := Lib.hid hes
    clear hen hst hst2 hE hE1 hE2 hes
    generalize hn : nmA x.pure = nn at HOk HNc HEN HE2 HF HE HEU HST ⊢
    generalize hcn : F nn = cn at HF HE HE2 HST HEU ⊢
    have HCN := Lib.hid hcn
    clear hcn
    have HK : ∀ φ ∈ [Is (.map (some mb)), Is (nmV nn), Is (.int .i64 cn), Is (.int .i64 (cn + 1)), Is (.tuple #[v0, goInt st]), Is (goInt st)], Free φ := by
      simp [free_is]
    refine staged_last (l := [_, _, _, _, _, _]) (by kernel_rfl) (facts [Is (.map (some mb)), Is (nmV nn), Is (.int .i64 cn), Is (.int .i64 (cn + 1)), Is (.tuple #[v0, goInt st]), Is (goInt st)]) (Stg [4] (fun k y => Out (fun q => q = mb) wc y ∧ y.heap[mb]? = some (if k = 0 then .map es cl else .map es1 c1))) 52 rfl (by decide +kernel) (by decide +kernel) (by decide +kernel) rfl (Stg.start ⟨⟨rfl, rfl, rfl, Nat.le_refl _, fun _ _ _ => rfl⟩, HES.out⟩) ?_ ?_
    · refine ⟨?_, ?_, ?_, ?_, ?_, ?_, trivial⟩
      · refine opS_same rfl rfl fun Lx ac w1 hJ hl hc ho hd => ?_
        have s1 : ac.eval (.tmp 1) = .map (some mb) := ho 1 rfl
        exact ⟨_, x_move (.tmp 1) rfl s1, rfl⟩
      · refine opS_same rfl rfl fun Lx ac w1 hJ hl hc ho hd => ?_
        have s7 : ac.eval (.tmp 7) = .pointer (some ⟨qn, 0, none⟩) := ho 7 rfl
        obtain ⟨kq, _, hO, hM⟩ := hJ
        exact ⟨_, x_load 54 (.tmp 7) rfl s7 (load54 (hO.blk HNc.out hqn)), rfl⟩
      · refine opS_same rfl rfl fun Lx ac w1 hJ hl hc ho hd => ?_
        have d0 : ac.eval (.tmp 26) = .map (some mb) := hd 0 _ _ rfl rfl rfl
        have d1 : ac.eval (.tmp 27) = nmV nn := hd 1 _ _ rfl rfl rfl
        obtain ⟨kq, _, hO, hM⟩ := hJ
        refine ⟨_, x_lookup 50 (.tmp 26) (.tmp 27) rfl d0 d1 ?_, rfl⟩
        rw [← HCN.out]
        by_cases hk : kq = 0
        · rw [if_pos hk] at hM; exact run_lookC (MapC.of hM HE0.out) HOk.out
        · rw [if_neg hk] at hM; exact run_lookC (MapC.of hM HE1.out) HOk.out
      · refine opS_same rfl rfl fun Lx ac w1 hJ hl hc ho hd => ?_
        have d2 : ac.eval (.tmp 28) = .int .i64 cn := hd 2 _ _ rfl rfl rfl
        exact ⟨_, x_bin .add 3 3 (.tmp 28) (.const (.int .i64 1)) rfl d2 rfl (grda3 _ _ _ _ _) (run_inc3 _ HF.out _), rfl⟩
      · refine opS_writeV (j := 0) rfl (by decide) rfl (fun y hy h0 => absurd h0 (by decide)) fun ac w1 hW ho hd => ?_
        have d0 : ac.eval (.tmp 26) = .map (some mb) := hd 0 _ _ rfl rfl rfl
        have d1 : ac.eval (.tmp 27) = nmV nn := hd 1 _ _ rfl rfl rfl
        obtain ⟨hO, hM⟩ := hW
        rw [if_pos rfl] at hM
        exact ⟨_, _, x_entry 50 (.tmp 26) (.tmp 27) rfl d0 d1 (HEN.out w1 hM), ⟨hO.trans (setBl_out w1 mb _) (Sub.refl _ _), setBl_at _ (lt_of_blk hM)⟩, rfl, fun j y _ hf => facts_free HK j y hf⟩
      · refine opS_same rfl rfl fun Lx ac w1 hJ hl hc ho hd => ?_
        have d4 : ac.eval (.tmp 30) = .tuple #[v0, goInt st] := hd 4 _ _ rfl rfl rfl
        exact ⟨_, x_extract (.tmp 30) 1 rfl d4 rfl, rfl⟩
    · intro L1 a1 wd hI hall
      obtain ⟨kq, hk, hO, hM⟩ := hI.world
      have hk1 := (hk 0 4 rfl).1 (hall 4 (by decide))
      rw [if_neg (by omega)] at hM
      have l26 : a1.tmps.getD 26 undef = .map (some mb) := hI.facts 0 _ 26 rfl (hall 0 (by decide)) rfl
      have l29 : a1.tmps.getD 29 undef = .int .i64 (cn + 1) := hI.facts 3 _ 29 rfl (hall 3 (by decide)) rfl
      have l31 : a1.tmps.getD 31 undef = goInt st := hI.facts 5 _ 31 rfl (hall 5 (by decide)) rfl
      have hr := HST.out wd hM
      unfold Oper.wp
      rw [x_estore 50 (.tmp 26) (.tmp 31) (.tmp 29) rfl l26 l31 l29 hr]
      have HO1 := Lib.hid (hO.trans (setBl_out wd mb (.map es2 c1)) (Sub.refl _ _))
      have HM1 := Lib.hid (MapC.of (setBl_at (w := wd) (.map es2 c1) (lt_of_blk hM)) HE2.out)
      clear hr hM hO hk hk1 l26 l29 l31
      have l0 : a1.tmps.getD 0 undef = .slice A m c := hI.old 0 rfl
      have l1 : a1.tmps.getD 1 undef = .map (some mb) := hI.old 1 rfl
      have l5 : a1.tmps.getD 5 undef = .pointer (some ⟨qx, 0, none⟩) := hI.old 5 rfl
      have l6 : a1.tmps.getD 6 undef = .int .i64 0 := hI.old 6 rfl
      have l7 : a1.tmps.getD 7 undef = .pointer (some ⟨qn, 0, none⟩) := hI.old 7 rfl
      have l8 : a1.tmps.getD 8 undef = .int .i64 (i : Int) := hI.old 8 rfl
      have hde : a1.defers = [] := hI.defers
      have hal := act_lit a1 52 hI.size
      clear hI
      simp only [List.range, List.range.loop, List.map_cons, List.map_nil] at hal
      rw [l0, l1, l5, l6, l7, l8, hde] at hal
      generalize a1.tmps.getD 2 undef = t2 at hal
      generalize a1.tmps.getD 3 undef = t3 at hal
      generalize a1.tmps.getD 4 undef = t4 at hal
      generalize a1.tmps.getD 9 undef = t9 at hal
      generalize a1.tmps.getD 10 undef = t10 at hal
      generalize a1.tmps.getD 11 undef = t11 at hal
      generalize a1.tmps.getD 12 undef = t12 at hal
      generalize a1.tmps.getD 13 undef = t13 at hal
      generalize a1.tmps.getD 14 undef = t14 at hal
      generalize a1.tmps.getD 15 undef = t15 at hal
      generalize a1.tmps.getD 16 undef = t16 at hal
      generalize a1.tmps.getD 17 undef = t17 at hal
      generalize a1.tmps.getD 18 undef = t18 at hal
      generalize a1.tmps.getD 19 undef = t19 at hal
      generalize a1.tmps.getD 20 undef = t20 at hal
      generalize a1.tmps.getD 21 undef = t21 at hal
      generalize a1.tmps.getD 22 undef = t22 at hal
      generalize a1.tmps.getD 23 undef = t23 at hal
      generalize a1.tmps.getD 24 undef = t24 at hal
      generalize a1.tmps.getD 25 undef = t25 at hal
      generalize a1.tmps.getD 26 undef = t26 at hal
      generalize a1.tmps.getD 27 undef = t27 at hal
      generalize a1.tmps.getD 28 undef = t28 at hal
      generalize a1.tmps.getD 29 undef = t29 at hal
      generalize a1.tmps.getD 30 undef = t30 at hal
      generalize a1.tmps.getD 31 undef = t31 at hal
      generalize a1.tmps.getD 32 undef = t32 at hal
      generalize a1.tmps.getD 33 undef = t33 at hal
      generalize a1.tmps.getD 34 undef = t34 at hal
      generalize a1.tmps.getD 35 undef = t35 at hal
      generalize a1.tmps.getD 36 undef = t36 at hal
      generalize a1.tmps.getD 37 undef = t37 at hal
      generalize a1.tmps.getD 38 undef = t38 at hal
      generalize a1.tmps.getD 39 undef = t39 at hal
      generalize a1.tmps.getD 40 undef = t40 at hal
      generalize a1.tmps.getD 41 undef = t41 at hal
      generalize a1.tmps.getD 42 undef = t42 at hal
      generalize a1.tmps.getD 43 undef = t43 at hal
      generalize a1.tmps.getD 44 undef = t44 at hal
      generalize a1.tmps.getD 45 undef = t45 at hal
      generalize a1.tmps.getD 46 undef = t46 at hal
      generalize a1.tmps.getD 47 undef = t47 at hal
      generalize a1.tmps.getD 48 undef = t48 at hal
      generalize a1.tmps.getD 49 undef = t49 at hal
      generalize a1.tmps.getD 50 undef = t50 at hal
      generalize a1.tmps.getD 51 undef = t51 at hal
      clear l0 l1 l5 l6 l7 l8 hde
      subst hal
      simp only [Oper.upon, Act.put]
      generalize setBl wd mb (.map es2 c1) = we at HO1 HM1 ⊢
      have HUe := Lib.hid (show Up w0 we from Below.out HUc.out HO1.out (fun q hq => by rw [hq]; exact HMB.out) HUc.out.size)
      have HXe := Lib.hid (HO1.out.blk HXc.out hqx)
      have HWe := Lib.hid (HWc.out.trans HO1.out (Sub.refl _ _))
      have HNe := Lib.hid (HO1.out.blk HNc.out hqn)
      clear HO1 HXc HNc HMc HUc HEN HST HE0 HE1 HE2 HES HK hall
      obtain ⟨r', g, o, hr', rfl, ⟨k0, k1, k2, k3, k4, k5⟩, -⟩ := (H.out.up HUe.out).at_ hil
      obtain rfl : r = r' := by have := HR.out.symm.trans hr'; simpa using this
      clear hr'
      have HRa := Lib.hid (new_at we (ruC r))
      have HUr := Lib.hid (up_alloc we (ruC r))
      go_upto_region 10 with (fail)
      change Code.wp _ _ _ _ (we.alloc (ruC r))
      generalize we.alloc (ruC r) = wf at HRa HUr ⊢
      generalize we.heap.size = qr at HRa ⊢
      have HUf := Lib.hid (HUe.out.trans HUr.out)
      have HWf := Lib.hid (HWe.out.trans (Up.out HUr.out _) (Sub.refl _ _))
      have HXf := Lib.hid (blk_up HXe.out HUr.out)
      have HNf := Lib.hid (blk_up HNe.out HUr.out)
      have HMf := Lib.hid (HM1.out.up HUr.out)
      clear k0 k1 k2 k3 k4 k5 HXe HNe HM1 HUr HUe
      have r5 : wf.cell? ⟨qr, 5, none⟩ = some (.int .i64 r.most) := cell_of HRa.out (j := 5) rfl
      by_cases h0 : r.most = 0
      · rw [if_pos h0] at HE
        rw [h0] at r5
        go_wp2_with fail
        go_ret
        exact ⟨by rw [HE.out]; rfl, by rw [HEU.out]; exact HMf.out, HUf.out, HWf.out⟩
      · have d0 : (r.most == 0) = false := by rw [beq_eq_false_iff_ne]; exact h0
        rw [if_neg h0] at HE
        go_upto_region 12 with (fail)
        obtain ⟨t, ht⟩ : ∃ t : Bool, decide (r.most < cn + 1) = t := ⟨_, rfl⟩
        have HTt := Lib.hid ht
        clear ht r5
        have HK : ∀ φ ∈ [Is (.map (some mb)), Is (nmV nn), Is (.int .i64 (cn + 1)), Is (.pointer (some ⟨qr, 5, none⟩)), Is (.int .i64 r.most), Is (.bool t), Is (.bool t)], Keeps φ := by
          simp [keeps_is]
        refine staged_lit (by kernel_rfl) (facts [Is (.map (some mb)), Is (nmV nn), Is (.int .i64 (cn + 1)), Is (.pointer (some ⟨qr, 5, none⟩)), Is (.int .i64 r.most), Is (.bool t), Is (.bool t)]) (Stg [] (fun _ x => Up wf x)) 52 rfl (by decide +kernel) (by decide +kernel) (Stg.start (Up.drew wf)) ?_ ?_
        · refine ⟨?_, ?_, ?_, ?_, ?_, ?_, ?_, trivial⟩
          · refine opS_same rfl rfl fun Lx ac w1 hJ hl hc ho hd => ?_
            have s1 : ac.eval (.tmp 1) = .map (some mb) := ho 1 rfl
            exact ⟨_, x_move (.tmp 1) rfl s1, rfl⟩
          · refine opS_same rfl rfl fun Lx ac w1 hJ hl hc ho hd => ?_
            have s7 : ac.eval (.tmp 7) = .pointer (some ⟨qn, 0, none⟩) := ho 7 rfl
            obtain ⟨_, _, hU⟩ := hJ
            exact ⟨_, x_load 54 _ rfl s7 (load54 (blk_up HNf.out hU)), rfl⟩
          · refine opS_same rfl rfl fun Lx ac w1 hJ hl hc ho hd => ?_
            have d0 : ac.eval (.tmp 46) = .map (some mb) := hd 0 _ _ rfl rfl rfl
            have d1 : ac.eval (.tmp 47) = nmV nn := hd 1 _ _ rfl rfl rfl
            obtain ⟨_, _, hU⟩ := hJ
            refine ⟨_, x_lookup 50 (.tmp 46) (.tmp 47) rfl d0 d1 ?_, rfl⟩
            have := run_lookC (HMf.out.up hU) HOk.out
            rw [this]
            simp [updF]
          · refine opS_same rfl rfl fun Lx ac w1 hJ hl hc ho hd => ?_
            have s9 : ac.eval (.tmp 9) = .pointer (some ⟨qr, 0, none⟩) := ho 9 rfl
            exact ⟨_, x_field 40 (.tmp 9) 5 rfl s9 (fld405 _ _), rfl⟩
          · refine opS_same rfl rfl fun Lx ac w1 hJ hl hc ho hd => ?_
            have d3 : ac.eval (.tmp 49) = .pointer (some ⟨qr, 5, none⟩) := hd 3 _ _ rfl rfl rfl
            obtain ⟨_, _, hU⟩ := hJ
            exact ⟨_, x_load 3 (.tmp 49) rfl d3 (run_load1 agg3 (cell_up (cell_of HRa.out (j := 5) rfl) hU)), rfl⟩
          · refine opS_same rfl rfl fun Lx ac w1 hJ hl hc ho hd => ?_
            have d2 : ac.eval (.tmp 48) = .int .i64 (cn + 1) := hd 2 _ _ rfl rfl rfl
            have d4 : ac.eval (.tmp 50) = .int .i64 r.most := hd 4 _ _ rfl rfl rfl
            exact ⟨_, x_bin .gtr 3 3 (.tmp 48) (.tmp 50) rfl d2 d4 (by kernel_rfl) (run_gt3 HTt.out _), rfl⟩
          · refine opS_same rfl rfl fun Lx ac w1 hJ hl hc ho hd => ?_
            have d5 : ac.eval (.tmp 51) = .bool t := hd 5 _ _ rfl rfl rfl
            exact ⟨_, x_assign (.tmp 51) rfl d5, rfl⟩
        · intro L1 a1 w9 hI hall
          obtain ⟨kq, hk, hUF⟩ := hI.done hall (by simp)
          have HUn := Lib.hid (show Up wf w9 from hUF)
          clear hk hUF kq
          have l0 : a1.tmps.getD 0 undef = .slice (some ⟨g, o, none⟩) m c := hI.old 0 rfl
          have l1 : a1.tmps.getD 1 undef = .map (some mb) := hI.old 1 rfl
          have l5 : a1.tmps.getD 5 undef = .pointer (some ⟨qx, 0, none⟩) := hI.old 5 rfl
          have l6 : a1.tmps.getD 6 undef = .int .i64 0 := hI.old 6 rfl
          have l7 : a1.tmps.getD 7 undef = .pointer (some ⟨qn, 0, none⟩) := hI.old 7 rfl
          have l8 : a1.tmps.getD 8 undef = .int .i64 (i : Int) := hI.old 8 rfl
          have l9 : a1.tmps.getD 9 undef = .pointer (some ⟨qr, 0, none⟩) := hI.old 9 rfl
          have l45 : a1.tmps.getD 45 undef = .bool t := hI.get hall (i := 6) rfl rfl
          have hde : a1.defers = [] := hI.defers
          have hal := act_lit a1 52 hI.size
          clear hI
          simp only [List.range, List.range.loop, List.map_cons, List.map_nil] at hal
          rw [l0, l1, l5, l6, l7, l8, l9, l45, hde] at hal
          generalize a1.tmps.getD 2 undef = t2 at hal
          generalize a1.tmps.getD 3 undef = t3 at hal
          generalize a1.tmps.getD 4 undef = t4 at hal
          generalize a1.tmps.getD 10 undef = t10 at hal
          generalize a1.tmps.getD 11 undef = t11 at hal
          generalize a1.tmps.getD 12 undef = t12 at hal
          generalize a1.tmps.getD 13 undef = t13 at hal
          generalize a1.tmps.getD 14 undef = t14 at hal
          generalize a1.tmps.getD 15 undef = t15 at hal
          generalize a1.tmps.getD 16 undef = t16 at hal
          generalize a1.tmps.getD 17 undef = t17 at hal
          generalize a1.tmps.getD 18 undef = t18 at hal
          generalize a1.tmps.getD 19 undef = t19 at hal
          generalize a1.tmps.getD 20 undef = t20 at hal
          generalize a1.tmps.getD 21 undef = t21 at hal
          generalize a1.tmps.getD 22 undef = t22 at hal
          generalize a1.tmps.getD 23 undef = t23 at hal
          generalize a1.tmps.getD 24 undef = t24 at hal
          generalize a1.tmps.getD 25 undef = t25 at hal
          generalize a1.tmps.getD 26 undef = t26 at hal
          generalize a1.tmps.getD 27 undef = t27 at hal
          generalize a1.tmps.getD 28 undef = t28 at hal
          generalize a1.tmps.getD 29 undef = t29 at hal
          generalize a1.tmps.getD 30 undef = t30 at hal
          generalize a1.tmps.getD 31 undef = t31 at hal
          generalize a1.tmps.getD 32 undef = t32 at hal
          generalize a1.tmps.getD 33 undef = t33 at hal
          generalize a1.tmps.getD 34 undef = t34 at hal
          generalize a1.tmps.getD 35 undef = t35 at hal
          generalize a1.tmps.getD 36 undef = t36 at hal
          generalize a1.tmps.getD 37 undef = t37 at hal
          generalize a1.tmps.getD 38 undef = t38 at hal
          generalize a1.tmps.getD 39 undef = t39 at hal
          generalize a1.tmps.getD 40 undef = t40 at hal
          generalize a1.tmps.getD 41 undef = t41 at hal
          generalize a1.tmps.getD 42 undef = t42 at hal
          generalize a1.tmps.getD 43 undef = t43 at hal
          generalize a1.tmps.getD 44 undef = t44 at hal
          generalize a1.tmps.getD 46 undef = t46 at hal
          generalize a1.tmps.getD 47 undef = t47 at hal
          generalize a1.tmps.getD 48 undef = t48 at hal
          generalize a1.tmps.getD 49 undef = t49 at hal
          generalize a1.tmps.getD 50 undef = t50 at hal
          generalize a1.tmps.getD 51 undef = t51 at hal
          clear l0 l1 l5 l6 l7 l8 l9 l45 hde
          subst hal
          have HXg := Lib.hid (blk_up HXf.out HUn.out)
          have HRg := Lib.hid (blk_up HRa.out HUn.out)
          have HMg := Lib.hid (HMf.out.up HUn.out)
          have HUg := Lib.hid (HUf.out.trans HUn.out)
          have HWg := Lib.hid (HWf.out.trans (Up.out HUn.out _) (Sub.refl _ _))
          clear HXf HRa HMf HUf HUn
          cases t
          · have HT2 := of_decide_eq_false HTt.out
            rw [if_neg HT2] at HE
            have HIx := Lib.hid (HX.out.inb.up HUg.out)
            have r2 : w9.cell? ⟨qr, 2, none⟩ = some (.int .i64 r.type) := cell_of HRg.out (j := 2) rfl
            have x4 : w9.cell? ⟨qx, 4, none⟩ = some (.slice x.A x.n x.c) := cell_of HXg.out (j := 4) rfl
            have HXn := Lib.hid HX.out.n
            have HTg := Lib.hid (HT.out.up HUg.out)
            clear HT2
            go_wp2_with fail
            refine (ofValue_any r.type x.A x.n x.c x.bs w9 HIx.out HTg.out (by have := HXn.out; omega)).mono ?_
            rintro e wz ⟨rfl, hu⟩
            have HUz := Lib.hid (HUg.out.trans hu)
            have HWz := Lib.hid (HWg.out.trans (Up.out hu _) (Sub.refl _ _))
            have HMz := Lib.hid (HMg.out.up hu)
            clear hu
            go_wp2_with fail
            go_ret
            exact ⟨by rw [HE.out]; rfl, by rw [HEU.out]; exact HMz.out, HUz.out, HWz.out⟩
          · have HT2 := of_decide_eq_true HTt.out
            rw [if_pos HT2] at HE
            clear HT2
            go_wp2_with fail
            go_ret
            exact ⟨by rw [HE.out]; rfl, by rw [HEU.out]; exact HMg.out, HUg.out, HWg.out⟩
end Go.Proofs.YtghldkjbmfbdfaaDoor
