import Derived.Test.YtghldkjbmfbdfaaDoorDc5
namespace Go.Proofs.YtghldkjbmfbdfaaDoor
open Go Go.RowKit Dc
set_option linter.unusedVariables false
set_option linter.unusedSimpArgs false
/-! Judge. -/
def cntF (rs : List Ru) (l : List Av.Avp) : Nm → Int := fun n => if (find rs n).isSome then (cnt n l : Int) else 0
theorem exF_fault {rs : List Ru} {l : List Av.Avp} {a : Av.Avp} : exF rs (cntF rs l) a = fault rs l a := by
  unfold exF fault
  cases h : find rs (nmA a) with
  | none => rfl
  | some r => simp only [cntF, h, Option.isSome_some, if_true]
theorem exU_cnt {rs : List Ru} {l : List Av.Avp} {a : Av.Avp} : exU rs (cntF rs l) a = cntF rs (l ++ [a]) := by
  cases h : find rs (nmA a) with
  | none =>
    rw [(exF_none h).2]
    funext n
    unfold cntF
    rw [cnt_snoc]
    by_cases hn : nmA a = n
    · rw [← hn, h]; simp
    · rw [if_neg hn, Nat.add_zero]
  | some r =>
    rw [(exF_some h).2]
    funext n
    by_cases hn : n = nmA a
    · subst hn
      simp only [updF, if_true]
      unfold cntF
      rw [h, cnt_snoc]
      simp
    · simp only [updF, if_neg hn]
      unfold cntF
      rw [cnt_snoc, if_neg (show ¬ nmA a = n from fun e => hn e.symm), Nat.add_zero]
theorem fault_vals (rs : List Ru) (l : List Av.Avp) (a : Av.Avp) : fault rs l a = 0 ∨ 5001 ≤ fault rs l a := by
  unfold fault valF
  split
  · split
    · right; omega
    · left; rfl
  · repeat' split
    all_goals omega
theorem cnt_le (n : Nm) (l : List Av.Avp) : cnt n l ≤ l.length := List.countP_le_length
theorem cntF_le (rs : List Ru) (l : List Av.Avp) (n : Nm) : 0 ≤ cntF rs l n ∧ cntF rs l n ≤ l.length := by
  have := cnt_le n l
  unfold cntF
  split <;> omega
theorem cntF_nil (rs : List Ru) : cntF rs [] = fun _ => 0 := by
  funext n
  unfold cntF cnt
  split <;> rfl
theorem cntF_at {rs : List Ru} {l : List Av.Avp} {r : Ru} (h : r ∈ rs) : cntF rs l r.nm = (cnt r.nm l : Int) := by
  unfold cntF
  have : (find rs r.nm).isSome = true := by
    unfold find
    rw [List.find?_isSome]
    exact ⟨r, h, by simp⟩
  rw [if_pos this]
def JPost (J : Int × List Av.Avp × Int) (w : World) (e : Ending) (w' : World) : Prop := ∃ A n c out, e = .returned (.tuple #[.int .i64 J.1, .slice A n c, .int .i64 J.2.2]) ∧ Hid (GL w.heap.size w' A n c out) ∧ Hid (out.map AvB.pure = J.2.1) ∧ Hid (n ≤ 1) ∧ Hid (Up w w')
theorem jpost {J : Int × List Av.Avp × Int} {w w' : World} {e : Ending} {A : Option Addr} {n c : Nat} {out : List AvB} {K : Int × List Av.Avp × Int} (hJ : J = K) (h1 : e = .returned (.tuple #[.int .i64 K.1, .slice A n c, .int .i64 K.2.2])) (h2 : GL w.heap.size w' A n c out) (h3 : out.map AvB.pure = K.2.1) (h4 : n ≤ 1) (h5 : Up w w') : JPost J w e w' := by
  subst hJ; exact ⟨A, n, c, out, h1, Lib.hid h2, Lib.hid h3, Lib.hid h4, Lib.hid h5⟩
theorem judge_bad {rs : List Ru} {l : List Av.Avp} (h : sound rs = false) : judge rs l = (0, [], 2) := by unfold judge; rw [h]; rfl
theorem judge_hit {rs : List Ru} {l : List Av.Avp} {k : Nat} {a : Av.Avp} (h : sound rs = true) (ha : l[k]? = some a) (hp : ∀ (j : Nat) (b : Av.Avp), j < k → l[j]? = some b → fault rs (l.take j) b = 0) (hf : fault rs (l.take k) a ≠ 0) : judge rs l = (fault rs (l.take k) a, [a], 0) := by
  unfold judge; rw [h, scan_hit ha hp hf]; rfl
theorem judge_miss {rs : List Ru} {l : List Av.Avp} {r : Ru} (h : sound rs = true) (hp : ∀ (j : Nat) (b : Av.Avp), l[j]? = some b → fault rs (l.take j) b = 0) (hm : missing rs l = some r) : judge rs l = (5005, [miss r], 0) := by
  unfold judge; rw [h, scan_none hp, hm]; rfl
theorem judge_fine {rs : List Ru} {l : List Av.Avp} (h : sound rs = true) (hp : ∀ (j : Nat) (b : Av.Avp), l[j]? = some b → fault rs (l.take j) b = 0) (hm : missing rs l = none) : judge rs l = (2001, [], 0) := by
  unfold judge; rw [h, scan_none hp, hm]; rfl
theorem miss_some {rs : List Ru} {l : List Av.Avp} {k : Nat} {r : Ru} (hr : rs[k]? = some r) (hp : ∀ (j : Nat) (q : Ru), j < k → rs[j]? = some q → ¬ ((cnt q.nm l : Int) < q.least)) (h : (cnt r.nm l : Int) < r.least) : missing rs l = some r := by
  unfold missing
  obtain ⟨h1, h2⟩ := List.getElem?_eq_some_iff.1 hr
  rw [List.find?_eq_some_iff_getElem]
  refine ⟨by simpa using h, k, h1, h2, fun j hj => ?_⟩
  simpa using hp j _ hj (List.getElem?_eq_getElem (by omega))
theorem miss_none {rs : List Ru} {l : List Av.Avp} (hp : ∀ (j : Nat) (q : Ru), rs[j]? = some q → ¬ ((cnt q.nm l : Int) < q.least)) : missing rs l = none := by
  unfold missing
  rw [List.find?_eq_none]
  intro r hr
  obtain ⟨i, hi, rfl⟩ := List.mem_iff_getElem.1 hr
  simpa using hp i _ (List.getElem?_eq_getElem hi)
theorem load38 {w : World} {g : Nat} {x : AvB} (h : w.heap[g]? = some (avO x)) : (Instr.loadAt 38 (.pointer (some ⟨g, 0, none⟩))).run Tryd.prog w = .ok (avV x) w := run_loadRow h Tryd.underlying38 (by kernel_rfl)
theorem run_lt3 {a b : Int} {t : Bool} (h : decide (a < b) = t) (w : World) : (binOp .lss 3 (.int .i64 a) (.int .i64 b)).run Tryd.prog w = .ok (.bool t) w := by
  subst h; simp [go_sem]
def RowX (x : AvB) (base : Nat) (v : Value) (w : World) : Prop := ∃ q, v = .slice (some ⟨q, 0, none⟩) 1 1 ∧ base ≤ q ∧ w.heap[q]? = some (.cells (avc x).toArray 38 (0, 0))
theorem keeps_rowX (x : AvB) (base : Nat) : Keeps (RowX x base) := fun v w w' ⟨q, h1, h2, h3⟩ hu => ⟨q, h1, h2, (hu.block _ (lt_of_blk h3)).trans h3⟩
theorem byt_zeros (n : Nat) : Byt (List.replicate n 0) := fun x hx => by rw [(List.mem_replicate.1 hx).2]; decide
theorem take_snoc {α : Type} {l : List α} {k : Nat} {a : α} (h : l[k]? = some a) : l.take (k + 1) = l.take k ++ [a] := by
  obtain ⟨h1, rfl⟩ := List.getElem?_eq_some_iff.1 h
  exact List.take_succ_eq_append_getElem h1
set_option maxRecDepth 100000 in
set_option maxHeartbeats 4000000 in
theorem judge_any (A : Option Addr) (m c : Nat) (rs : List Ru) (B : Option Addr) (n d : Nat) (l : List AvB) (w : World) (h : InR w A m c rs) (hl : InL w B n d l) (hT : Tab w) (hm : m ≤ 140737488351232) (hn : n ≤ 140737488351232) :
    Calls Tryd.prog 16 #[.slice A m c, .slice B n d] w (JPost (judge rs (l.map AvB.pure)) w) := by
  have H := Lib.hid h
  have HI := Lib.hid hl
  have HT := Lib.hid hT
  have HL := Lib.hid h.len
  have HLn := Lib.hid (show (l.map AvB.pure).length = n by simp [hl.len])
  have hcap := h.cap
  have hcap2 := hl.cap
  clear h hl hT
  go_enter Tryd.func16, Tryd.ntmps16
  go_wp2_with fail
  refine (sound_any A m c rs w H.out hm).mono ?_
  rintro e w1 ⟨rfl, hu⟩
  have HU1 := Lib.hid hu
  clear hu
  cases hs : sound rs
  · have HJ := Lib.hid (judge_bad (l := l.map AvB.pure) hs)
    go_wp2_with fail
    go_ret3
    exact jpost HJ.out rfl (gl_nil _ _) rfl (by omega) HU1.out
  · have HS := Lib.hid hs
    clear hs
    have hmk : (Instr.makeMap 50 none).run Tryd.prog w1 = .ok (.map (some w1.heap.size)) (w1.alloc (.map #[] 0)) := by kernel_rfl
    have HM2 := Lib.hid (mapC_new w1 0)
    have HU2 := Lib.hid (HU1.out.trans (up_alloc w1 (.map #[] 0)))
    have HMB := Lib.hid HU1.out.size
    go_upto_region 4 with (fail)
    clear hmk
    generalize w1.alloc (.map #[] 0) = w2 at HM2 HU2 ⊢
    generalize w1.heap.size = mb at HM2 HMB ⊢
    rw [← cntF_nil rs] at HM2
    clear HU1
    go_wp2_with fail
    go_loopw [19] (fun i wr => ∃ k : Nat, k ≤ n ∧ i = .int .i64 (k : Int) ∧ Hid (∀ (j : Nat) (b : Av.Avp), j < k → (l.map AvB.pure)[j]? = some b → fault rs ((l.map AvB.pure).take j) b = 0) ∧ Hid (MapC wr mb (cntF rs ((l.map AvB.pure).take k))) ∧ Hid (Up w wr)) (fun i _ => n - (intOf i).toNat)
    case atStart => exact ⟨0, Nat.zero_le _, rfl, Lib.hid (fun j b hj => absurd hj (by omega)), HM2, HU2⟩
    case round =>
      clear HM2 HU2
      obtain ⟨k, hk, rfl, hA, hM, hU⟩ := hrel
      by_cases hlt : k < n
      · have d1 : decide ((k : Int) < (n : Int)) = true := decide_eq_true (by omega)
        obtain ⟨x, g, o, hx, rfl, k0, k1, k2, k3, k4, hci⟩ := (HI.out.up hU.out).at_ hlt
        have HXE := Lib.hid (show (l.map AvB.pure)[k]? = some x.pure by simp [hx])
        have HXI := Lib.hid (HI.out.av x (List.mem_of_getElem? hx))
        have HXw := Lib.hid hci
        clear hx hci
        have HCa := Lib.hid (new_at wr (avO x))
        have HUa := Lib.hid (up_alloc wr (avO x))
        go_upto_region 7 with (fail)
        change Code.wp _ _ _ _ (wr.alloc (avO x))
        generalize wr.alloc (avO x) = wa at HCa HUa ⊢
        have HQm := Lib.hid (show ¬ wr.heap.size = mb from fun e => by have := hM.out.lt; omega)
        have HQa := Lib.hid (show w.heap.size ≤ wr.heap.size from hU.out.size)
        generalize wr.heap.size = q at HCa HQa HQm ⊢
        clear k0 k1 k2 k3 k4
        have HUA := Lib.hid (hU.out.trans HUa.out)
        have HMa := Lib.hid (hM.out.up HUa.out)
        have z0 := cell_of HCa.out (j := 0) rfl
        have z1 := cell_of HCa.out (j := 1) rfl
        have z2 := cell_of HCa.out (j := 2) rfl
        have z3 := cell_of HCa.out (j := 3) rfl
        have z4 := cell_of HCa.out (j := 4) rfl
        go_wp2_with fail
        refine (exam_any A m c rs x mb (cntF rs ((l.map AvB.pure).take k)) w wa H.out HXI.out HT.out HUA.out hm HMa.out HMB.out (by have := cntF_le rs ((l.map AvB.pure).take k) (nmA x.pure); have h2 : ((l.map AvB.pure).take k).length ≤ n := (by rw [List.length_take, HLn.out]; omega); exact ⟨this.1, by omega⟩)).mono ?_
        rintro e wb ⟨rfl, hM1, hu, ho⟩
        rw [exU_cnt, ← take_snoc HXE.out] at hM1
        rw [exF_fault]
        have HMb := Lib.hid hM1
        have HUB := Lib.hid hu
        have HCb := Lib.hid (ho.blk HCa.out HQm.out)
        clear hM1 hu ho z0 z1 z2 z3 z4 HCa HUa HMa HUA
        obtain ⟨f, hf⟩ : ∃ f, fault rs ((l.map AvB.pure).take k) x.pure = f := ⟨_, rfl⟩
        rw [hf]
        rcases fault_vals rs ((l.map AvB.pure).take k) x.pure with h0 | h0
        · obtain rfl : f = 0 := by rw [← hf]; exact h0
          have HA2 := Lib.hid (show ∀ (j : Nat) (b : Av.Avp), j < k + 1 → (l.map AvB.pure)[j]? = some b → fault rs ((l.map AvB.pure).take j) b = 0 from fun j b hj hb => by
            rcases Nat.lt_or_ge j k with h3 | h3
            · exact hA.out j b h3 hb
            · obtain rfl : j = k := by omega
              rw [HXE.out] at hb
              cases hb
              exact h0)
          rw [show prc 0 = 2001 from rfl]
          clear h0 hf
          go_wp2_with fail
          go_roundw
          case rel => exact ⟨k + 1, by omega, by go_num, HA2, HMb, HUB⟩
          case measure => simp [intOf]; omega
        · rw [hf] at h0
          have e1 : (f != 2001) = true := by rw [bne_iff_ne]; omega
          have HJ := Lib.hid (judge_hit HS.out HXE.out hA.out (by rw [hf]; omega))
          rw [hf] at HJ
          rw [prc_ne (by omega)]
          have z4 : wb.cell? ⟨q, 4, none⟩ = some (.slice x.A x.n x.c) := cell_of HCb.out (j := 4) rfl
          have HXn := Lib.hid HXI.out.n
          clear h0 hf
          go_wp2_with fail
          refine (clone_any x.A x.n x.c x.bs wb (HXI.out.inb.up HUB.out) HXn.out).mono ?_
          rintro e wc ⟨A1, c1, rfl, hO, hu⟩
          have HCc := Lib.hid (blk_up HCb.out hu.out)
          have HUC := Lib.hid (HUB.out.trans hu.out)
          have HQc := Lib.hid (show q < wb.heap.size from lt_of_blk HCb.out)
          have hst := setCell_out wc q 4 (.slice A1 x.n c1)
          have HCd := Lib.hid (show (wc.setCell ⟨q, 4, none⟩ (.slice A1 x.n c1)).heap[q]? = some (avO ⟨x.code, x.vendor, x.must, x.prot, A1, x.n, c1, x.bs⟩) from (setCell_at (j := 4) (.slice A1 x.n c1) HCc.out).trans rfl)
          have HOd := Lib.hid (show OwnI .u8 5 w.heap.size (wc.setCell ⟨q, 4, none⟩ (.slice A1 x.n c1)) A1 x.n c1 x.bs from OwnI.base' (hst.own hO.out (fun g hg e => by have h1 := (row_lt hO.out (by rwa [ownBlock_slice] at hg)).1; have h2 := HQc.out; have e2 : g = q := e; omega)) HUB.out.size)
          have HUD := Lib.hid (show Up w (wc.setCell ⟨q, 4, none⟩ (.slice A1 x.n c1)) from Below.out HUC.out hst (fun g hg => by have e2 : g = q := hg; rw [e2]; exact HQa.out) HUC.out.size)
          clear z4
          have z4 : wc.cell? ⟨q, 4, none⟩ = some (.slice x.A x.n x.c) := cell_of HCc.out (j := 4) rfl
          have y4 := frozen_at (j := 4) HCc.out
          go_upto_region 10 with (fail)
          clear z4 y4 hst hO hu
          generalize wc.setCell ⟨q, 4, none⟩ (.slice A1 x.n c1) = wd at HCd HOd HUD ⊢
          have HK : ∀ φ ∈ [Is (.int .i64 f), Is (avV ⟨x.code, x.vendor, x.must, x.prot, A1, x.n, c1, x.bs⟩), RowX ⟨x.code, x.vendor, x.must, x.prot, A1, x.n, c1, x.bs⟩ wd.heap.size, Is (.int .i64 f), RowX ⟨x.code, x.vendor, x.must, x.prot, A1, x.n, c1, x.bs⟩ wd.heap.size, Is (.int .i64 0)], Keeps φ := by
            simp [keeps_is, keeps_rowX]
          refine staged_lit (by kernel_rfl) (facts [Is (.int .i64 f), Is (avV ⟨x.code, x.vendor, x.must, x.prot, A1, x.n, c1, x.bs⟩), RowX ⟨x.code, x.vendor, x.must, x.prot, A1, x.n, c1, x.bs⟩ wd.heap.size, Is (.int .i64 f), RowX ⟨x.code, x.vendor, x.must, x.prot, A1, x.n, c1, x.bs⟩ wd.heap.size, Is (.int .i64 0)]) (Stg [] (fun _ y => Up wd y)) 54 rfl (by decide +kernel) (by decide +kernel) (Stg.start (Up.drew wd)) ?_ ?_
          · refine ⟨?_, ?_, ?_, ?_, ?_, ?_, trivial⟩
            · refine opS_same rfl rfl fun Lx ac w1 hJ hl hc ho hd => ?_
              have s10 : ac.eval (.tmp 10) = .int .i64 f := ho 10 rfl
              exact ⟨_, x_move (.tmp 10) rfl s10, rfl⟩
            · refine opS_same rfl rfl fun Lx ac w1 hJ hl hc ho hd => ?_
              have s9 : ac.eval (.tmp 9) = .pointer (some ⟨q, 0, none⟩) := ho 9 rfl
              obtain ⟨_, _, hU⟩ := hJ
              exact ⟨_, x_load 38 _ rfl s9 (load38 (blk_up HCd.out hU)), rfl⟩
            · refine opS_grow rfl rfl (fun k wx wy h hu => Up.trans h hu) (facts_keep HK) fun L ac wx hJ hl hc ho hd => ?_
              have d1 : ac.eval (.tmp 34) = avV ⟨x.code, x.vendor, x.must, x.prot, A1, x.n, c1, x.bs⟩ := hd 1 _ _ rfl rfl rfl
              obtain ⟨_, _, hU⟩ := hJ
              exact fine_run _ _ (x_bslice 29 1 _ rfl (by simp only [List.map_toArray, List.map_cons, List.map_nil, d1]; exact bslice1 _ _ _ _ _ _ _ _)) (up_alloc _ _) ⟨wx.heap.size, rfl, hU.size, new_at _ _⟩
            · refine opS_same rfl rfl fun Lx ac w1 hJ hl hc ho hd => ?_
              have d0 : ac.eval (.tmp 33) = .int .i64 f := hd 0 _ _ rfl rfl rfl
              exact ⟨_, x_assign (.tmp 33) rfl d0, rfl⟩
            · refine opS_same rfl rfl fun Lx ac w1 hJ hl hc ho hd => ?_
              have d2 := hd 2 _ _ rfl rfl rfl
              obtain ⟨q9, hv, h9, hw9⟩ := d2
              have d2b : ac.eval (.tmp 35) = .slice (some ⟨q9, 0, none⟩) 1 1 := hv
              exact ⟨_, x_assign (.tmp 35) rfl d2b, q9, rfl, h9, hw9⟩
            · refine opS_same rfl rfl fun Lx ac w1 hJ hl hc ho hd => ?_
              exact ⟨_, x_assign (.const (.int .i64 0)) rfl rfl, rfl⟩
          · intro L1 a1 w9 hI hall
            obtain ⟨_, _, hUF⟩ := hI.done hall (by simp)
            have HU9 := Lib.hid (show Up wd w9 from hUF)
            obtain ⟨q9, l5, h9, hw9⟩ := hI.facts 4 _ 5 rfl (hall 4 (by decide)) rfl
            clear hUF
            have l4 : a1.tmps.getD 4 undef = .int .i64 f := hI.get hall (i := 3) rfl rfl
            have l6 : a1.tmps.getD 6 undef = .int .i64 0 := hI.get hall (i := 5) rfl rfl
            have hde : a1.defers = [] := hI.defers
            have hal := act_lit a1 54 hI.size
            clear hI
            simp only [List.range, List.range.loop, List.map_cons, List.map_nil] at hal
            rw [l4, l5, l6, hde] at hal
            generalize a1.tmps.getD 0 undef = t0 at hal
            generalize a1.tmps.getD 1 undef = t1 at hal
            generalize a1.tmps.getD 2 undef = t2 at hal
            generalize a1.tmps.getD 3 undef = t3 at hal
            generalize a1.tmps.getD 7 undef = t7 at hal
            generalize a1.tmps.getD 8 undef = t8 at hal
            generalize a1.tmps.getD 9 undef = t9 at hal
            generalize a1.tmps.getD 10 undef = t10 at hal
            generalize a1.tmps.getD 11 undef = t11 at hal
            generalize a1.tmps.getD 12 undef = t12 at hal
            generalize a1.tmps.getD 13 undef = t13 at hal
            generalize a1.tmps.getD 14 undef = t14 at hal
            generalize a1.tmps.getD 15 undef = t15 at hal
            generalize a1.tmps.getD 16 undef = t16 at hal
            generalize a1.tmps.getD 17 undef = t17 at hal
            generalize a1.tmps.getD 18 undef = t18 at hal
            generalize a1.tmps.getD 19 undef = t19 at hal
            generalize a1.tmps.getD 20 undef = t20 at hal
            generalize a1.tmps.getD 21 undef = t21 at hal
            generalize a1.tmps.getD 22 undef = t22 at hal
            generalize a1.tmps.getD 23 undef = t23 at hal
            generalize a1.tmps.getD 24 undef = t24 at hal
            generalize a1.tmps.getD 25 undef = t25 at hal
            generalize a1.tmps.getD 26 undef = t26 at hal
            generalize a1.tmps.getD 27 undef = t27 at hal
            generalize a1.tmps.getD 28 undef = t28 at hal
            generalize a1.tmps.getD 29 undef = t29 at hal
            generalize a1.tmps.getD 30 undef = t30 at hal
            generalize a1.tmps.getD 31 undef = t31 at hal
            generalize a1.tmps.getD 32 undef = t32 at hal
            generalize a1.tmps.getD 33 undef = t33 at hal
            generalize a1.tmps.getD 34 undef = t34 at hal
            generalize a1.tmps.getD 35 undef = t35 at hal
            generalize a1.tmps.getD 36 undef = t36 at hal
            generalize a1.tmps.getD 37 undef = t37 at hal
            generalize a1.tmps.getD 38 undef = t38 at hal
            generalize a1.tmps.getD 39 undef = t39 at hal
            generalize a1.tmps.getD 40 undef = t40 at hal
            generalize a1.tmps.getD 41 undef = t41 at hal
            generalize a1.tmps.getD 42 undef = t42 at hal
            generalize a1.tmps.getD 43 undef = t43 at hal
            generalize a1.tmps.getD 44 undef = t44 at hal
            generalize a1.tmps.getD 45 undef = t45 at hal
            generalize a1.tmps.getD 46 undef = t46 at hal
            generalize a1.tmps.getD 47 undef = t47 at hal
            generalize a1.tmps.getD 48 undef = t48 at hal
            generalize a1.tmps.getD 49 undef = t49 at hal
            generalize a1.tmps.getD 50 undef = t50 at hal
            generalize a1.tmps.getD 51 undef = t51 at hal
            generalize a1.tmps.getD 52 undef = t52 at hal
            generalize a1.tmps.getD 53 undef = t53 at hal
            clear l4 l5 l6 hde
            subst hal
            have HG := Lib.hid (gl_one (x := ⟨x.code, x.vendor, x.must, x.prot, A1, x.n, c1, x.bs⟩) (B0 := w.heap.size) (w := wd) (w' := w9) (q := q9) (by have := HUD.out.size; omega) ⟨HOd.out, HXI.out.ok, HXn.out⟩ HU9.out h9 hw9)
            clear h9 hw9
            go_wp2_with fail
            go_ret3
            exact jpost HJ.out rfl HG.out rfl (by omega) (HUD.out.trans HU9.out)
      · have d1 : decide ((k : Int) < (n : Int)) = false := decide_eq_false (by omega)
        obtain rfl : k = n := by omega
        have HMn := Lib.hid (show MapC wr mb (cntF rs (l.map AvB.pure)) by have h1 := hM.out; rw [List.take_of_length_le (by rw [HLn.out]; exact Nat.le_refl _)] at h1; exact h1)
        have HAn := Lib.hid (show ∀ (j : Nat) (b : Av.Avp), (l.map AvB.pure)[j]? = some b → fault rs ((l.map AvB.pure).take j) b = 0 from fun j b hb => hA.out j b (by have := (List.getElem?_eq_some_iff.1 hb).1; rw [HLn.out] at this; exact this) hb)
        have HUn := hU
        clear hA hM hU
        go_wp2_with fail
        go_loopw [39] (fun i wr => ∃ j : Nat, j ≤ m ∧ i = .int .i64 (j : Int) ∧ Hid (∀ (t : Nat) (r : Ru), t < j → rs[t]? = some r → ¬ ((cnt r.nm (l.map AvB.pure) : Int) < r.least)) ∧ Hid (MapC wr mb (cntF rs (l.map AvB.pure))) ∧ Hid (Up w wr)) (fun i _ => m - (intOf i).toNat)
        case atStart => exact ⟨0, Nat.zero_le _, rfl, Lib.hid (fun t r ht => absurd ht (by omega)), HMn, HUn⟩
        case round =>
          clear HMn HUn
          obtain ⟨j, hj, rfl, hA, hM, hU⟩ := hrel
          by_cases hlt2 : j < m
          · have d2 : decide ((j : Int) < (m : Int)) = true := decide_eq_true (by omega)
            obtain ⟨r, g, o, hr, rfl, ⟨k0, k1, k2, k3, k4, k5⟩, hro⟩ := (H.out.up hU.out).at_ hlt2
            have HR := Lib.hid hr
            have HRO := Lib.hid hro
            have HRM := Lib.hid (cntF_at (l := l.map AvB.pure) (List.mem_of_getElem? hr))
            clear hr hro
            have HCa := Lib.hid (new_at wr (ruC r))
            have HUa := Lib.hid (up_alloc wr (ruC r))
            go_upto_region 15 with (fail)
            change Code.wp _ _ _ _ (wr.alloc (ruC r))
            generalize wr.alloc (ruC r) = wa at HCa HUa ⊢
            generalize wr.heap.size = qr at HCa ⊢
            clear k0 k1 k2 k3 k4 k5
            have HUA := Lib.hid (hU.out.trans HUa.out)
            have HMa := Lib.hid (hM.out.up HUa.out)
            clear HUa hM hU
            obtain ⟨t, ht⟩ : ∃ t : Bool, decide ((cnt r.nm (l.map AvB.pure) : Int) < r.least) = t := ⟨_, rfl⟩
            have HTt := Lib.hid ht
            clear ht
            generalize hcn : (cnt r.nm (l.map AvB.pure) : Int) = cn at HTt HRM
            have HCN := Lib.hid hcn
            clear hcn
            have HK : ∀ φ ∈ [Is (.map (some mb)), Is (ruV r), Is (nmV r.nm), Is (.int .i64 cn), Is (.pointer (some ⟨qr, 4, none⟩)), Is (.int .i64 r.least), Is (.bool t)], Keeps φ := by
              simp [keeps_is]
            refine staged_lit (by kernel_rfl) (facts [Is (.map (some mb)), Is (ruV r), Is (nmV r.nm), Is (.int .i64 cn), Is (.pointer (some ⟨qr, 4, none⟩)), Is (.int .i64 r.least), Is (.bool t)]) (Stg [] (fun _ x => Up wa x)) 54 rfl (by decide +kernel) (by decide +kernel) (Stg.start (Up.drew wa)) ?_ ?_
            · refine ⟨?_, ?_, ?_, ?_, ?_, ?_, ?_, trivial⟩
              · refine opS_same rfl rfl fun Lx ac w1 hJ hl hc ho hd => ?_
                have s7 : ac.eval (.tmp 7) = .map (some mb) := ho 7 rfl
                exact ⟨_, x_move (.tmp 7) rfl s7, rfl⟩
              · refine opS_same rfl rfl fun Lx ac w1 hJ hl hc ho hd => ?_
                have s12 : ac.eval (.tmp 12) = .pointer (some ⟨qr, 0, none⟩) := ho 12 rfl
                obtain ⟨_, _, hU⟩ := hJ
                exact ⟨_, x_load 40 _ rfl s12 (load40 (blk_up HCa.out hU)), rfl⟩
              · refine opS_callUp rfl rfl (fun k wx wy h hu => Up.trans h hu) (facts_keep HK) fun L ac wx hJ hl hc ho hd => ?_
                have d1 : ac.eval (.tmp 44) = ruV r := hd 1 _ _ rfl rfl rfl
                obtain ⟨_, _, hU⟩ := hJ
                refine ⟨31, _, x_fcall 31 [.tmp 44] _ rfl (by kernel_rfl), ?_⟩
                simp only [List.map_cons, List.map_nil, d1]
                exact (ofRule_any r _).mono fun e w2 ⟨he, hu⟩ => ⟨_, he, hu, rfl⟩
              · refine opS_same rfl rfl fun Lx ac w1 hJ hl hc ho hd => ?_
                have d0 : ac.eval (.tmp 43) = .map (some mb) := hd 0 _ _ rfl rfl rfl
                have d2 : ac.eval (.tmp 45) = nmV r.nm := hd 2 _ _ rfl rfl rfl
                obtain ⟨_, _, hU⟩ := hJ
                refine ⟨_, x_lookup 50 (.tmp 43) (.tmp 45) rfl d0 d2 ?_, rfl⟩
                have := run_lookC (k := r.nm) (HMa.out.up hU) HRO.out
                rw [this, HRM.out]
              · refine opS_same rfl rfl fun Lx ac w1 hJ hl hc ho hd => ?_
                have s12 : ac.eval (.tmp 12) = .pointer (some ⟨qr, 0, none⟩) := ho 12 rfl
                exact ⟨_, x_field 40 (.tmp 12) 4 rfl s12 (fld404 _ _), rfl⟩
              · refine opS_same rfl rfl fun Lx ac w1 hJ hl hc ho hd => ?_
                have d4 : ac.eval (.tmp 47) = .pointer (some ⟨qr, 4, none⟩) := hd 4 _ _ rfl rfl rfl
                obtain ⟨_, _, hU⟩ := hJ
                exact ⟨_, x_load 3 (.tmp 47) rfl d4 (run_load1 agg3 (cell_up (cell_of HCa.out (j := 4) rfl) hU)), rfl⟩
              · refine opS_same rfl rfl fun Lx ac w1 hJ hl hc ho hd => ?_
                have d3 : ac.eval (.tmp 46) = .int .i64 cn := hd 3 _ _ rfl rfl rfl
                have d5 : ac.eval (.tmp 48) = .int .i64 r.least := hd 5 _ _ rfl rfl rfl
                exact ⟨_, x_bin .lss 3 3 (.tmp 46) (.tmp 48) rfl d3 d5 (by kernel_rfl) (run_lt3 HTt.out _), rfl⟩
            · intro L1 a1 w9 hI hall
              obtain ⟨kq, hk, hUF⟩ := hI.done hall (by simp)
              have HUn := Lib.hid (show Up wa w9 from hUF)
              clear hk hUF kq
              have l0 : a1.tmps.getD 0 undef = .slice (some ⟨g, o, none⟩) m c := hI.old 0 rfl
              have l1 : a1.tmps.getD 1 undef = .slice B k d := hI.old 1 rfl
              have l2 : a1.tmps.getD 2 undef = undef := hI.old 2 rfl
              have l3 : a1.tmps.getD 3 undef = undef := hI.old 3 rfl
              have l4 : a1.tmps.getD 4 undef = u4 := hI.old 4 rfl
              have l5 : a1.tmps.getD 5 undef = u5 := hI.old 5 rfl
              have l6 : a1.tmps.getD 6 undef = u6 := hI.old 6 rfl
              have l7 : a1.tmps.getD 7 undef = .map (some mb) := hI.old 7 rfl
              have l8 : a1.tmps.getD 8 undef = undef := hI.old 8 rfl
              have l9 : a1.tmps.getD 9 undef = u9 := hI.old 9 rfl
              have l10 : a1.tmps.getD 10 undef = u10 := hI.old 10 rfl
              have l11 : a1.tmps.getD 11 undef = undef := hI.old 11 rfl
              have l12 : a1.tmps.getD 12 undef = .pointer (some ⟨qr, 0, none⟩) := hI.old 12 rfl
              have l13 : a1.tmps.getD 13 undef = .slice (some ⟨g, o, none⟩) m c := hI.old 13 rfl
              have l14 : a1.tmps.getD 14 undef = .bool true := hI.old 14 rfl
              have l15 : a1.tmps.getD 15 undef = .bool false := hI.old 15 rfl
              have l16 : a1.tmps.getD 16 undef = .map (some mb) := hI.old 16 rfl
              have l17 : a1.tmps.getD 17 undef = .slice B k d := hI.old 17 rfl
              have l18 : a1.tmps.getD 18 undef = .int .i64 (k : Int) := hI.old 18 rfl
              have l19 : a1.tmps.getD 19 undef = .int .i64 (k : Int) := hI.old 19 rfl
              have l20 : a1.tmps.getD 20 undef = .bool false := hI.old 20 rfl
              have l37 : a1.tmps.getD 37 undef = .slice (some ⟨g, o, none⟩) m c := hI.old 37 rfl
              have l38 : a1.tmps.getD 38 undef = .int .i64 (m : Int) := hI.old 38 rfl
              have l39 : a1.tmps.getD 39 undef = .int .i64 (j : Int) := hI.old 39 rfl
              have l21 : a1.tmps.getD 21 undef = u21 := hI.old 21 rfl
              have l22 : a1.tmps.getD 22 undef = u22 := hI.old 22 rfl
              have l23 : a1.tmps.getD 23 undef = u23 := hI.old 23 rfl
              have l24 : a1.tmps.getD 24 undef = u24 := hI.old 24 rfl
              have l25 : a1.tmps.getD 25 undef = u25 := hI.old 25 rfl
              have l26 : a1.tmps.getD 26 undef = u26 := hI.old 26 rfl
              have l27 : a1.tmps.getD 27 undef = u27 := hI.old 27 rfl
              have l28 : a1.tmps.getD 28 undef = u28 := hI.old 28 rfl
              have l29 : a1.tmps.getD 29 undef = u29 := hI.old 29 rfl
              have l30 : a1.tmps.getD 30 undef = u30 := hI.old 30 rfl
              have l31 : a1.tmps.getD 31 undef = u31 := hI.old 31 rfl
              have l32 : a1.tmps.getD 32 undef = u32 := hI.old 32 rfl
              have l33 : a1.tmps.getD 33 undef = u33 := hI.old 33 rfl
              have l34 : a1.tmps.getD 34 undef = u34 := hI.old 34 rfl
              have l35 : a1.tmps.getD 35 undef = u35 := hI.old 35 rfl
              have l36 : a1.tmps.getD 36 undef = u36 := hI.old 36 rfl
              have l49 : a1.tmps.getD 49 undef = .bool t := hI.get hall (i := 6) rfl rfl
              have hde : a1.defers = [] := hI.defers
              have hal := act_lit a1 54 hI.size
              clear hI
              simp only [List.range, List.range.loop, List.map_cons, List.map_nil] at hal
              rw [l0, l1, l2, l3, l4, l5, l6, l7, l8, l9, l10, l11, l12, l13, l14, l15, l16, l17, l18, l19, l20, l37, l38, l39, l21, l22, l23, l24, l25, l26, l27, l28, l29, l30, l31, l32, l33, l34, l35, l36, l49, hde] at hal
              generalize a1.tmps.getD 40 undef = t40 at hal
              generalize a1.tmps.getD 41 undef = t41 at hal
              generalize a1.tmps.getD 42 undef = t42 at hal
              generalize a1.tmps.getD 43 undef = t43 at hal
              generalize a1.tmps.getD 44 undef = t44 at hal
              generalize a1.tmps.getD 45 undef = t45 at hal
              generalize a1.tmps.getD 46 undef = t46 at hal
              generalize a1.tmps.getD 47 undef = t47 at hal
              generalize a1.tmps.getD 48 undef = t48 at hal
              generalize a1.tmps.getD 50 undef = t50 at hal
              generalize a1.tmps.getD 51 undef = t51 at hal
              generalize a1.tmps.getD 52 undef = t52 at hal
              generalize a1.tmps.getD 53 undef = t53 at hal
              clear l0 l1 l2 l3 l4 l5 l6 l7 l8 l9 l10 l11 l12 l13 l14 l15 l16 l17 l18 l19 l20 l37 l38 l39 l21 l22 l23 l24 l25 l26 l27 l28 l29 l30 l31 l32 l33 l34 l35 l36 l49 hde
              subst hal
              have HMc := Lib.hid (HMa.out.up HUn.out)
              have HUC := Lib.hid (HUA.out.trans HUn.out)
              have HCc := Lib.hid (blk_up HCa.out HUn.out)
              clear HMa HUA HCa HUn HRM HK
              cases t
              · have hno := of_decide_eq_false HTt.out
                have HA2 := Lib.hid (show ∀ (t : Nat) (q : Ru), t < j + 1 → rs[t]? = some q → ¬ ((cnt q.nm (l.map AvB.pure) : Int) < q.least) from fun t q ht hq => by
                  rcases Nat.lt_or_ge t j with h3 | h3
                  · exact hA.out t q h3 hq
                  · obtain rfl : t = j := by omega
                    rw [HR.out] at hq
                    cases hq
                    rw [HCN.out]; exact hno)
                clear hno
                go_wp2_with fail
                go_roundw
                case rel => exact ⟨j + 1, by omega, by go_num, HA2, HMc, HUC⟩
                case measure => simp [intOf]; omega
              · have hyes := of_decide_eq_true HTt.out
                have HJ := Lib.hid (judge_miss HS.out HAn.out (miss_some HR.out hA.out (by rw [HCN.out]; exact hyes)))
                clear hyes
                have z0 := cell_of HCc.out (j := 0) rfl
                have z1 := cell_of HCc.out (j := 1) rfl
                have z2 := cell_of HCc.out (j := 2) rfl
                have z3 := cell_of HCc.out (j := 3) rfl
                have z4 := cell_of HCc.out (j := 4) rfl
                have z5 := cell_of HCc.out (j := 5) rfl
                go_wp2_with fail
                refine (shortest_any r (lea r.type).toNat rfl w9).mono ?_
                rintro e wz ⟨A1, c1, rfl, hO, hu⟩
                have HUZ := Lib.hid (HUC.out.trans hu.out)
                have HOZ := Lib.hid (OwnI.base' hO.out HUC.out.size)
                have hln := lea_le r.type
                have HN8 := Lib.hid (show (lea r.type).toNat ≤ 140737488351232 by omega)
                have HRM := Lib.hid (show miss r = AvB.pure ⟨r.code, r.vendor, r.must, false, A1, (lea r.type).toNat, c1, List.replicate (lea r.type).toNat 0⟩ from rfl)
                clear hln hO hu z0 z1 z2 z3 z4 z5
                generalize (lea r.type).toNat = N at HOZ HN8 HRM ⊢
                have hbs := bslice1 r.code r.vendor r.must false A1 N c1 wz
                have HG := Lib.hid (gl_one (x := ⟨r.code, r.vendor, r.must, false, A1, N, c1, List.replicate N 0⟩) (B0 := w.heap.size) (w := wz) (w' := wz.alloc (.cells #[.int .u32 r.code, .int .u32 r.vendor, .bool r.must, .bool false, .slice A1 N c1] 38)) (q := wz.heap.size) HUZ.out.size ⟨HOZ.out, ⟨HRO.out.1, HRO.out.2, byt_zeros N⟩, HN8.out⟩ (up_alloc _ _) (Nat.le_refl _) (new_at _ _))
                have HUG := Lib.hid (HUZ.out.trans (up_alloc wz (.cells #[.int .u32 r.code, .int .u32 r.vendor, .bool r.must, .bool false, .slice A1 N c1] 38)))
                go_wp2_with fail
                go_ret3
                exact jpost HJ.out rfl HG.out (by rw [HRM.out]; rfl) (by omega) HUG.out
          · have d2 : decide ((j : Int) < (m : Int)) = false := decide_eq_false (by omega)
            have HJ := Lib.hid (judge_fine HS.out HAn.out (miss_none fun t r ht => hA.out t r (by have := (List.getElem?_eq_some_iff.1 ht).1; rw [HL.out] at this; omega) ht))
            go_wp2_with fail
            go_ret3
            exact jpost HJ.out rfl (gl_nil _ _) rfl (by omega) hU.out
end Go.Proofs.YtghldkjbmfbdfaaDoor
