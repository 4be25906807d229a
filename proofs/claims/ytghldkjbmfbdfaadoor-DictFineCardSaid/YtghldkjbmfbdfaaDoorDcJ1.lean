import Derived.Test.YtghldkjbmfbdfaaDoorDcJ0
import Derived.Test.YtghldkjbmfbdfaaDoorVg
namespace Go.Proofs.YtghldkjbmfbdfaaDoor
open Go Go.RowKit Dc
set_option linter.unusedVariables false
set_option linter.unusedSimpArgs false
/-! The reference's Judge. -/
def CntB (w : World) (q : Nat) (L : List Int) : Prop := w.heap[q]? = some (.cells (ints .i64 L).toArray 3 (0, 0))
def cntL (rs : List Ru) (pre : List Av.Avp) : List Int := rs.map fun r => (cnt r.nm pre : Int)
theorem cntL_nil (rs : List Ru) : cntL rs [] = List.replicate rs.length 0 := by
  unfold cntL
  rw [List.eq_replicate_iff]
  refine ⟨by simp, fun b hb => ?_⟩
  obtain ⟨r, _, rfl⟩ := List.mem_map.1 hb
  rfl
theorem cntL_none {rs : List Ru} {pre : List Av.Avp} {a : Av.Avp} (h : has rs (nmA a) = false) : cntL rs (pre ++ [a]) = cntL rs pre := by
  unfold cntL
  refine List.map_congr_left fun r hr => ?_
  have : ¬ nmA a = r.nm := fun e => by
    have h2 : has rs (nmA a) = true := has_true.2 ⟨r, hr, e.symm⟩
    rw [h] at h2; cases h2
  rw [cnt_snoc, if_neg this, Nat.add_zero]
theorem cntL_some {rs : List Ru} {pre : List Av.Avp} {a : Av.Avp} {i : Nat} {r : Ru} (hs : sound rs = true) (hi : rs[i]? = some r) (hn : r.nm = nmA a) : cntL rs (pre ++ [a]) = (cntL rs pre).set i ((cnt r.nm pre + 1 : Nat) : Int) := by
  unfold cntL
  have hil := (List.getElem?_eq_some_iff.1 hi).1
  apply List.ext_getElem?
  intro j
  rw [List.getElem?_set, List.getElem?_map, List.getElem?_map]
  by_cases hij : i = j
  · subst hij
    rw [if_pos rfl, if_pos (by simpa using hil), hi]
    simp only [Option.map_some]
    rw [cnt_snoc, if_pos hn.symm]
  · rw [if_neg hij]
    cases hj : rs[j]? with
    | none => rfl
    | some p =>
      have : ¬ nmA a = p.nm := fun e => hij (sound_inj hs hi hj (hn.trans e))
      simp only [Option.map_some]
      rw [cnt_snoc, if_neg this, Nat.add_zero]
theorem CntB.at_ {w : World} {q : Nat} {rs : List Ru} {pre : List Av.Avp} (h : CntB w q (cntL rs pre)) {i : Nat} {r : Ru} (hi : rs[i]? = some r) : w.cell? ⟨q, i, none⟩ = some (.int .i64 ((cnt r.nm pre : Nat) : Int)) := cell_of h (j := i) (by simp [ints, cntL, hi])
theorem CntB.up {w w' : World} {q : Nat} {L : List Int} (h : CntB w q L) (hu : Up w w') : CntB w' q L := blk_up h hu
theorem CntB.set {w : World} {q i : Nat} {L : List Int} (h : CntB w q L) (n : Int) : CntB (w.setCell ⟨q, i, none⟩ (.int .i64 n)) q (L.set i n) := by
  unfold CntB
  rw [setCell_at (j := i) (.int .i64 n) h]
  simp [ints, List.map_set]
theorem info3 : (Tryd.prog.info? 3).map (fun i => (i.zero, i.size, i.bytes)) = some (some (.int .i64 0), 1, 8) := by kernel_rfl
theorem make_ints (n : Nat) (hn : n ≤ 1000) (W : World) : (Instr.makeSlice 57 (.int .i64 (n : Int)) (.int .i64 (n : Int))).run Tryd.prog W = .ok (.slice (some ⟨W.heap.size, 0, none⟩) n n) (W.alloc (.cells (List.replicate n (.int .i64 0)).toArray 3)) := by
  obtain ⟨i0, hi, hz0, hz1, hz2⟩ := info_parts info3
  have h := run_make (P := Tryd.prog) W 57 3 i0 (.int .i64 0) Tryd.underlying57 hi hz0 .i64 .i64 n n (by omega) (Int.le_refl _) (by rw [hz2]; omega) (by omega)
  have e : madeCells (Value.int .i64 0).cells (n * 1) = (List.replicate n (.int .i64 0)).toArray := by
    apply Array.toList_inj.1
    show (madeCells #[Value.int .i64 0] (n * 1)).toList = _
    rw [toList_madeCells_one]; simp
  rw [hz1] at h
  simp only [Int.toNat_natCast] at h
  rw [e] at h
  exact h
theorem inL_one {w : World} {q : Nat} {x : AvB} (hw : w.heap[q]? = some (.cells (avc x).toArray 38 (0, 0))) (hx : AvIn w x) : InL w (some ⟨q, 0, none⟩) 1 1 [x] :=
  ⟨fun _ => ⟨q, 0, rfl, lt_of_blk hw, fun j u hu => cell_of hw (by rw [Nat.zero_add]; simpa [rowa] using hu)⟩, fun y hy => by rw [List.mem_singleton.1 hy]; exact hx, Nat.le_refl _, rfl⟩
def RPost (J : Int × List Av.Avp × Int) (w : World) (e : Ending) (w' : World) : Prop := ∃ A n c out, e = .returned (.tuple #[.int .i64 J.1, .slice A n c, .int .i64 J.2.2]) ∧ Hid (InL w' A n c out) ∧ Hid (out.map AvB.pure = J.2.1) ∧ Hid (n ≤ 1) ∧ Hid (Up w w')
theorem rpost {J : Int × List Av.Avp × Int} {w w' : World} {e : Ending} {A : Option Addr} {n c : Nat} {out : List AvB} {K : Int × List Av.Avp × Int} (hJ : J = K) (h1 : e = .returned (.tuple #[.int .i64 K.1, .slice A n c, .int .i64 K.2.2])) (h2 : InL w' A n c out) (h3 : out.map AvB.pure = K.2.1) (h4 : n ≤ 1) (h5 : Up w w') : RPost J w e w' := by
  subst hJ; exact ⟨A, n, c, out, h1, Lib.hid h2, Lib.hid h3, Lib.hid h4, Lib.hid h5⟩
theorem sz40 (w : World) : (Go.sizeOf 40).run Tryd.prog w = .ok 6 w := by kernel_rfl
theorem idx28 (g o n c i : Nat) (hi : i < n) (w : World) : (Instr.indexAt 28 (.slice (some ⟨g, o, none⟩) n c) (.int .i64 (i : Int))).run Tryd.prog w = .ok (.pointer (some ⟨g, o + i * 6, none⟩)) w := by
  have := run_indexT (P := Tryd.prog) (w := w) Tryd.underlying28 (sz40 w) (A := ⟨g, o, none⟩) (n := n) (c := c) hi
  rw [add_flat] at this
  exact this
theorem fld402g (g o : Nat) (w : World) : (Instr.fieldAt 40 (.pointer (some ⟨g, o, none⟩)) 2).run Tryd.prog w = .ok (.pointer (some ⟨g, o + 2, none⟩)) w := by kernel_rfl
theorem fld384 (g : Nat) (w : World) : (Instr.fieldAt 38 (.pointer (some ⟨g, 0, none⟩)) 4).run Tryd.prog w = .ok (.pointer (some ⟨g, 4, none⟩)) w := by kernel_rfl
theorem agg22 (w : World) : (isAgg 22).run Tryd.prog w = .ok false w := by kernel_rfl
theorem stay {rs : List Ru} {n : Nm} {zz : Int} {j : Nat} {r : Ru} (h : (zz = -1 ∧ has (rs.take j) n = false) ∨ ∃ (i : Nat) (r : Ru), zz = (i : Int) ∧ i < j ∧ rs[i]? = some r ∧ r.nm = n) (hr : rs[j]? = some r) (e : r.nm ≠ n) : (zz = -1 ∧ has (rs.take (j + 1)) n = false) ∨ ∃ (i : Nat) (r : Ru), zz = (i : Int) ∧ i < j + 1 ∧ rs[i]? = some r ∧ r.nm = n := by
  rcases h with ⟨h1, h2⟩ | ⟨i, p, h1, h2, h3⟩
  · exact .inl ⟨h1, has_take hr h2 e⟩
  · exact .inr ⟨i, p, h1, by omega, h3⟩
def RowM (r : Ru) (N base : Nat) (v : Value) (w : World) : Prop := ∃ q A c, v = .slice (some ⟨q, 0, none⟩) 1 1 ∧ OwnI .u8 5 base w A N c (List.replicate N 0) ∧ w.heap[q]? = some (.cells (avc ⟨r.code, r.vendor, r.must, false, A, N, c, List.replicate N 0⟩).toArray 38 (0, 0))
theorem keeps_rowM (r : Ru) (N base : Nat) : Keeps (RowM r N base) := fun v w w' ⟨q, A, c, h1, h2, h3⟩ hu => ⟨q, A, c, h1, own_up h2 hu, (hu.block _ (lt_of_blk h3)).trans h3⟩
theorem fault_none {rs : List Ru} {pre : List Av.Avp} {a : Av.Avp} (h : has rs (nmA a) = false) : fault rs pre a = if a.must then 5001 else 0 := by
  have : find rs (nmA a) = none := find_none fun i r hi e => by
    have h2 : has rs (nmA a) = true := has_true.2 ⟨r, List.mem_of_getElem? hi, e⟩
    rw [h] at h2; cases h2
  unfold fault; rw [this]
theorem fault_some {rs : List Ru} {pre : List Av.Avp} {a : Av.Avp} {i : Nat} {r : Ru} (hs : sound rs = true) (hi : rs[i]? = some r) (hn : r.nm = nmA a) : fault rs pre a = if r.most = 0 then 5008 else if r.most < ((cnt r.nm pre + 1 : Nat) : Int) then 5009 else valF r.type a.bs := by
  have : find rs (nmA a) = some r := find_some hi hn fun j q hj hq e => by
    have := sound_inj hs hi hq (hn.trans e.symm)
    omega
  unfold fault; rw [this, hn]; simp only [Int.natCast_add, Int.natCast_one]
theorem judge_r {rs : List Ru} {l : List Av.Avp} {k : Nat} {a : Av.Avp} {f : Int} (h : sound rs = true) (ha : l[k]? = some a) (hp : ∀ (j : Nat) (b : Av.Avp), j < k → l[j]? = some b → fault rs (l.take j) b = 0) (hf : fault rs (l.take k) a = f) (h0 : f ≠ 0) : judge rs l = (f, [a], 0) := by
  subst hf; exact judge_hit h ha hp h0
theorem no_fault {rs : List Ru} {l : List Av.Avp} {k : Nat} {a : Av.Avp} (ha : l[k]? = some a) (hp : ∀ (j : Nat) (b : Av.Avp), j < k → l[j]? = some b → fault rs (l.take j) b = 0) (hf : fault rs (l.take k) a = 0) : ∀ (j : Nat) (b : Av.Avp), j < k + 1 → l[j]? = some b → fault rs (l.take j) b = 0 := fun j b hj hb => by
  rcases Nat.lt_or_ge j k with h3 | h3
  · exact hp j b h3 hb
  · obtain rfl : j = k := by omega
    rw [ha] at hb
    cases hb
    exact hf
set_option maxRecDepth 100000 in
set_option maxHeartbeats 8000000 in
theorem rjudge_any (A : Option Addr) (m c : Nat) (rs : List Ru) (B : Option Addr) (n d : Nat) (l : List AvB) (w : World) (h : InR w A m c rs) (hl : InL w B n d l) (hm : m ≤ 140737488351232) (hn : n ≤ 140737488351232) :
    Calls Tryd.prog 18 #[.slice A m c, .slice B n d] w (RPost (judge rs (l.map AvB.pure)) w) := by
  have H := Lib.hid h
  have HI := Lib.hid hl
  have HL := Lib.hid h.len
  have HLn := Lib.hid (show (l.map AvB.pure).length = n by simp [hl.len])
  have hcap := h.cap
  have hcap2 := hl.cap
  have hmo : Tryd.prog.follows .mixedOrders = true := by kernel_rfl
  clear h hl
  go_enter Tryd.func18, Tryd.ntmps18
  go_wp2_with fail
  refine (rulesOK_any A m c rs w H.out hm).mono ?_
  rintro e w1 ⟨rfl, hu⟩
  have HU1 := Lib.hid hu
  clear hu
  cases hs : sound rs
  · have HJ := Lib.hid (judge_bad (l := l.map AvB.pure) hs)
    go_wp2_with fail
    go_ret3
    exact rpost HJ.out rfl (inL_nil _) rfl (by omega) HU1.out
  · have HS := Lib.hid hs
    have hm64 : m ≤ 64 := by have := (sound_at hs).1; rw [HL.out] at this; exact this
    clear hs
    have hmk := make_ints m (by omega) w1
    have HC2 := Lib.hid (show CntB (w1.alloc (.cells (List.replicate m (.int .i64 0)).toArray 3)) w1.heap.size (cntL rs ((l.map AvB.pure).take 0)) by
      unfold CntB
      rw [List.take_zero, cntL_nil, HL.out, show ints .i64 (List.replicate m 0) = List.replicate m (.int .i64 0) by simp [ints]]
      exact new_at _ _)
    have HU2 := Lib.hid (HU1.out.trans (up_alloc w1 (.cells (List.replicate m (.int .i64 0)).toArray 3)))
    have HQ := Lib.hid HU1.out.size
    rw [List.toArray_replicate] at HC2 HU2 hmk
    go_upto_region 4 with (fail)
    clear hmk
    generalize w1.alloc (.cells (Array.replicate m (.int .i64 0)) 3) = w2 at HC2 HU2 ⊢
    generalize w1.heap.size = q at HC2 HQ ⊢
    clear HU1
    go_wp2_with fail
    go_loopw [8] (fun i wr => ∃ k : Nat, k ≤ n ∧ i = .int .i64 (k : Int) ∧ Hid (∀ (j : Nat) (b : Av.Avp), j < k → (l.map AvB.pure)[j]? = some b → fault rs ((l.map AvB.pure).take j) b = 0) ∧ Hid (CntB wr q (cntL rs ((l.map AvB.pure).take k))) ∧ Hid (Up w wr)) (fun i _ => n - (intOf i).toNat)
    case atStart => exact ⟨0, Nat.zero_le _, rfl, Lib.hid (fun j b hj => absurd hj (by omega)), HC2, HU2⟩
    case round =>
      clear HC2 HU2
      obtain ⟨k, hk, rfl, hA, hM, hU⟩ := hrel
      by_cases hlt : k < n
      · have d1 : decide ((k : Int) < (n : Int)) = true := decide_eq_true (by omega)
        obtain ⟨x, g, o, hx, rfl, k0, k1, k2, k3, k4, hci⟩ := (HI.out.up hU.out).at_ hlt
        have HXE := Lib.hid (show (l.map AvB.pure)[k]? = some x.pure by simp [hx])
        have HXI := Lib.hid (HI.out.av x (List.mem_of_getElem? hx))
        clear hx hci
        have HCa := Lib.hid (new_at wr (avO x))
        have HUa := Lib.hid (up_alloc wr (avO x))
        have HPQ := Lib.hid (show ¬ wr.heap.size = q from fun e => by have := lt_of_blk hM.out; omega)
        go_upto_region 8 with (fail)
        change Code.wp _ _ _ _ (wr.alloc (avO x))
        generalize wr.alloc (avO x) = wa at HCa HUa ⊢
        generalize wr.heap.size = p at HCa HPQ ⊢
        clear k0 k1 k2 k3 k4
        have HUA := Lib.hid (hU.out.trans HUa.out)
        have HMa := Lib.hid (hM.out.up HUa.out)
        clear HUa hM hU
        go_wp2_with fail
        go_loopw [10, 11] (fun z i wr => ∃ (zz : Int) (j : Nat), j ≤ m ∧ i = .int .i64 (j : Int) ∧ z = .int .i64 zz ∧ Hid ((zz = -1 ∧ has (rs.take j) (nmA x.pure) = false) ∨ ∃ (i : Nat) (r : Ru), zz = (i : Int) ∧ i < j ∧ rs[i]? = some r ∧ r.nm = nmA x.pure) ∧ Hid (Up wa wr)) (fun _ i _ => m - (intOf i).toNat)
        case atStart => exact ⟨-1, 0, Nat.zero_le _, rfl, rfl, Lib.hid (.inl ⟨rfl, by simp [has]⟩), Lib.hid (Up.refl _)⟩
        case round =>
          obtain ⟨zz, j, hj, rfl, rfl, hZ, hV⟩ := hrel
          by_cases hjm : j < m
          · have d2 : decide ((j : Int) < (m : Int)) = true := decide_eq_true (by omega)
            have hjz : (j : Int) < (m : Int) := by omega
            obtain ⟨r, g', o', hr, rfl, ⟨k0, k1, -, -, -, -⟩, -⟩ := (H.out.up (HUA.out.trans hV.out)).at_ hjm
            have HR := Lib.hid hr
            clear hr
            have z0 := cell_up (cell_of HCa.out (j := 0) rfl) hV.out
            have z1 := cell_up (cell_of HCa.out (j := 1) rfl) hV.out
            go_upto_region 12 with (fail)
            by_cases e1 : r.code = x.code
            · have f1 : (r.code == x.code) = true := by simp [e1]
              by_cases e2 : r.vendor = x.vendor
              · have f2 : (r.vendor == x.vendor) = true := by simp [e2]
                have HZ2 := Lib.hid (show ((j : Int) = -1 ∧ has (rs.take (j + 1)) (nmA x.pure) = false) ∨ ∃ (i : Nat) (r : Ru), (j : Int) = (i : Int) ∧ i < j + 1 ∧ rs[i]? = some r ∧ r.nm = nmA x.pure from .inr ⟨j, r, rfl, by omega, HR.out, Prod.ext e1 e2⟩)
                clear e1 e2
                go_big_quiet_o (fail)
                have HX := Lib.hid (Up.trans hV.out (up_drewN _ nq))
                generalize wr.drewN nq = wq at HX ⊢
                go_wp2_with fail
                go_roundw
                case rel => exact ⟨_, j + 1, by omega, by go_num, rfl, HZ2, HX⟩
                case measure => simp [intOf]; omega
              · have f2 : (r.vendor == x.vendor) = false := by simp [e2]
                have HZ2 := Lib.hid (stay hZ.out HR.out (fun e => e2 (congrArg Prod.snd e)))
                clear e1 e2
                go_big_quiet_o (fail)
                have HX := Lib.hid (Up.trans hV.out (up_drewN _ nq))
                generalize wr.drewN nq = wq at HX ⊢
                go_wp2_with fail
                go_roundw
                case rel => exact ⟨_, j + 1, by omega, by go_num, rfl, HZ2, HX⟩
                case measure => simp [intOf]; omega
            · have f1 : (r.code == x.code) = false := by simp [e1]
              have HZ2 := Lib.hid (stay hZ.out HR.out (fun e => e1 (congrArg Prod.fst e)))
              clear e1
              go_big_quiet_o (fail)
              have HX := Lib.hid (Up.trans hV.out (up_drewN _ nq))
              generalize wr.drewN nq = wq at HX ⊢
              go_wp2_with fail
              go_roundw
              case rel => exact ⟨_, j + 1, by omega, by go_num, rfl, HZ2, HX⟩
              case measure => simp [intOf]; omega
          · have d2 : decide ((j : Int) < (m : Int)) = false := decide_eq_false (by omega)
            obtain rfl : j = m := by omega
            have hZ := Lib.hid (show (zz = -1 ∧ has rs (nmA x.pure) = false) ∨ ∃ (i : Nat) (r : Ru), zz = (i : Int) ∧ i < j ∧ rs[i]? = some r ∧ r.nm = nmA x.pure by have h1 := hZ.out; rw [List.take_of_length_le (by rw [HL.out]; exact Nat.le_refl _)] at h1; exact h1)
            have HMw := Lib.hid (HMa.out.up hV.out)
            have HCw := Lib.hid (blk_up HCa.out hV.out)
            have HUw := Lib.hid (HUA.out.trans hV.out)
            clear HMa HCa HUA hV
            rcases hZ.out with ⟨rfl, hno⟩ | ⟨i, r, rfl, hij, hir, hrn⟩
            · clear hZ
              have HFN := Lib.hid (fault_none (pre := (l.map AvB.pure).take k) hno)
              have HMn := Lib.hid (show CntB wr q (cntL rs ((l.map AvB.pure).take (k + 1))) by rw [take_snoc HXE.out, cntL_none hno]; exact HMw.out)
              clear hno HMw
              have z2 : wr.cell? ⟨p, 2, none⟩ = some (.bool x.must) := cell_of HCw.out (j := 2) rfl
              cases hmu : x.must
              · have HA2 := Lib.hid (no_fault HXE.out hA.out (by rw [HFN.out, show x.pure.must = x.must from rfl, hmu]; rfl))
                rw [hmu] at z2
                go_wp2_with fail
                go_roundw
                case rel => exact ⟨k + 1, by omega, by go_num, HA2, HMn, HUw⟩
                case measure => simp [intOf]; omega
              · have HJ := Lib.hid (judge_r HS.out HXE.out hA.out (f := 5001) (by rw [HFN.out, show x.pure.must = x.must from rfl, hmu]; rfl) (by decide))
                rw [hmu] at z2
                go_upto_region 29 with (fail)
                have HK : ∀ φ ∈ [Is (.int .i64 5001), Is (avV x), RowX x wr.heap.size, Is (.int .i64 5001), RowX x wr.heap.size, Is (.int .i64 0)], Keeps φ := by
                  simp [keeps_is, keeps_rowX]
                refine staged_lit (by kernel_rfl) (facts [Is (.int .i64 5001), Is (avV x), RowX x wr.heap.size, Is (.int .i64 5001), RowX x wr.heap.size, Is (.int .i64 0)]) (Stg [] (fun _ y => Up wr y)) 129 rfl (by decide +kernel) (by decide +kernel) (Stg.start (Up.drew wr)) ?_ ?_
                · refine ⟨?_, ?_, ?_, ?_, ?_, ?_, trivial⟩
                  · refine opS_same rfl rfl fun Lx ac w1 hJ hl hc ho hd => ?_
                    have s12 : ac.eval (.tmp 12) = .int .i64 5001 := ho 12 rfl
                    exact ⟨_, x_move (.tmp 12) rfl s12, rfl⟩
                  · refine opS_same rfl rfl fun Lx ac w1 hJ hl hc ho hd => ?_
                    have s9 : ac.eval (.tmp 9) = .pointer (some ⟨p, 0, none⟩) := ho 9 rfl
                    obtain ⟨_, _, hU⟩ := hJ
                    exact ⟨_, x_load 38 _ rfl s9 (load38 (blk_up HCw.out hU)), rfl⟩
                  · refine opS_grow rfl rfl (fun k wx wy h hu => Up.trans h hu) (facts_keep HK) fun L ac wx hJ hl hc ho hd => ?_
                    have d1 : ac.eval (.tmp 98) = avV x := hd 1 _ _ rfl rfl rfl
                    obtain ⟨_, _, hU⟩ := hJ
                    exact fine_run _ _ (x_bslice 29 1 _ rfl (by simp only [List.map_toArray, List.map_cons, List.map_nil, d1]; exact bslice1 _ _ _ _ _ _ _ _)) (up_alloc _ _) ⟨wx.heap.size, rfl, hU.size, new_at _ _⟩
                  · refine opS_same rfl rfl fun Lx ac w1 hJ hl hc ho hd => ?_
                    have d0 : ac.eval (.tmp 97) = .int .i64 5001 := hd 0 _ _ rfl rfl rfl
                    exact ⟨_, x_assign (.tmp 97) rfl d0, rfl⟩
                  · refine opS_same rfl rfl fun Lx ac w1 hJ hl hc ho hd => ?_
                    have d2 := hd 2 _ _ rfl rfl rfl
                    obtain ⟨q9, hv, h9, hw9⟩ := d2
                    have d2b : ac.eval (.tmp 99) = .slice (some ⟨q9, 0, none⟩) 1 1 := hv
                    exact ⟨_, x_assign (.tmp 99) rfl d2b, q9, rfl, h9, hw9⟩
                  · refine opS_same rfl rfl fun Lx ac w1 hJ hl hc ho hd => ?_
                    exact ⟨_, x_assign (.const (.int .i64 0)) rfl rfl, rfl⟩
                · intro L1 a1 w9 hI hall
                  obtain ⟨_, _, hUF⟩ := hI.done hall (by simp)
                  have HU9 := Lib.hid (show Up wr w9 from hUF)
                  obtain ⟨q9, l5, h9, hw9⟩ := hI.facts 4 _ 5 rfl (hall 4 (by decide)) rfl
                  clear hUF
                  have l4 : a1.tmps.getD 4 undef = .int .i64 5001 := hI.get hall (i := 3) rfl rfl
                  have l6 : a1.tmps.getD 6 undef = .int .i64 0 := hI.get hall (i := 5) rfl rfl
                  have hde : a1.defers = [] := hI.defers
                  have hal := act_lit a1 129 hI.size
                  clear hI
                  simp only [List.range, List.range.loop, List.map_cons, List.map_nil] at hal
                  rw [l4, l5, l6, hde] at hal
                  generalize a1.tmps.getD 0 undef = t0 at hal
                  generalize a1.tmps.getD 1 undef = t1 at hal
                  generalize a1.tmps.getD 2 undef = t2 at hal
                  generalize a1.tmps.getD 3 undef = t3 at hal
                  generalize a1.tmps.getD 7 undef = t7 at hal
                  generalize a1.tmps.getD 8 undef = t8 at hal
                  generalize a1.tmps.getD 9 undef = t9 at hal
                  generalize a1.tmps.getD 10 undef = t10 at hal
                  generalize a1.tmps.getD 11 undef = t11 at hal
                  generalize a1.tmps.getD 12 undef = t12 at hal
                  generalize a1.tmps.getD 13 undef = t13 at hal
                  generalize a1.tmps.getD 14 undef = t14 at hal
                  generalize a1.tmps.getD 15 undef = t15 at hal
                  generalize a1.tmps.getD 16 undef = t16 at hal
                  generalize a1.tmps.getD 17 undef = t17 at hal
                  generalize a1.tmps.getD 18 undef = t18 at hal
                  generalize a1.tmps.getD 19 undef = t19 at hal
                  generalize a1.tmps.getD 20 undef = t20 at hal
                  generalize a1.tmps.getD 21 undef = t21 at hal
                  generalize a1.tmps.getD 22 undef = t22 at hal
                  generalize a1.tmps.getD 23 undef = t23 at hal
                  generalize a1.tmps.getD 24 undef = t24 at hal
                  generalize a1.tmps.getD 25 undef = t25 at hal
                  generalize a1.tmps.getD 26 undef = t26 at hal
                  generalize a1.tmps.getD 27 undef = t27 at hal
                  generalize a1.tmps.getD 28 undef = t28 at hal
                  generalize a1.tmps.getD 29 undef = t29 at hal
                  generalize a1.tmps.getD 30 undef = t30 at hal
                  generalize a1.tmps.getD 31 undef = t31 at hal
                  generalize a1.tmps.getD 32 undef = t32 at hal
                  generalize a1.tmps.getD 33 undef = t33 at hal
                  generalize a1.tmps.getD 34 undef = t34 at hal
                  generalize a1.tmps.getD 35 undef = t35 at hal
                  generalize a1.tmps.getD 36 undef = t36 at hal
                  generalize a1.tmps.getD 37 undef = t37 at hal
                  generalize a1.tmps.getD 38 undef = t38 at hal
                  generalize a1.tmps.getD 39 undef = t39 at hal
                  generalize a1.tmps.getD 40 undef = t40 at hal
                  generalize a1.tmps.getD 41 undef = t41 at hal
                  generalize a1.tmps.getD 42 undef = t42 at hal
                  generalize a1.tmps.getD 43 undef = t43 at hal
                  generalize a1.tmps.getD 44 undef = t44 at hal
                  generalize a1.tmps.getD 45 undef = t45 at hal
                  generalize a1.tmps.getD 46 undef = t46 at hal
                  generalize a1.tmps.getD 47 undef = t47 at hal
                  generalize a1.tmps.getD 48 undef = t48 at hal
                  generalize a1.tmps.getD 49 undef = t49 at hal
                  generalize a1.tmps.getD 50 undef = t50 at hal
                  generalize a1.tmps.getD 51 undef = t51 at hal
                  generalize a1.tmps.getD 52 undef = t52 at hal
                  generalize a1.tmps.getD 53 undef = t53 at hal
                  generalize a1.tmps.getD 54 undef = t54 at hal
                  generalize a1.tmps.getD 55 undef = t55 at hal
                  generalize a1.tmps.getD 56 undef = t56 at hal
                  generalize a1.tmps.getD 57 undef = t57 at hal
                  generalize a1.tmps.getD 58 undef = t58 at hal
                  generalize a1.tmps.getD 59 undef = t59 at hal
                  generalize a1.tmps.getD 60 undef = t60 at hal
                  generalize a1.tmps.getD 61 undef = t61 at hal
                  generalize a1.tmps.getD 62 undef = t62 at hal
                  generalize a1.tmps.getD 63 undef = t63 at hal
                  generalize a1.tmps.getD 64 undef = t64 at hal
                  generalize a1.tmps.getD 65 undef = t65 at hal
                  generalize a1.tmps.getD 66 undef = t66 at hal
                  generalize a1.tmps.getD 67 undef = t67 at hal
                  generalize a1.tmps.getD 68 undef = t68 at hal
                  generalize a1.tmps.getD 69 undef = t69 at hal
                  generalize a1.tmps.getD 70 undef = t70 at hal
                  generalize a1.tmps.getD 71 undef = t71 at hal
                  generalize a1.tmps.getD 72 undef = t72 at hal
                  generalize a1.tmps.getD 73 undef = t73 at hal
                  generalize a1.tmps.getD 74 undef = t74 at hal
                  generalize a1.tmps.getD 75 undef = t75 at hal
                  generalize a1.tmps.getD 76 undef = t76 at hal
                  generalize a1.tmps.getD 77 undef = t77 at hal
                  generalize a1.tmps.getD 78 undef = t78 at hal
                  generalize a1.tmps.getD 79 undef = t79 at hal
                  generalize a1.tmps.getD 80 undef = t80 at hal
                  generalize a1.tmps.getD 81 undef = t81 at hal
                  generalize a1.tmps.getD 82 undef = t82 at hal
                  generalize a1.tmps.getD 83 undef = t83 at hal
                  generalize a1.tmps.getD 84 undef = t84 at hal
                  generalize a1.tmps.getD 85 undef = t85 at hal
                  generalize a1.tmps.getD 86 undef = t86 at hal
                  generalize a1.tmps.getD 87 undef = t87 at hal
                  generalize a1.tmps.getD 88 undef = t88 at hal
                  generalize a1.tmps.getD 89 undef = t89 at hal
                  generalize a1.tmps.getD 90 undef = t90 at hal
                  generalize a1.tmps.getD 91 undef = t91 at hal
                  generalize a1.tmps.getD 92 undef = t92 at hal
                  generalize a1.tmps.getD 93 undef = t93 at hal
                  generalize a1.tmps.getD 94 undef = t94 at hal
                  generalize a1.tmps.getD 95 undef = t95 at hal
                  generalize a1.tmps.getD 96 undef = t96 at hal
                  generalize a1.tmps.getD 97 undef = t97 at hal
                  generalize a1.tmps.getD 98 undef = t98 at hal
                  generalize a1.tmps.getD 99 undef = t99 at hal
                  generalize a1.tmps.getD 100 undef = t100 at hal
                  generalize a1.tmps.getD 101 undef = t101 at hal
                  generalize a1.tmps.getD 102 undef = t102 at hal
                  generalize a1.tmps.getD 103 undef = t103 at hal
                  generalize a1.tmps.getD 104 undef = t104 at hal
                  generalize a1.tmps.getD 105 undef = t105 at hal
                  generalize a1.tmps.getD 106 undef = t106 at hal
                  generalize a1.tmps.getD 107 undef = t107 at hal
                  generalize a1.tmps.getD 108 undef = t108 at hal
                  generalize a1.tmps.getD 109 undef = t109 at hal
                  generalize a1.tmps.getD 110 undef = t110 at hal
                  generalize a1.tmps.getD 111 undef = t111 at hal
                  generalize a1.tmps.getD 112 undef = t112 at hal
                  generalize a1.tmps.getD 113 undef = t113 at hal
                  generalize a1.tmps.getD 114 undef = t114 at hal
                  generalize a1.tmps.getD 115 undef = t115 at hal
                  generalize a1.tmps.getD 116 undef = t116 at hal
                  generalize a1.tmps.getD 117 undef = t117 at hal
                  generalize a1.tmps.getD 118 undef = t118 at hal
                  generalize a1.tmps.getD 119 undef = t119 at hal
                  generalize a1.tmps.getD 120 undef = t120 at hal
                  generalize a1.tmps.getD 121 undef = t121 at hal
                  generalize a1.tmps.getD 122 undef = t122 at hal
                  generalize a1.tmps.getD 123 undef = t123 at hal
                  generalize a1.tmps.getD 124 undef = t124 at hal
                  generalize a1.tmps.getD 125 undef = t125 at hal
                  generalize a1.tmps.getD 126 undef = t126 at hal
                  generalize a1.tmps.getD 127 undef = t127 at hal
                  generalize a1.tmps.getD 128 undef = t128 at hal
                  clear l4 l5 l6 hde
                  subst hal
                  have HG := Lib.hid (inL_one (x := x) hw9 (HXI.out.up (HUw.out.trans HU9.out)))
                  clear h9 hw9
                  go_wp2_with fail
                  go_ret3
                  exact rpost HJ.out rfl HG.out rfl (by omega) (HUw.out.trans HU9.out)
            · clear hZ
              have HRN := Lib.hid hrn
              have HIR := Lib.hid hir
              have HFS := Lib.hid (fault_some (pre := (l.map AvB.pure).take k) HS.out hir hrn)
              have hcell := HMw.out.at_ hir
              have hfz := frozen_at (j := i) HMw.out
              have hcn := cnt_le r.nm ((l.map AvB.pure).take k)
              have hcn2 : ((l.map AvB.pure).take k).length ≤ n := by rw [List.length_take, HLn.out]; omega
              have HCL := Lib.hid (cntL_some (pre := (l.map AvB.pure).take k) HS.out hir hrn)
              clear hir hrn
              obtain ⟨cN, hcN⟩ : ∃ cN, cnt r.nm ((l.map AvB.pure).take k) = cN := ⟨_, rfl⟩
              rw [hcN] at hcell hcn HCL HFS
              have hcb : cN ≤ 140737488351232 := by omega
              clear hcn hcn2 hcN
              rw [← take_snoc HXE.out] at HCL
              have d3 : decide ((i : Int) < 0) = false := decide_eq_false (by omega)
              have hiz : (i : Int) < (j : Int) := by omega
              have hst := setCell_out wr q i (.int .i64 ((cN : Int) + 1))
              have HM3 := Lib.hid (show CntB (wr.setCell ⟨q, i, none⟩ (.int .i64 ((cN : Int) + 1))) q (cntL rs ((l.map AvB.pure).take (k + 1))) by rw [HCL.out]; exact HMw.out.set ((cN : Int) + 1))
              have HU3 := Lib.hid (show Up w (wr.setCell ⟨q, i, none⟩ (.int .i64 ((cN : Int) + 1))) from Below.out HUw.out hst (fun t ht => by have e2 : t = q := ht; rw [e2]; exact HQ.out) HUw.out.size)
              have HC3 := Lib.hid (hst.blk HCw.out HPQ.out)
              have HCE := Lib.hid (show (wr.setCell ⟨q, i, none⟩ (.int .i64 ((cN : Int) + 1))).cell? ⟨q, i, none⟩ = some (.int .i64 ((cN : Int) + 1)) from cell_of (HMw.out.set ((cN : Int) + 1)) (j := i) (by have h1 := HL.out; simp [ints, cntL, List.getElem?_set, h1, hij]))
              go_upto_region 19 with (fail)
              clear hcell hfz hst
              generalize wr.setCell ⟨q, i, none⟩ (.int .i64 ((cN : Int) + 1)) = w3 at HM3 HU3 HC3 HCE ⊢
              clear HMw HCw HUw HCL
              obtain ⟨r', g', o', hr', rfl, ⟨k0, k1, k2, k3, k4, k5⟩, -⟩ := (H.out.up HU3.out).at_ hij
              obtain rfl : r = r' := by have := HIR.out.symm.trans hr'; simpa using this
              have HK2 := Lib.hid k2
              have HK5 := Lib.hid k5
              clear hr' k0 k1 k2 k3 k4 k5
              have HFE := Lib.hid (show valF r.type x.pure.bs = if fitsR r.type x.bs = 0 then 0 else if fitsR r.type x.bs = 3 then 5014 else 5004 from rfl)
              have HRF := Lib.hid (fun wx (hU : Up w3 wx) => rfits_any r.type x.A x.n x.c x.bs wx (HXI.out.inb.up (Up.trans HU3.out hU)) (by have := HXI.out.n; omega))
              generalize fitsR r.type x.bs = E at HFE HRF
              have HK : ∀ φ ∈ [Is (.slice (some ⟨g', o', none⟩) j c), Is (.int .i64 (i : Int)), Is (.pointer (some ⟨g', o' + i * 6, none⟩)), Is (.pointer (some ⟨g', o' + i * 6 + 2, none⟩)), Is (.int .i64 r.type), Is (.pointer (some ⟨p, 4, none⟩)), Is (.slice x.A x.n x.c), Is (.int .i64 E), Is (.int .i64 E)], Keeps φ := by
                simp [keeps_is]
              refine staged_lit (by kernel_rfl) (facts [Is (.slice (some ⟨g', o', none⟩) j c), Is (.int .i64 (i : Int)), Is (.pointer (some ⟨g', o' + i * 6, none⟩)), Is (.pointer (some ⟨g', o' + i * 6 + 2, none⟩)), Is (.int .i64 r.type), Is (.pointer (some ⟨p, 4, none⟩)), Is (.slice x.A x.n x.c), Is (.int .i64 E), Is (.int .i64 E)]) (Stg [] (fun _ x => Up w3 x)) 129 rfl (by decide +kernel) (by decide +kernel) (Stg.start (Up.drew w3)) ?_ ?_
              · refine ⟨?_, ?_, ?_, ?_, ?_, ?_, ?_, ?_, ?_, trivial⟩
                · refine opS_same rfl rfl fun Lx ac w1 hJ hl hc ho hd => ?_
                  have s0 : ac.eval (.tmp 0) = .slice (some ⟨g', o', none⟩) j c := ho 0 rfl
                  exact ⟨_, x_move (.tmp 0) rfl s0, rfl⟩
                · refine opS_same rfl rfl fun Lx ac w1 hJ hl hc ho hd => ?_
                  have s10 : ac.eval (.tmp 10) = .int .i64 (i : Int) := ho 10 rfl
                  exact ⟨_, x_move (.tmp 10) rfl s10, rfl⟩
                · refine opS_same rfl rfl fun Lx ac w1 hJ hl hc ho hd => ?_
                  have d0 : ac.eval (.tmp 67) = .slice (some ⟨g', o', none⟩) j c := hd 0 _ _ rfl rfl rfl
                  have d1 : ac.eval (.tmp 68) = .int .i64 (i : Int) := hd 1 _ _ rfl rfl rfl
                  exact ⟨_, x_index 28 (.tmp 67) (.tmp 68) rfl d0 d1 (idx28 _ _ _ _ _ hij _), rfl⟩
                · refine opS_same rfl rfl fun Lx ac w1 hJ hl hc ho hd => ?_
                  have d2 : ac.eval (.tmp 69) = .pointer (some ⟨g', o' + i * 6, none⟩) := hd 2 _ _ rfl rfl rfl
                  exact ⟨_, x_field 40 (.tmp 69) 2 rfl d2 (fld402g _ _ _), rfl⟩
                · refine opS_same rfl rfl fun Lx ac w1 hJ hl hc ho hd => ?_
                  have d3 : ac.eval (.tmp 70) = .pointer (some ⟨g', o' + i * 6 + 2, none⟩) := hd 3 _ _ rfl rfl rfl
                  obtain ⟨_, _, hU⟩ := hJ
                  exact ⟨_, x_load 3 (.tmp 70) rfl d3 (run_load1 agg3 (cell_up HK2.out hU)), rfl⟩
                · refine opS_same rfl rfl fun Lx ac w1 hJ hl hc ho hd => ?_
                  have s9 : ac.eval (.tmp 9) = .pointer (some ⟨p, 0, none⟩) := ho 9 rfl
                  exact ⟨_, x_field 38 (.tmp 9) 4 rfl s9 (fld384 _ _), rfl⟩
                · refine opS_same rfl rfl fun Lx ac w1 hJ hl hc ho hd => ?_
                  have d5 : ac.eval (.tmp 72) = .pointer (some ⟨p, 4, none⟩) := hd 5 _ _ rfl rfl rfl
                  obtain ⟨_, _, hU⟩ := hJ
                  exact ⟨_, x_load 22 (.tmp 72) rfl d5 (run_load1 agg22 (cell_up (cell_of HC3.out (j := 4) rfl) hU)), rfl⟩
                · refine opS_callUp rfl rfl (fun k wx wy h hu => Up.trans h hu) (facts_keep HK) fun L ac wx hJ hl hc ho hd => ?_
                  have d4 : ac.eval (.tmp 71) = .int .i64 r.type := hd 4 _ _ rfl rfl rfl
                  have d6 : ac.eval (.tmp 73) = .slice x.A x.n x.c := hd 6 _ _ rfl rfl rfl
                  obtain ⟨_, _, hU⟩ := hJ
                  refine ⟨11, _, x_fcall 11 [.tmp 71, .tmp 73] _ rfl (by kernel_rfl), ?_⟩
                  simp only [List.map_cons, List.map_nil, d4, d6]
                  exact (HRF.out wx hU).mono fun e w2 ⟨he, hu⟩ => ⟨_, he, hu, rfl⟩
                · refine opS_same rfl rfl fun Lx ac w1 hJ hl hc ho hd => ?_
                  have d7 : ac.eval (.tmp 74) = .int .i64 E := hd 7 _ _ rfl rfl rfl
                  exact ⟨_, x_assign (.tmp 74) rfl d7, rfl⟩
              · intro L1 a1 w4 hI hall
                obtain ⟨kq, hk, hUF⟩ := hI.done hall (by simp)
                have HUn := Lib.hid (show Up w3 w4 from hUF)
                clear hk hUF kq
                have l0 : a1.tmps.getD 0 undef = .slice (some ⟨g', o', none⟩) j c := hI.old 0 rfl
                have l1 : a1.tmps.getD 1 undef = .slice (some ⟨g, o, none⟩) n d := hI.old 1 rfl
                have l2 : a1.tmps.getD 2 undef = undef := hI.old 2 rfl
                have l3 : a1.tmps.getD 3 undef = undef := hI.old 3 rfl
                have l4 : a1.tmps.getD 4 undef = u4 := hI.old 4 rfl
                have l5 : a1.tmps.getD 5 undef = u5 := hI.old 5 rfl
                have l6 : a1.tmps.getD 6 undef = u6 := hI.old 6 rfl
                have l7 : a1.tmps.getD 7 undef = .slice (some ⟨q, 0, none⟩) j j := hI.old 7 rfl
                have l8 : a1.tmps.getD 8 undef = .int .i64 (k : Int) := hI.old 8 rfl
                have l9 : a1.tmps.getD 9 undef = .pointer (some ⟨p, 0, none⟩) := hI.old 9 rfl
                have l10 : a1.tmps.getD 10 undef = .int .i64 (i : Int) := hI.old 10 rfl
                have l11 : a1.tmps.getD 11 undef = .int .i64 (j : Int) := hI.old 11 rfl
                have l12 : a1.tmps.getD 12 undef = .int .i64 0 := hI.old 12 rfl
                have l14 : a1.tmps.getD 14 undef = undef := hI.old 14 rfl
                have l15 : a1.tmps.getD 15 undef = undef := hI.old 15 rfl
                have l16 : a1.tmps.getD 16 undef = .slice (some ⟨g', o', none⟩) j c := hI.old 16 rfl
                have l17 : a1.tmps.getD 17 undef = .bool true := hI.old 17 rfl
                have l18 : a1.tmps.getD 18 undef = .bool false := hI.old 18 rfl
                have l19 : a1.tmps.getD 19 undef = .slice (some ⟨g', o', none⟩) j c := hI.old 19 rfl
                have l20 : a1.tmps.getD 20 undef = .int .i64 (j : Int) := hI.old 20 rfl
                have l21 : a1.tmps.getD 21 undef = .slice (some ⟨q, 0, none⟩) j j := hI.old 21 rfl
                have l100 : a1.tmps.getD 100 undef = undef := hI.old 100 rfl
                have l101 : a1.tmps.getD 101 undef = undef := hI.old 101 rfl
                have l102 : a1.tmps.getD 102 undef = undef := hI.old 102 rfl
                have l103 : a1.tmps.getD 103 undef = undef := hI.old 103 rfl
                have l104 : a1.tmps.getD 104 undef = undef := hI.old 104 rfl
                have l105 : a1.tmps.getD 105 undef = undef := hI.old 105 rfl
                have l106 : a1.tmps.getD 106 undef = undef := hI.old 106 rfl
                have l107 : a1.tmps.getD 107 undef = undef := hI.old 107 rfl
                have l108 : a1.tmps.getD 108 undef = undef := hI.old 108 rfl
                have l109 : a1.tmps.getD 109 undef = undef := hI.old 109 rfl
                have l110 : a1.tmps.getD 110 undef = undef := hI.old 110 rfl
                have l111 : a1.tmps.getD 111 undef = undef := hI.old 111 rfl
                have l112 : a1.tmps.getD 112 undef = undef := hI.old 112 rfl
                have l113 : a1.tmps.getD 113 undef = undef := hI.old 113 rfl
                have l114 : a1.tmps.getD 114 undef = undef := hI.old 114 rfl
                have l115 : a1.tmps.getD 115 undef = undef := hI.old 115 rfl
                have l116 : a1.tmps.getD 116 undef = undef := hI.old 116 rfl
                have l117 : a1.tmps.getD 117 undef = undef := hI.old 117 rfl
                have l118 : a1.tmps.getD 118 undef = undef := hI.old 118 rfl
                have l119 : a1.tmps.getD 119 undef = undef := hI.old 119 rfl
                have l120 : a1.tmps.getD 120 undef = undef := hI.old 120 rfl
                have l121 : a1.tmps.getD 121 undef = undef := hI.old 121 rfl
                have l122 : a1.tmps.getD 122 undef = undef := hI.old 122 rfl
                have l123 : a1.tmps.getD 123 undef = undef := hI.old 123 rfl
                have l124 : a1.tmps.getD 124 undef = undef := hI.old 124 rfl
                have l125 : a1.tmps.getD 125 undef = undef := hI.old 125 rfl
                have l126 : a1.tmps.getD 126 undef = undef := hI.old 126 rfl
                have l127 : a1.tmps.getD 127 undef = undef := hI.old 127 rfl
                have l128 : a1.tmps.getD 128 undef = undef := hI.old 128 rfl
                have l13 : a1.tmps.getD 13 undef = .int .i64 E := hI.get hall (i := 8) rfl rfl
                have hde : a1.defers = [] := hI.defers
                have hal := act_lit a1 129 hI.size
                clear hI
                simp only [List.range, List.range.loop, List.map_cons, List.map_nil] at hal
                rw [l0, l1, l2, l3, l4, l5, l6, l7, l8, l9, l10, l11, l12, l14, l15, l16, l17, l18, l19, l20, l21, l100, l101, l102, l103, l104, l105, l106, l107, l108, l109, l110, l111, l112, l113, l114, l115, l116, l117, l118, l119, l120, l121, l122, l123, l124, l125, l126, l127, l128, l13, hde] at hal
                generalize a1.tmps.getD 22 undef = t22 at hal
                generalize a1.tmps.getD 23 undef = t23 at hal
                generalize a1.tmps.getD 24 undef = t24 at hal
                generalize a1.tmps.getD 25 undef = t25 at hal
                generalize a1.tmps.getD 26 undef = t26 at hal
                generalize a1.tmps.getD 27 undef = t27 at hal
                generalize a1.tmps.getD 28 undef = t28 at hal
                generalize a1.tmps.getD 29 undef = t29 at hal
                generalize a1.tmps.getD 30 undef = t30 at hal
                generalize a1.tmps.getD 31 undef = t31 at hal
                generalize a1.tmps.getD 32 undef = t32 at hal
                generalize a1.tmps.getD 33 undef = t33 at hal
                generalize a1.tmps.getD 34 undef = t34 at hal
                generalize a1.tmps.getD 35 undef = t35 at hal
                generalize a1.tmps.getD 36 undef = t36 at hal
                generalize a1.tmps.getD 37 undef = t37 at hal
                generalize a1.tmps.getD 38 undef = t38 at hal
                generalize a1.tmps.getD 39 undef = t39 at hal
                generalize a1.tmps.getD 40 undef = t40 at hal
                generalize a1.tmps.getD 41 undef = t41 at hal
                generalize a1.tmps.getD 42 undef = t42 at hal
                generalize a1.tmps.getD 43 undef = t43 at hal
                generalize a1.tmps.getD 44 undef = t44 at hal
                generalize a1.tmps.getD 45 undef = t45 at hal
                generalize a1.tmps.getD 46 undef = t46 at hal
                generalize a1.tmps.getD 47 undef = t47 at hal
                generalize a1.tmps.getD 48 undef = t48 at hal
                generalize a1.tmps.getD 49 undef = t49 at hal
                generalize a1.tmps.getD 50 undef = t50 at hal
                generalize a1.tmps.getD 51 undef = t51 at hal
                generalize a1.tmps.getD 52 undef = t52 at hal
                generalize a1.tmps.getD 53 undef = t53 at hal
                generalize a1.tmps.getD 54 undef = t54 at hal
                generalize a1.tmps.getD 55 undef = t55 at hal
                generalize a1.tmps.getD 56 undef = t56 at hal
                generalize a1.tmps.getD 57 undef = t57 at hal
                generalize a1.tmps.getD 58 undef = t58 at hal
                generalize a1.tmps.getD 59 undef = t59 at hal
                generalize a1.tmps.getD 60 undef = t60 at hal
                generalize a1.tmps.getD 61 undef = t61 at hal
                generalize a1.tmps.getD 62 undef = t62 at hal
                generalize a1.tmps.getD 63 undef = t63 at hal
                generalize a1.tmps.getD 64 undef = t64 at hal
                generalize a1.tmps.getD 65 undef = t65 at hal
                generalize a1.tmps.getD 66 undef = t66 at hal
                generalize a1.tmps.getD 67 undef = t67 at hal
                generalize a1.tmps.getD 68 undef = t68 at hal
                generalize a1.tmps.getD 69 undef = t69 at hal
                generalize a1.tmps.getD 70 undef = t70 at hal
                generalize a1.tmps.getD 71 undef = t71 at hal
                generalize a1.tmps.getD 72 undef = t72 at hal
                generalize a1.tmps.getD 73 undef = t73 at hal
                generalize a1.tmps.getD 74 undef = t74 at hal
                generalize a1.tmps.getD 75 undef = t75 at hal
                generalize a1.tmps.getD 76 undef = t76 at hal
                generalize a1.tmps.getD 77 undef = t77 at hal
                generalize a1.tmps.getD 78 undef = t78 at hal
                generalize a1.tmps.getD 79 undef = t79 at hal
                generalize a1.tmps.getD 80 undef = t80 at hal
                generalize a1.tmps.getD 81 undef = t81 at hal
                generalize a1.tmps.getD 82 undef = t82 at hal
                generalize a1.tmps.getD 83 undef = t83 at hal
                generalize a1.tmps.getD 84 undef = t84 at hal
                generalize a1.tmps.getD 85 undef = t85 at hal
                generalize a1.tmps.getD 86 undef = t86 at hal
                generalize a1.tmps.getD 87 undef = t87 at hal
                generalize a1.tmps.getD 88 undef = t88 at hal
                generalize a1.tmps.getD 89 undef = t89 at hal
                generalize a1.tmps.getD 90 undef = t90 at hal
                generalize a1.tmps.getD 91 undef = t91 at hal
                generalize a1.tmps.getD 92 undef = t92 at hal
                generalize a1.tmps.getD 93 undef = t93 at hal
                generalize a1.tmps.getD 94 undef = t94 at hal
                generalize a1.tmps.getD 95 undef = t95 at hal
                generalize a1.tmps.getD 96 undef = t96 at hal
                generalize a1.tmps.getD 97 undef = t97 at hal
                generalize a1.tmps.getD 98 undef = t98 at hal
                generalize a1.tmps.getD 99 undef = t99 at hal
                clear l0 l1 l2 l3 l4 l5 l6 l7 l8 l9 l10 l11 l12 l14 l15 l16 l17 l18 l19 l20 l21 l100 l101 l102 l103 l104 l105 l106 l107 l108 l109 l110 l111 l112 l113 l114 l115 l116 l117 l118 l119 l120 l121 l122 l123 l124 l125 l126 l127 l128 l13 hde
                subst hal
                have HCw := Lib.hid (blk_up HC3.out HUn.out)
                have HUw := Lib.hid (HU3.out.trans HUn.out)
                have HMw := Lib.hid (HM3.out.up HUn.out)
                have c5 := cell_up HK5.out HUn.out
                have cE := cell_up HCE.out HUn.out
                have hijz : (i : Int) < (j : Int) := by omega
                clear HC3 HU3 HM3 HK2 HK5 HCE HRF HUn HK
                by_cases h0 : r.most = 0
                · have d4 : (r.most == 0) = true := by simp [h0]
                  have HJ := Lib.hid (judge_r HS.out HXE.out hA.out (f := 5008) (by rw [HFS.out, if_pos h0]) (by decide))
                  go_upto_region 29 with (fail)
                  have HK : ∀ φ ∈ [Is (.int .i64 5008), Is (avV x), RowX x w4.heap.size, Is (.int .i64 5008), RowX x w4.heap.size, Is (.int .i64 0)], Keeps φ := by
                    simp [keeps_is, keeps_rowX]
                  refine staged_lit (by kernel_rfl) (facts [Is (.int .i64 5008), Is (avV x), RowX x w4.heap.size, Is (.int .i64 5008), RowX x w4.heap.size, Is (.int .i64 0)]) (Stg [] (fun _ y => Up w4 y)) 129 rfl (by decide +kernel) (by decide +kernel) (Stg.start (Up.drew w4)) ?_ ?_
                  · refine ⟨?_, ?_, ?_, ?_, ?_, ?_, trivial⟩
                    · refine opS_same rfl rfl fun Lx ac w1 hJ hl hc ho hd => ?_
                      have s12 : ac.eval (.tmp 12) = .int .i64 5008 := ho 12 rfl
                      exact ⟨_, x_move (.tmp 12) rfl s12, rfl⟩
                    · refine opS_same rfl rfl fun Lx ac w1 hJ hl hc ho hd => ?_
                      have s9 : ac.eval (.tmp 9) = .pointer (some ⟨p, 0, none⟩) := ho 9 rfl
                      obtain ⟨_, _, hU⟩ := hJ
                      exact ⟨_, x_load 38 _ rfl s9 (load38 (blk_up HCw.out hU)), rfl⟩
                    · refine opS_grow rfl rfl (fun k wx wy h hu => Up.trans h hu) (facts_keep HK) fun L ac wx hJ hl hc ho hd => ?_
                      have d1 : ac.eval (.tmp 98) = avV x := hd 1 _ _ rfl rfl rfl
                      obtain ⟨_, _, hU⟩ := hJ
                      exact fine_run _ _ (x_bslice 29 1 _ rfl (by simp only [List.map_toArray, List.map_cons, List.map_nil, d1]; exact bslice1 _ _ _ _ _ _ _ _)) (up_alloc _ _) ⟨wx.heap.size, rfl, hU.size, new_at _ _⟩
                    · refine opS_same rfl rfl fun Lx ac w1 hJ hl hc ho hd => ?_
                      have d0 : ac.eval (.tmp 97) = .int .i64 5008 := hd 0 _ _ rfl rfl rfl
                      exact ⟨_, x_assign (.tmp 97) rfl d0, rfl⟩
                    · refine opS_same rfl rfl fun Lx ac w1 hJ hl hc ho hd => ?_
                      have d2 := hd 2 _ _ rfl rfl rfl
                      obtain ⟨q9, hv, h9, hw9⟩ := d2
                      have d2b : ac.eval (.tmp 99) = .slice (some ⟨q9, 0, none⟩) 1 1 := hv
                      exact ⟨_, x_assign (.tmp 99) rfl d2b, q9, rfl, h9, hw9⟩
                    · refine opS_same rfl rfl fun Lx ac w1 hJ hl hc ho hd => ?_
                      exact ⟨_, x_assign (.const (.int .i64 0)) rfl rfl, rfl⟩
                  · intro L1 a1 w9 hI hall
                    obtain ⟨_, _, hUF⟩ := hI.done hall (by simp)
                    have HU9 := Lib.hid (show Up w4 w9 from hUF)
                    obtain ⟨q9, l5, h9, hw9⟩ := hI.facts 4 _ 5 rfl (hall 4 (by decide)) rfl
                    clear hUF
                    have l4 : a1.tmps.getD 4 undef = .int .i64 5008 := hI.get hall (i := 3) rfl rfl
                    have l6 : a1.tmps.getD 6 undef = .int .i64 0 := hI.get hall (i := 5) rfl rfl
                    have hde : a1.defers = [] := hI.defers
                    have hal := act_lit a1 129 hI.size
                    clear hI
                    simp only [List.range, List.range.loop, List.map_cons, List.map_nil] at hal
                    rw [l4, l5, l6, hde] at hal
                    generalize a1.tmps.getD 0 undef = t0 at hal
                    generalize a1.tmps.getD 1 undef = t1 at hal
                    generalize a1.tmps.getD 2 undef = t2 at hal
                    generalize a1.tmps.getD 3 undef = t3 at hal
                    generalize a1.tmps.getD 7 undef = t7 at hal
                    generalize a1.tmps.getD 8 undef = t8 at hal
                    generalize a1.tmps.getD 9 undef = t9 at hal
                    generalize a1.tmps.getD 10 undef = t10 at hal
                    generalize a1.tmps.getD 11 undef = t11 at hal
                    generalize a1.tmps.getD 12 undef = t12 at hal
                    generalize a1.tmps.getD 13 undef = t13 at hal
                    generalize a1.tmps.getD 14 undef = t14 at hal
                    generalize a1.tmps.getD 15 undef = t15 at hal
                    generalize a1.tmps.getD 16 undef = t16 at hal
                    generalize a1.tmps.getD 17 undef = t17 at hal
                    generalize a1.tmps.getD 18 undef = t18 at hal
                    generalize a1.tmps.getD 19 undef = t19 at hal
                    generalize a1.tmps.getD 20 undef = t20 at hal
                    generalize a1.tmps.getD 21 undef = t21 at hal
                    generalize a1.tmps.getD 22 undef = t22 at hal
                    generalize a1.tmps.getD 23 undef = t23 at hal
                    generalize a1.tmps.getD 24 undef = t24 at hal
                    generalize a1.tmps.getD 25 undef = t25 at hal
                    generalize a1.tmps.getD 26 undef = t26 at hal
                    generalize a1.tmps.getD 27 undef = t27 at hal
                    generalize a1.tmps.getD 28 undef = t28 at hal
                    generalize a1.tmps.getD 29 undef = t29 at hal
                    generalize a1.tmps.getD 30 undef = t30 at hal
                    generalize a1.tmps.getD 31 undef = t31 at hal
                    generalize a1.tmps.getD 32 undef = t32 at hal
                    generalize a1.tmps.getD 33 undef = t33 at hal
                    generalize a1.tmps.getD 34 undef = t34 at hal
                    generalize a1.tmps.getD 35 undef = t35 at hal
                    generalize a1.tmps.getD 36 undef = t36 at hal
                    generalize a1.tmps.getD 37 undef = t37 at hal
                    generalize a1.tmps.getD 38 undef = t38 at hal
                    generalize a1.tmps.getD 39 undef = t39 at hal
                    generalize a1.tmps.getD 40 undef = t40 at hal
                    generalize a1.tmps.getD 41 undef = t41 at hal
                    generalize a1.tmps.getD 42 undef = t42 at hal
                    generalize a1.tmps.getD 43 undef = t43 at hal
                    generalize a1.tmps.getD 44 undef = t44 at hal
                    generalize a1.tmps.getD 45 undef = t45 at hal
                    generalize a1.tmps.getD 46 undef = t46 at hal
                    generalize a1.tmps.getD 47 undef = t47 at hal
                    generalize a1.tmps.getD 48 undef = t48 at hal
                    generalize a1.tmps.getD 49 undef = t49 at hal
                    generalize a1.tmps.getD 50 undef = t50 at hal
                    generalize a1.tmps.getD 51 undef = t51 at hal
                    generalize a1.tmps.getD 52 undef = t52 at hal
                    generalize a1.tmps.getD 53 undef = t53 at hal
                    generalize a1.tmps.getD 54 undef = t54 at hal
                    generalize a1.tmps.getD 55 undef = t55 at hal
                    generalize a1.tmps.getD 56 undef = t56 at hal
                    generalize a1.tmps.getD 57 undef = t57 at hal
                    generalize a1.tmps.getD 58 undef = t58 at hal
                    generalize a1.tmps.getD 59 undef = t59 at hal
                    generalize a1.tmps.getD 60 undef = t60 at hal
                    generalize a1.tmps.getD 61 undef = t61 at hal
                    generalize a1.tmps.getD 62 undef = t62 at hal
                    generalize a1.tmps.getD 63 undef = t63 at hal
                    generalize a1.tmps.getD 64 undef = t64 at hal
                    generalize a1.tmps.getD 65 undef = t65 at hal
                    generalize a1.tmps.getD 66 undef = t66 at hal
                    generalize a1.tmps.getD 67 undef = t67 at hal
                    generalize a1.tmps.getD 68 undef = t68 at hal
                    generalize a1.tmps.getD 69 undef = t69 at hal
                    generalize a1.tmps.getD 70 undef = t70 at hal
                    generalize a1.tmps.getD 71 undef = t71 at hal
                    generalize a1.tmps.getD 72 undef = t72 at hal
                    generalize a1.tmps.getD 73 undef = t73 at hal
                    generalize a1.tmps.getD 74 undef = t74 at hal
                    generalize a1.tmps.getD 75 undef = t75 at hal
                    generalize a1.tmps.getD 76 undef = t76 at hal
                    generalize a1.tmps.getD 77 undef = t77 at hal
                    generalize a1.tmps.getD 78 undef = t78 at hal
                    generalize a1.tmps.getD 79 undef = t79 at hal
                    generalize a1.tmps.getD 80 undef = t80 at hal
                    generalize a1.tmps.getD 81 undef = t81 at hal
                    generalize a1.tmps.getD 82 undef = t82 at hal
                    generalize a1.tmps.getD 83 undef = t83 at hal
                    generalize a1.tmps.getD 84 undef = t84 at hal
                    generalize a1.tmps.getD 85 undef = t85 at hal
                    generalize a1.tmps.getD 86 undef = t86 at hal
                    generalize a1.tmps.getD 87 undef = t87 at hal
                    generalize a1.tmps.getD 88 undef = t88 at hal
                    generalize a1.tmps.getD 89 undef = t89 at hal
                    generalize a1.tmps.getD 90 undef = t90 at hal
                    generalize a1.tmps.getD 91 undef = t91 at hal
                    generalize a1.tmps.getD 92 undef = t92 at hal
                    generalize a1.tmps.getD 93 undef = t93 at hal
                    generalize a1.tmps.getD 94 undef = t94 at hal
                    generalize a1.tmps.getD 95 undef = t95 at hal
                    generalize a1.tmps.getD 96 undef = t96 at hal
                    generalize a1.tmps.getD 97 undef = t97 at hal
                    generalize a1.tmps.getD 98 undef = t98 at hal
                    generalize a1.tmps.getD 99 undef = t99 at hal
                    generalize a1.tmps.getD 100 undef = t100 at hal
                    generalize a1.tmps.getD 101 undef = t101 at hal
                    generalize a1.tmps.getD 102 undef = t102 at hal
                    generalize a1.tmps.getD 103 undef = t103 at hal
                    generalize a1.tmps.getD 104 undef = t104 at hal
                    generalize a1.tmps.getD 105 undef = t105 at hal
                    generalize a1.tmps.getD 106 undef = t106 at hal
                    generalize a1.tmps.getD 107 undef = t107 at hal
                    generalize a1.tmps.getD 108 undef = t108 at hal
                    generalize a1.tmps.getD 109 undef = t109 at hal
                    generalize a1.tmps.getD 110 undef = t110 at hal
                    generalize a1.tmps.getD 111 undef = t111 at hal
                    generalize a1.tmps.getD 112 undef = t112 at hal
                    generalize a1.tmps.getD 113 undef = t113 at hal
                    generalize a1.tmps.getD 114 undef = t114 at hal
                    generalize a1.tmps.getD 115 undef = t115 at hal
                    generalize a1.tmps.getD 116 undef = t116 at hal
                    generalize a1.tmps.getD 117 undef = t117 at hal
                    generalize a1.tmps.getD 118 undef = t118 at hal
                    generalize a1.tmps.getD 119 undef = t119 at hal
                    generalize a1.tmps.getD 120 undef = t120 at hal
                    generalize a1.tmps.getD 121 undef = t121 at hal
                    generalize a1.tmps.getD 122 undef = t122 at hal
                    generalize a1.tmps.getD 123 undef = t123 at hal
                    generalize a1.tmps.getD 124 undef = t124 at hal
                    generalize a1.tmps.getD 125 undef = t125 at hal
                    generalize a1.tmps.getD 126 undef = t126 at hal
                    generalize a1.tmps.getD 127 undef = t127 at hal
                    generalize a1.tmps.getD 128 undef = t128 at hal
                    clear l4 l5 l6 hde
                    subst hal
                    have HG := Lib.hid (inL_one (x := x) hw9 (HXI.out.up (HUw.out.trans HU9.out)))
                    clear h9 hw9
                    go_wp2_with fail
                    go_ret3
                    exact rpost HJ.out rfl HG.out rfl (by omega) (HUw.out.trans HU9.out)
                · have d4 : (r.most == 0) = false := by simp [h0]
                  rw [if_neg h0] at HFS
                  have HCN2 := Lib.hid (show ((cN + 1 : Nat) : Int) = (cN : Int) + 1 by omega)
                  rw [HCN2.out] at HFS
                  go_upto_region 22 with (fail)
                  by_cases h1 : r.most < (cN : Int) + 1
                  · have d5 : decide (r.most < (cN : Int) + 1) = true := decide_eq_true h1
                    rw [if_pos h1] at HFS
                    go_big_quiet_o (fail)
                    have HX := Lib.hid (up_drewN w4 nq)
                    generalize w4.drewN nq = w5 at HX ⊢
                    have HCw := Lib.hid (blk_up HCw.out HX.out)
                    have HUw := Lib.hid (HUw.out.trans HX.out)
                    have HMw := Lib.hid (HMw.out.up HX.out)
                    clear c5 cE HX
                    have HJ := Lib.hid (judge_r HS.out HXE.out hA.out (f := 5009) (by rw [HFS.out]) (by decide))
                    go_upto_region 29 with (fail)
                    have HK : ∀ φ ∈ [Is (.int .i64 5009), Is (avV x), RowX x w5.heap.size, Is (.int .i64 5009), RowX x w5.heap.size, Is (.int .i64 0)], Keeps φ := by
                      simp [keeps_is, keeps_rowX]
                    refine staged_lit (by kernel_rfl) (facts [Is (.int .i64 5009), Is (avV x), RowX x w5.heap.size, Is (.int .i64 5009), RowX x w5.heap.size, Is (.int .i64 0)]) (Stg [] (fun _ y => Up w5 y)) 129 rfl (by decide +kernel) (by decide +kernel) (Stg.start (Up.drew w5)) ?_ ?_
                    · refine ⟨?_, ?_, ?_, ?_, ?_, ?_, trivial⟩
                      · refine opS_same rfl rfl fun Lx ac w1 hJ hl hc ho hd => ?_
                        have s12 : ac.eval (.tmp 12) = .int .i64 5009 := ho 12 rfl
                        exact ⟨_, x_move (.tmp 12) rfl s12, rfl⟩
                      · refine opS_same rfl rfl fun Lx ac w1 hJ hl hc ho hd => ?_
                        have s9 : ac.eval (.tmp 9) = .pointer (some ⟨p, 0, none⟩) := ho 9 rfl
                        obtain ⟨_, _, hU⟩ := hJ
                        exact ⟨_, x_load 38 _ rfl s9 (load38 (blk_up HCw.out hU)), rfl⟩
                      · refine opS_grow rfl rfl (fun k wx wy h hu => Up.trans h hu) (facts_keep HK) fun L ac wx hJ hl hc ho hd => ?_
                        have d1 : ac.eval (.tmp 98) = avV x := hd 1 _ _ rfl rfl rfl
                        obtain ⟨_, _, hU⟩ := hJ
                        exact fine_run _ _ (x_bslice 29 1 _ rfl (by simp only [List.map_toArray, List.map_cons, List.map_nil, d1]; exact bslice1 _ _ _ _ _ _ _ _)) (up_alloc _ _) ⟨wx.heap.size, rfl, hU.size, new_at _ _⟩
                      · refine opS_same rfl rfl fun Lx ac w1 hJ hl hc ho hd => ?_
                        have d0 : ac.eval (.tmp 97) = .int .i64 5009 := hd 0 _ _ rfl rfl rfl
                        exact ⟨_, x_assign (.tmp 97) rfl d0, rfl⟩
                      · refine opS_same rfl rfl fun Lx ac w1 hJ hl hc ho hd => ?_
                        have d2 := hd 2 _ _ rfl rfl rfl
                        obtain ⟨q9, hv, h9, hw9⟩ := d2
                        have d2b : ac.eval (.tmp 99) = .slice (some ⟨q9, 0, none⟩) 1 1 := hv
                        exact ⟨_, x_assign (.tmp 99) rfl d2b, q9, rfl, h9, hw9⟩
                      · refine opS_same rfl rfl fun Lx ac w1 hJ hl hc ho hd => ?_
                        exact ⟨_, x_assign (.const (.int .i64 0)) rfl rfl, rfl⟩
                    · intro L1 a1 w9 hI hall
                      obtain ⟨_, _, hUF⟩ := hI.done hall (by simp)
                      have HU9 := Lib.hid (show Up w5 w9 from hUF)
                      obtain ⟨q9, l5, h9, hw9⟩ := hI.facts 4 _ 5 rfl (hall 4 (by decide)) rfl
                      clear hUF
                      have l4 : a1.tmps.getD 4 undef = .int .i64 5009 := hI.get hall (i := 3) rfl rfl
                      have l6 : a1.tmps.getD 6 undef = .int .i64 0 := hI.get hall (i := 5) rfl rfl
                      have hde : a1.defers = [] := hI.defers
                      have hal := act_lit a1 129 hI.size
                      clear hI
                      simp only [List.range, List.range.loop, List.map_cons, List.map_nil] at hal
                      rw [l4, l5, l6, hde] at hal
                      generalize a1.tmps.getD 0 undef = t0 at hal
                      generalize a1.tmps.getD 1 undef = t1 at hal
                      generalize a1.tmps.getD 2 undef = t2 at hal
                      generalize a1.tmps.getD 3 undef = t3 at hal
                      generalize a1.tmps.getD 7 undef = t7 at hal
                      generalize a1.tmps.getD 8 undef = t8 at hal
                      generalize a1.tmps.getD 9 undef = t9 at hal
                      generalize a1.tmps.getD 10 undef = t10 at hal
                      generalize a1.tmps.getD 11 undef = t11 at hal
                      generalize a1.tmps.getD 12 undef = t12 at hal
                      generalize a1.tmps.getD 13 undef = t13 at hal
                      generalize a1.tmps.getD 14 undef = t14 at hal
                      generalize a1.tmps.getD 15 undef = t15 at hal
                      generalize a1.tmps.getD 16 undef = t16 at hal
                      generalize a1.tmps.getD 17 undef = t17 at hal
                      generalize a1.tmps.getD 18 undef = t18 at hal
                      generalize a1.tmps.getD 19 undef = t19 at hal
                      generalize a1.tmps.getD 20 undef = t20 at hal
                      generalize a1.tmps.getD 21 undef = t21 at hal
                      generalize a1.tmps.getD 22 undef = t22 at hal
                      generalize a1.tmps.getD 23 undef = t23 at hal
                      generalize a1.tmps.getD 24 undef = t24 at hal
                      generalize a1.tmps.getD 25 undef = t25 at hal
                      generalize a1.tmps.getD 26 undef = t26 at hal
                      generalize a1.tmps.getD 27 undef = t27 at hal
                      generalize a1.tmps.getD 28 undef = t28 at hal
                      generalize a1.tmps.getD 29 undef = t29 at hal
                      generalize a1.tmps.getD 30 undef = t30 at hal
                      generalize a1.tmps.getD 31 undef = t31 at hal
                      generalize a1.tmps.getD 32 undef = t32 at hal
                      generalize a1.tmps.getD 33 undef = t33 at hal
                      generalize a1.tmps.getD 34 undef = t34 at hal
                      generalize a1.tmps.getD 35 undef = t35 at hal
                      generalize a1.tmps.getD 36 undef = t36 at hal
                      generalize a1.tmps.getD 37 undef = t37 at hal
                      generalize a1.tmps.getD 38 undef = t38 at hal
                      generalize a1.tmps.getD 39 undef = t39 at hal
                      generalize a1.tmps.getD 40 undef = t40 at hal
                      generalize a1.tmps.getD 41 undef = t41 at hal
                      generalize a1.tmps.getD 42 undef = t42 at hal
                      generalize a1.tmps.getD 43 undef = t43 at hal
                      generalize a1.tmps.getD 44 undef = t44 at hal
                      generalize a1.tmps.getD 45 undef = t45 at hal
                      generalize a1.tmps.getD 46 undef = t46 at hal
                      generalize a1.tmps.getD 47 undef = t47 at hal
                      generalize a1.tmps.getD 48 undef = t48 at hal
                      generalize a1.tmps.getD 49 undef = t49 at hal
                      generalize a1.tmps.getD 50 undef = t50 at hal
                      generalize a1.tmps.getD 51 undef = t51 at hal
                      generalize a1.tmps.getD 52 undef = t52 at hal
                      generalize a1.tmps.getD 53 undef = t53 at hal
                      generalize a1.tmps.getD 54 undef = t54 at hal
                      generalize a1.tmps.getD 55 undef = t55 at hal
                      generalize a1.tmps.getD 56 undef = t56 at hal
                      generalize a1.tmps.getD 57 undef = t57 at hal
                      generalize a1.tmps.getD 58 undef = t58 at hal
                      generalize a1.tmps.getD 59 undef = t59 at hal
                      generalize a1.tmps.getD 60 undef = t60 at hal
                      generalize a1.tmps.getD 61 undef = t61 at hal
                      generalize a1.tmps.getD 62 undef = t62 at hal
                      generalize a1.tmps.getD 63 undef = t63 at hal
                      generalize a1.tmps.getD 64 undef = t64 at hal
                      generalize a1.tmps.getD 65 undef = t65 at hal
                      generalize a1.tmps.getD 66 undef = t66 at hal
                      generalize a1.tmps.getD 67 undef = t67 at hal
                      generalize a1.tmps.getD 68 undef = t68 at hal
                      generalize a1.tmps.getD 69 undef = t69 at hal
                      generalize a1.tmps.getD 70 undef = t70 at hal
                      generalize a1.tmps.getD 71 undef = t71 at hal
                      generalize a1.tmps.getD 72 undef = t72 at hal
                      generalize a1.tmps.getD 73 undef = t73 at hal
                      generalize a1.tmps.getD 74 undef = t74 at hal
                      generalize a1.tmps.getD 75 undef = t75 at hal
                      generalize a1.tmps.getD 76 undef = t76 at hal
                      generalize a1.tmps.getD 77 undef = t77 at hal
                      generalize a1.tmps.getD 78 undef = t78 at hal
                      generalize a1.tmps.getD 79 undef = t79 at hal
                      generalize a1.tmps.getD 80 undef = t80 at hal
                      generalize a1.tmps.getD 81 undef = t81 at hal
                      generalize a1.tmps.getD 82 undef = t82 at hal
                      generalize a1.tmps.getD 83 undef = t83 at hal
                      generalize a1.tmps.getD 84 undef = t84 at hal
                      generalize a1.tmps.getD 85 undef = t85 at hal
                      generalize a1.tmps.getD 86 undef = t86 at hal
                      generalize a1.tmps.getD 87 undef = t87 at hal
                      generalize a1.tmps.getD 88 undef = t88 at hal
                      generalize a1.tmps.getD 89 undef = t89 at hal
                      generalize a1.tmps.getD 90 undef = t90 at hal
                      generalize a1.tmps.getD 91 undef = t91 at hal
                      generalize a1.tmps.getD 92 undef = t92 at hal
                      generalize a1.tmps.getD 93 undef = t93 at hal
                      generalize a1.tmps.getD 94 undef = t94 at hal
                      generalize a1.tmps.getD 95 undef = t95 at hal
                      generalize a1.tmps.getD 96 undef = t96 at hal
                      generalize a1.tmps.getD 97 undef = t97 at hal
                      generalize a1.tmps.getD 98 undef = t98 at hal
                      generalize a1.tmps.getD 99 undef = t99 at hal
                      generalize a1.tmps.getD 100 undef = t100 at hal
                      generalize a1.tmps.getD 101 undef = t101 at hal
                      generalize a1.tmps.getD 102 undef = t102 at hal
                      generalize a1.tmps.getD 103 undef = t103 at hal
                      generalize a1.tmps.getD 104 undef = t104 at hal
                      generalize a1.tmps.getD 105 undef = t105 at hal
                      generalize a1.tmps.getD 106 undef = t106 at hal
                      generalize a1.tmps.getD 107 undef = t107 at hal
                      generalize a1.tmps.getD 108 undef = t108 at hal
                      generalize a1.tmps.getD 109 undef = t109 at hal
                      generalize a1.tmps.getD 110 undef = t110 at hal
                      generalize a1.tmps.getD 111 undef = t111 at hal
                      generalize a1.tmps.getD 112 undef = t112 at hal
                      generalize a1.tmps.getD 113 undef = t113 at hal
                      generalize a1.tmps.getD 114 undef = t114 at hal
                      generalize a1.tmps.getD 115 undef = t115 at hal
                      generalize a1.tmps.getD 116 undef = t116 at hal
                      generalize a1.tmps.getD 117 undef = t117 at hal
                      generalize a1.tmps.getD 118 undef = t118 at hal
                      generalize a1.tmps.getD 119 undef = t119 at hal
                      generalize a1.tmps.getD 120 undef = t120 at hal
                      generalize a1.tmps.getD 121 undef = t121 at hal
                      generalize a1.tmps.getD 122 undef = t122 at hal
                      generalize a1.tmps.getD 123 undef = t123 at hal
                      generalize a1.tmps.getD 124 undef = t124 at hal
                      generalize a1.tmps.getD 125 undef = t125 at hal
                      generalize a1.tmps.getD 126 undef = t126 at hal
                      generalize a1.tmps.getD 127 undef = t127 at hal
                      generalize a1.tmps.getD 128 undef = t128 at hal
                      clear l4 l5 l6 hde
                      subst hal
                      have HG := Lib.hid (inL_one (x := x) hw9 (HXI.out.up (HUw.out.trans HU9.out)))
                      clear h9 hw9
                      go_wp2_with fail
                      go_ret3
                      exact rpost HJ.out rfl HG.out rfl (by omega) (HUw.out.trans HU9.out)
                  · have d5 : decide (r.most < (cN : Int) + 1) = false := decide_eq_false h1
                    rw [if_neg h1, HFE.out] at HFS
                    go_big_quiet_o (fail)
                    have HX := Lib.hid (up_drewN w4 nq)
                    generalize w4.drewN nq = w5 at HX ⊢
                    have HCw := Lib.hid (blk_up HCw.out HX.out)
                    have HUw := Lib.hid (HUw.out.trans HX.out)
                    have HMw := Lib.hid (HMw.out.up HX.out)
                    clear c5 cE HX
                    clear h1 h0
                    by_cases h3 : E = 3
                    · subst h3
                      have HJ := Lib.hid (judge_r HS.out HXE.out hA.out (f := 5014) (by rw [HFS.out]; rfl) (by decide))
                      go_upto_region 29 with (fail)
                      have HK : ∀ φ ∈ [Is (.int .i64 5014), Is (avV x), RowX x w5.heap.size, Is (.int .i64 5014), RowX x w5.heap.size, Is (.int .i64 0)], Keeps φ := by
                        simp [keeps_is, keeps_rowX]
                      refine staged_lit (by kernel_rfl) (facts [Is (.int .i64 5014), Is (avV x), RowX x w5.heap.size, Is (.int .i64 5014), RowX x w5.heap.size, Is (.int .i64 0)]) (Stg [] (fun _ y => Up w5 y)) 129 rfl (by decide +kernel) (by decide +kernel) (Stg.start (Up.drew w5)) ?_ ?_
                      · refine ⟨?_, ?_, ?_, ?_, ?_, ?_, trivial⟩
                        · refine opS_same rfl rfl fun Lx ac w1 hJ hl hc ho hd => ?_
                          have s12 : ac.eval (.tmp 12) = .int .i64 5014 := ho 12 rfl
                          exact ⟨_, x_move (.tmp 12) rfl s12, rfl⟩
                        · refine opS_same rfl rfl fun Lx ac w1 hJ hl hc ho hd => ?_
                          have s9 : ac.eval (.tmp 9) = .pointer (some ⟨p, 0, none⟩) := ho 9 rfl
                          obtain ⟨_, _, hU⟩ := hJ
                          exact ⟨_, x_load 38 _ rfl s9 (load38 (blk_up HCw.out hU)), rfl⟩
                        · refine opS_grow rfl rfl (fun k wx wy h hu => Up.trans h hu) (facts_keep HK) fun L ac wx hJ hl hc ho hd => ?_
                          have d1 : ac.eval (.tmp 98) = avV x := hd 1 _ _ rfl rfl rfl
                          obtain ⟨_, _, hU⟩ := hJ
                          exact fine_run _ _ (x_bslice 29 1 _ rfl (by simp only [List.map_toArray, List.map_cons, List.map_nil, d1]; exact bslice1 _ _ _ _ _ _ _ _)) (up_alloc _ _) ⟨wx.heap.size, rfl, hU.size, new_at _ _⟩
                        · refine opS_same rfl rfl fun Lx ac w1 hJ hl hc ho hd => ?_
                          have d0 : ac.eval (.tmp 97) = .int .i64 5014 := hd 0 _ _ rfl rfl rfl
                          exact ⟨_, x_assign (.tmp 97) rfl d0, rfl⟩
                        · refine opS_same rfl rfl fun Lx ac w1 hJ hl hc ho hd => ?_
                          have d2 := hd 2 _ _ rfl rfl rfl
                          obtain ⟨q9, hv, h9, hw9⟩ := d2
                          have d2b : ac.eval (.tmp 99) = .slice (some ⟨q9, 0, none⟩) 1 1 := hv
                          exact ⟨_, x_assign (.tmp 99) rfl d2b, q9, rfl, h9, hw9⟩
                        · refine opS_same rfl rfl fun Lx ac w1 hJ hl hc ho hd => ?_
                          exact ⟨_, x_assign (.const (.int .i64 0)) rfl rfl, rfl⟩
                      · intro L1 a1 w9 hI hall
                        obtain ⟨_, _, hUF⟩ := hI.done hall (by simp)
                        have HU9 := Lib.hid (show Up w5 w9 from hUF)
                        obtain ⟨q9, l5, h9, hw9⟩ := hI.facts 4 _ 5 rfl (hall 4 (by decide)) rfl
                        clear hUF
                        have l4 : a1.tmps.getD 4 undef = .int .i64 5014 := hI.get hall (i := 3) rfl rfl
                        have l6 : a1.tmps.getD 6 undef = .int .i64 0 := hI.get hall (i := 5) rfl rfl
                        have hde : a1.defers = [] := hI.defers
                        have hal := act_lit a1 129 hI.size
                        clear hI
                        simp only [List.range, List.range.loop, List.map_cons, List.map_nil] at hal
                        rw [l4, l5, l6, hde] at hal
                        generalize a1.tmps.getD 0 undef = t0 at hal
                        generalize a1.tmps.getD 1 undef = t1 at hal
                        generalize a1.tmps.getD 2 undef = t2 at hal
                        generalize a1.tmps.getD 3 undef = t3 at hal
                        generalize a1.tmps.getD 7 undef = t7 at hal
                        generalize a1.tmps.getD 8 undef = t8 at hal
                        generalize a1.tmps.getD 9 undef = t9 at hal
                        generalize a1.tmps.getD 10 undef = t10 at hal
                        generalize a1.tmps.getD 11 undef = t11 at hal
                        generalize a1.tmps.getD 12 undef = t12 at hal
                        generalize a1.tmps.getD 13 undef = t13 at hal
                        generalize a1.tmps.getD 14 undef = t14 at hal
                        generalize a1.tmps.getD 15 undef = t15 at hal
                        generalize a1.tmps.getD 16 undef = t16 at hal
                        generalize a1.tmps.getD 17 undef = t17 at hal
                        generalize a1.tmps.getD 18 undef = t18 at hal
                        generalize a1.tmps.getD 19 undef = t19 at hal
                        generalize a1.tmps.getD 20 undef = t20 at hal
                        generalize a1.tmps.getD 21 undef = t21 at hal
                        generalize a1.tmps.getD 22 undef = t22 at hal
                        generalize a1.tmps.getD 23 undef = t23 at hal
                        generalize a1.tmps.getD 24 undef = t24 at hal
                        generalize a1.tmps.getD 25 undef = t25 at hal
                        generalize a1.tmps.getD 26 undef = t26 at hal
                        generalize a1.tmps.getD 27 undef = t27 at hal
                        generalize a1.tmps.getD 28 undef = t28 at hal
                        generalize a1.tmps.getD 29 undef = t29 at hal
                        generalize a1.tmps.getD 30 undef = t30 at hal
                        generalize a1.tmps.getD 31 undef = t31 at hal
                        generalize a1.tmps.getD 32 undef = t32 at hal
                        generalize a1.tmps.getD 33 undef = t33 at hal
                        generalize a1.tmps.getD 34 undef = t34 at hal
                        generalize a1.tmps.getD 35 undef = t35 at hal
                        generalize a1.tmps.getD 36 undef = t36 at hal
                        generalize a1.tmps.getD 37 undef = t37 at hal
                        generalize a1.tmps.getD 38 undef = t38 at hal
                        generalize a1.tmps.getD 39 undef = t39 at hal
                        generalize a1.tmps.getD 40 undef = t40 at hal
                        generalize a1.tmps.getD 41 undef = t41 at hal
                        generalize a1.tmps.getD 42 undef = t42 at hal
                        generalize a1.tmps.getD 43 undef = t43 at hal
                        generalize a1.tmps.getD 44 undef = t44 at hal
                        generalize a1.tmps.getD 45 undef = t45 at hal
                        generalize a1.tmps.getD 46 undef = t46 at hal
                        generalize a1.tmps.getD 47 undef = t47 at hal
                        generalize a1.tmps.getD 48 undef = t48 at hal
                        generalize a1.tmps.getD 49 undef = t49 at hal
                        generalize a1.tmps.getD 50 undef = t50 at hal
                        generalize a1.tmps.getD 51 undef = t51 at hal
                        generalize a1.tmps.getD 52 undef = t52 at hal
                        generalize a1.tmps.getD 53 undef = t53 at hal
                        generalize a1.tmps.getD 54 undef = t54 at hal
                        generalize a1.tmps.getD 55 undef = t55 at hal
                        generalize a1.tmps.getD 56 undef = t56 at hal
                        generalize a1.tmps.getD 57 undef = t57 at hal
                        generalize a1.tmps.getD 58 undef = t58 at hal
                        generalize a1.tmps.getD 59 undef = t59 at hal
                        generalize a1.tmps.getD 60 undef = t60 at hal
                        generalize a1.tmps.getD 61 undef = t61 at hal
                        generalize a1.tmps.getD 62 undef = t62 at hal
                        generalize a1.tmps.getD 63 undef = t63 at hal
                        generalize a1.tmps.getD 64 undef = t64 at hal
                        generalize a1.tmps.getD 65 undef = t65 at hal
                        generalize a1.tmps.getD 66 undef = t66 at hal
                        generalize a1.tmps.getD 67 undef = t67 at hal
                        generalize a1.tmps.getD 68 undef = t68 at hal
                        generalize a1.tmps.getD 69 undef = t69 at hal
                        generalize a1.tmps.getD 70 undef = t70 at hal
                        generalize a1.tmps.getD 71 undef = t71 at hal
                        generalize a1.tmps.getD 72 undef = t72 at hal
                        generalize a1.tmps.getD 73 undef = t73 at hal
                        generalize a1.tmps.getD 74 undef = t74 at hal
                        generalize a1.tmps.getD 75 undef = t75 at hal
                        generalize a1.tmps.getD 76 undef = t76 at hal
                        generalize a1.tmps.getD 77 undef = t77 at hal
                        generalize a1.tmps.getD 78 undef = t78 at hal
                        generalize a1.tmps.getD 79 undef = t79 at hal
                        generalize a1.tmps.getD 80 undef = t80 at hal
                        generalize a1.tmps.getD 81 undef = t81 at hal
                        generalize a1.tmps.getD 82 undef = t82 at hal
                        generalize a1.tmps.getD 83 undef = t83 at hal
                        generalize a1.tmps.getD 84 undef = t84 at hal
                        generalize a1.tmps.getD 85 undef = t85 at hal
                        generalize a1.tmps.getD 86 undef = t86 at hal
                        generalize a1.tmps.getD 87 undef = t87 at hal
                        generalize a1.tmps.getD 88 undef = t88 at hal
                        generalize a1.tmps.getD 89 undef = t89 at hal
                        generalize a1.tmps.getD 90 undef = t90 at hal
                        generalize a1.tmps.getD 91 undef = t91 at hal
                        generalize a1.tmps.getD 92 undef = t92 at hal
                        generalize a1.tmps.getD 93 undef = t93 at hal
                        generalize a1.tmps.getD 94 undef = t94 at hal
                        generalize a1.tmps.getD 95 undef = t95 at hal
                        generalize a1.tmps.getD 96 undef = t96 at hal
                        generalize a1.tmps.getD 97 undef = t97 at hal
                        generalize a1.tmps.getD 98 undef = t98 at hal
                        generalize a1.tmps.getD 99 undef = t99 at hal
                        generalize a1.tmps.getD 100 undef = t100 at hal
                        generalize a1.tmps.getD 101 undef = t101 at hal
                        generalize a1.tmps.getD 102 undef = t102 at hal
                        generalize a1.tmps.getD 103 undef = t103 at hal
                        generalize a1.tmps.getD 104 undef = t104 at hal
                        generalize a1.tmps.getD 105 undef = t105 at hal
                        generalize a1.tmps.getD 106 undef = t106 at hal
                        generalize a1.tmps.getD 107 undef = t107 at hal
                        generalize a1.tmps.getD 108 undef = t108 at hal
                        generalize a1.tmps.getD 109 undef = t109 at hal
                        generalize a1.tmps.getD 110 undef = t110 at hal
                        generalize a1.tmps.getD 111 undef = t111 at hal
                        generalize a1.tmps.getD 112 undef = t112 at hal
                        generalize a1.tmps.getD 113 undef = t113 at hal
                        generalize a1.tmps.getD 114 undef = t114 at hal
                        generalize a1.tmps.getD 115 undef = t115 at hal
                        generalize a1.tmps.getD 116 undef = t116 at hal
                        generalize a1.tmps.getD 117 undef = t117 at hal
                        generalize a1.tmps.getD 118 undef = t118 at hal
                        generalize a1.tmps.getD 119 undef = t119 at hal
                        generalize a1.tmps.getD 120 undef = t120 at hal
                        generalize a1.tmps.getD 121 undef = t121 at hal
                        generalize a1.tmps.getD 122 undef = t122 at hal
                        generalize a1.tmps.getD 123 undef = t123 at hal
                        generalize a1.tmps.getD 124 undef = t124 at hal
                        generalize a1.tmps.getD 125 undef = t125 at hal
                        generalize a1.tmps.getD 126 undef = t126 at hal
                        generalize a1.tmps.getD 127 undef = t127 at hal
                        generalize a1.tmps.getD 128 undef = t128 at hal
                        clear l4 l5 l6 hde
                        subst hal
                        have HG := Lib.hid (inL_one (x := x) hw9 (HXI.out.up (HUw.out.trans HU9.out)))
                        clear h9 hw9
                        go_wp2_with fail
                        go_ret3
                        exact rpost HJ.out rfl HG.out rfl (by omega) (HUw.out.trans HU9.out)
                    · have d6 : (E == 3) = false := by simp [h3]
                      by_cases h4 : E = 0
                      · subst h4
                        have HA2 := Lib.hid (no_fault HXE.out hA.out (by rw [HFS.out]; rfl))
                        go_wp2_with fail
                        go_roundw
                        case rel => exact ⟨k + 1, by omega, by go_num, HA2, HMw, HUw⟩
                        case measure => simp [intOf]; omega
                      · have d7 : (E != 0) = true := by simp [h4]
                        rw [if_neg h4, if_neg h3] at HFS
                        have HJ := Lib.hid (judge_r HS.out HXE.out hA.out (f := 5004) (by rw [HFS.out]) (by decide))
                        go_upto_region 29 with (fail)
                        have HK : ∀ φ ∈ [Is (.int .i64 5004), Is (avV x), RowX x w5.heap.size, Is (.int .i64 5004), RowX x w5.heap.size, Is (.int .i64 0)], Keeps φ := by
                          simp [keeps_is, keeps_rowX]
                        refine staged_lit (by kernel_rfl) (facts [Is (.int .i64 5004), Is (avV x), RowX x w5.heap.size, Is (.int .i64 5004), RowX x w5.heap.size, Is (.int .i64 0)]) (Stg [] (fun _ y => Up w5 y)) 129 rfl (by decide +kernel) (by decide +kernel) (Stg.start (Up.drew w5)) ?_ ?_
                        · refine ⟨?_, ?_, ?_, ?_, ?_, ?_, trivial⟩
                          · refine opS_same rfl rfl fun Lx ac w1 hJ hl hc ho hd => ?_
                            have s12 : ac.eval (.tmp 12) = .int .i64 5004 := ho 12 rfl
                            exact ⟨_, x_move (.tmp 12) rfl s12, rfl⟩
                          · refine opS_same rfl rfl fun Lx ac w1 hJ hl hc ho hd => ?_
                            have s9 : ac.eval (.tmp 9) = .pointer (some ⟨p, 0, none⟩) := ho 9 rfl
                            obtain ⟨_, _, hU⟩ := hJ
                            exact ⟨_, x_load 38 _ rfl s9 (load38 (blk_up HCw.out hU)), rfl⟩
                          · refine opS_grow rfl rfl (fun k wx wy h hu => Up.trans h hu) (facts_keep HK) fun L ac wx hJ hl hc ho hd => ?_
                            have d1 : ac.eval (.tmp 98) = avV x := hd 1 _ _ rfl rfl rfl
                            obtain ⟨_, _, hU⟩ := hJ
                            exact fine_run _ _ (x_bslice 29 1 _ rfl (by simp only [List.map_toArray, List.map_cons, List.map_nil, d1]; exact bslice1 _ _ _ _ _ _ _ _)) (up_alloc _ _) ⟨wx.heap.size, rfl, hU.size, new_at _ _⟩
                          · refine opS_same rfl rfl fun Lx ac w1 hJ hl hc ho hd => ?_
                            have d0 : ac.eval (.tmp 97) = .int .i64 5004 := hd 0 _ _ rfl rfl rfl
                            exact ⟨_, x_assign (.tmp 97) rfl d0, rfl⟩
                          · refine opS_same rfl rfl fun Lx ac w1 hJ hl hc ho hd => ?_
                            have d2 := hd 2 _ _ rfl rfl rfl
                            obtain ⟨q9, hv, h9, hw9⟩ := d2
                            have d2b : ac.eval (.tmp 99) = .slice (some ⟨q9, 0, none⟩) 1 1 := hv
                            exact ⟨_, x_assign (.tmp 99) rfl d2b, q9, rfl, h9, hw9⟩
                          · refine opS_same rfl rfl fun Lx ac w1 hJ hl hc ho hd => ?_
                            exact ⟨_, x_assign (.const (.int .i64 0)) rfl rfl, rfl⟩
                        · intro L1 a1 w9 hI hall
                          obtain ⟨_, _, hUF⟩ := hI.done hall (by simp)
                          have HU9 := Lib.hid (show Up w5 w9 from hUF)
                          obtain ⟨q9, l5, h9, hw9⟩ := hI.facts 4 _ 5 rfl (hall 4 (by decide)) rfl
                          clear hUF
                          have l4 : a1.tmps.getD 4 undef = .int .i64 5004 := hI.get hall (i := 3) rfl rfl
                          have l6 : a1.tmps.getD 6 undef = .int .i64 0 := hI.get hall (i := 5) rfl rfl
                          have hde : a1.defers = [] := hI.defers
                          have hal := act_lit a1 129 hI.size
                          clear hI
                          simp only [List.range, List.range.loop, List.map_cons, List.map_nil] at hal
                          rw [l4, l5, l6, hde] at hal
                          generalize a1.tmps.getD 0 undef = t0 at hal
                          generalize a1.tmps.getD 1 undef = t1 at hal
                          generalize a1.tmps.getD 2 undef = t2 at hal
                          generalize a1.tmps.getD 3 undef = t3 at hal
                          generalize a1.tmps.getD 7 undef = t7 at hal
                          generalize a1.tmps.getD 8 undef = t8 at hal
                          generalize a1.tmps.getD 9 undef = t9 at hal
                          generalize a1.tmps.getD 10 undef = t10 at hal
                          generalize a1.tmps.getD 11 undef = t11 at hal
                          generalize a1.tmps.getD 12 undef = t12 at hal
                          generalize a1.tmps.getD 13 undef = t13 at hal
                          generalize a1.tmps.getD 14 undef = t14 at hal
                          generalize a1.tmps.getD 15 undef = t15 at hal
                          generalize a1.tmps.getD 16 undef = t16 at hal
                          generalize a1.tmps.getD 17 undef = t17 at hal
                          generalize a1.tmps.getD 18 undef = t18 at hal
                          generalize a1.tmps.getD 19 undef = t19 at hal
                          generalize a1.tmps.getD 20 undef = t20 at hal
                          generalize a1.tmps.getD 21 undef = t21 at hal
                          generalize a1.tmps.getD 22 undef = t22 at hal
                          generalize a1.tmps.getD 23 undef = t23 at hal
                          generalize a1.tmps.getD 24 undef = t24 at hal
                          generalize a1.tmps.getD 25 undef = t25 at hal
                          generalize a1.tmps.getD 26 undef = t26 at hal
                          generalize a1.tmps.getD 27 undef = t27 at hal
                          generalize a1.tmps.getD 28 undef = t28 at hal
                          generalize a1.tmps.getD 29 undef = t29 at hal
                          generalize a1.tmps.getD 30 undef = t30 at hal
                          generalize a1.tmps.getD 31 undef = t31 at hal
                          generalize a1.tmps.getD 32 undef = t32 at hal
                          generalize a1.tmps.getD 33 undef = t33 at hal
                          generalize a1.tmps.getD 34 undef = t34 at hal
                          generalize a1.tmps.getD 35 undef = t35 at hal
                          generalize a1.tmps.getD 36 undef = t36 at hal
                          generalize a1.tmps.getD 37 undef = t37 at hal
                          generalize a1.tmps.getD 38 undef = t38 at hal
                          generalize a1.tmps.getD 39 undef = t39 at hal
                          generalize a1.tmps.getD 40 undef = t40 at hal
                          generalize a1.tmps.getD 41 undef = t41 at hal
                          generalize a1.tmps.getD 42 undef = t42 at hal
                          generalize a1.tmps.getD 43 undef = t43 at hal
                          generalize a1.tmps.getD 44 undef = t44 at hal
                          generalize a1.tmps.getD 45 undef = t45 at hal
                          generalize a1.tmps.getD 46 undef = t46 at hal
                          generalize a1.tmps.getD 47 undef = t47 at hal
                          generalize a1.tmps.getD 48 undef = t48 at hal
                          generalize a1.tmps.getD 49 undef = t49 at hal
                          generalize a1.tmps.getD 50 undef = t50 at hal
                          generalize a1.tmps.getD 51 undef = t51 at hal
                          generalize a1.tmps.getD 52 undef = t52 at hal
                          generalize a1.tmps.getD 53 undef = t53 at hal
                          generalize a1.tmps.getD 54 undef = t54 at hal
                          generalize a1.tmps.getD 55 undef = t55 at hal
                          generalize a1.tmps.getD 56 undef = t56 at hal
                          generalize a1.tmps.getD 57 undef = t57 at hal
                          generalize a1.tmps.getD 58 undef = t58 at hal
                          generalize a1.tmps.getD 59 undef = t59 at hal
                          generalize a1.tmps.getD 60 undef = t60 at hal
                          generalize a1.tmps.getD 61 undef = t61 at hal
                          generalize a1.tmps.getD 62 undef = t62 at hal
                          generalize a1.tmps.getD 63 undef = t63 at hal
                          generalize a1.tmps.getD 64 undef = t64 at hal
                          generalize a1.tmps.getD 65 undef = t65 at hal
                          generalize a1.tmps.getD 66 undef = t66 at hal
                          generalize a1.tmps.getD 67 undef = t67 at hal
                          generalize a1.tmps.getD 68 undef = t68 at hal
                          generalize a1.tmps.getD 69 undef = t69 at hal
                          generalize a1.tmps.getD 70 undef = t70 at hal
                          generalize a1.tmps.getD 71 undef = t71 at hal
                          generalize a1.tmps.getD 72 undef = t72 at hal
                          generalize a1.tmps.getD 73 undef = t73 at hal
                          generalize a1.tmps.getD 74 undef = t74 at hal
                          generalize a1.tmps.getD 75 undef = t75 at hal
                          generalize a1.tmps.getD 76 undef = t76 at hal
                          generalize a1.tmps.getD 77 undef = t77 at hal
                          generalize a1.tmps.getD 78 undef = t78 at hal
                          generalize a1.tmps.getD 79 undef = t79 at hal
                          generalize a1.tmps.getD 80 undef = t80 at hal
                          generalize a1.tmps.getD 81 undef = t81 at hal
                          generalize a1.tmps.getD 82 undef = t82 at hal
                          generalize a1.tmps.getD 83 undef = t83 at hal
                          generalize a1.tmps.getD 84 undef = t84 at hal
                          generalize a1.tmps.getD 85 undef = t85 at hal
                          generalize a1.tmps.getD 86 undef = t86 at hal
                          generalize a1.tmps.getD 87 undef = t87 at hal
                          generalize a1.tmps.getD 88 undef = t88 at hal
                          generalize a1.tmps.getD 89 undef = t89 at hal
                          generalize a1.tmps.getD 90 undef = t90 at hal
                          generalize a1.tmps.getD 91 undef = t91 at hal
                          generalize a1.tmps.getD 92 undef = t92 at hal
                          generalize a1.tmps.getD 93 undef = t93 at hal
                          generalize a1.tmps.getD 94 undef = t94 at hal
                          generalize a1.tmps.getD 95 undef = t95 at hal
                          generalize a1.tmps.getD 96 undef = t96 at hal
                          generalize a1.tmps.getD 97 undef = t97 at hal
                          generalize a1.tmps.getD 98 undef = t98 at hal
                          generalize a1.tmps.getD 99 undef = t99 at hal
                          generalize a1.tmps.getD 100 undef = t100 at hal
                          generalize a1.tmps.getD 101 undef = t101 at hal
                          generalize a1.tmps.getD 102 undef = t102 at hal
                          generalize a1.tmps.getD 103 undef = t103 at hal
                          generalize a1.tmps.getD 104 undef = t104 at hal
                          generalize a1.tmps.getD 105 undef = t105 at hal
                          generalize a1.tmps.getD 106 undef = t106 at hal
                          generalize a1.tmps.getD 107 undef = t107 at hal
                          generalize a1.tmps.getD 108 undef = t108 at hal
                          generalize a1.tmps.getD 109 undef = t109 at hal
                          generalize a1.tmps.getD 110 undef = t110 at hal
                          generalize a1.tmps.getD 111 undef = t111 at hal
                          generalize a1.tmps.getD 112 undef = t112 at hal
                          generalize a1.tmps.getD 113 undef = t113 at hal
                          generalize a1.tmps.getD 114 undef = t114 at hal
                          generalize a1.tmps.getD 115 undef = t115 at hal
                          generalize a1.tmps.getD 116 undef = t116 at hal
                          generalize a1.tmps.getD 117 undef = t117 at hal
                          generalize a1.tmps.getD 118 undef = t118 at hal
                          generalize a1.tmps.getD 119 undef = t119 at hal
                          generalize a1.tmps.getD 120 undef = t120 at hal
                          generalize a1.tmps.getD 121 undef = t121 at hal
                          generalize a1.tmps.getD 122 undef = t122 at hal
                          generalize a1.tmps.getD 123 undef = t123 at hal
                          generalize a1.tmps.getD 124 undef = t124 at hal
                          generalize a1.tmps.getD 125 undef = t125 at hal
                          generalize a1.tmps.getD 126 undef = t126 at hal
                          generalize a1.tmps.getD 127 undef = t127 at hal
                          generalize a1.tmps.getD 128 undef = t128 at hal
                          clear l4 l5 l6 hde
                          subst hal
                          have HG := Lib.hid (inL_one (x := x) hw9 (HXI.out.up (HUw.out.trans HU9.out)))
                          clear h9 hw9
                          go_wp2_with fail
                          go_ret3
                          exact rpost HJ.out rfl HG.out rfl (by omega) (HUw.out.trans HU9.out)
      · have d1 : decide ((k : Int) < (n : Int)) = false := decide_eq_false (by omega)
        obtain rfl : k = n := by omega
        have HMn := Lib.hid (show CntB wr q (cntL rs (l.map AvB.pure)) by have h1 := hM.out; rw [List.take_of_length_le (by rw [HLn.out]; exact Nat.le_refl _)] at h1; exact h1)
        have HAn := Lib.hid (show ∀ (j : Nat) (b : Av.Avp), (l.map AvB.pure)[j]? = some b → fault rs ((l.map AvB.pure).take j) b = 0 from fun j b hb => hA.out j b (by have := (List.getElem?_eq_some_iff.1 hb).1; rw [HLn.out] at this; exact this) hb)
        have HUn := hU
        clear hA hM hU
        go_wp2_with fail
        go_loopw [14] (fun i wr => ∃ j : Nat, j ≤ m ∧ i = .int .i64 (j : Int) ∧ Hid (∀ (t : Nat) (r : Ru), t < j → rs[t]? = some r → ¬ ((cnt r.nm (l.map AvB.pure) : Int) < r.least)) ∧ Hid (CntB wr q (cntL rs (l.map AvB.pure))) ∧ Hid (Up w wr)) (fun i _ => m - (intOf i).toNat)
        case atStart => exact ⟨0, Nat.zero_le _, rfl, Lib.hid (fun t r ht => absurd ht (by omega)), HMn, HUn⟩
        case round =>
          clear HMn HUn
          obtain ⟨j, hj, rfl, hA, hM, hU⟩ := hrel
          by_cases hlt2 : j < m
          · have d2 : decide ((j : Int) < (m : Int)) = true := decide_eq_true (by omega)
            have hjz : (j : Int) < (m : Int) := by omega
            obtain ⟨r, g, o, hr, rfl, ⟨k0, k1, k2, k3, k4, k5⟩, hro⟩ := (H.out.up hU.out).at_ hlt2
            have HR := Lib.hid hr
            have HRO := Lib.hid hro
            clear hr hro
            have HCa := Lib.hid (new_at wr (ruC r))
            have HUa := Lib.hid (up_alloc wr (ruC r))
            go_upto_region 34 with (fail)
            change Code.wp _ _ _ _ (wr.alloc (ruC r))
            generalize wr.alloc (ruC r) = wa at HCa HUa ⊢
            generalize wr.heap.size = qr at HCa ⊢
            clear k0 k1 k2 k3 k4 k5
            have HUA := Lib.hid (hU.out.trans HUa.out)
            have HMa := Lib.hid (hM.out.up HUa.out)
            clear HUa hM hU
            have hcell := HMa.out.at_ HR.out
            have z4 : wa.cell? ⟨qr, 4, none⟩ = some (.int .i64 r.least) := cell_of HCa.out (j := 4) rfl
            obtain ⟨cn, hcn⟩ : ∃ cn : Int, ((cnt r.nm (l.map AvB.pure) : Nat) : Int) = cn := ⟨_, rfl⟩
            rw [hcn] at hcell
            have HCN := Lib.hid hcn
            clear hcn
            by_cases hb : cn < r.least
            · have d3 : decide (cn < r.least) = true := decide_eq_true hb
              have HJ := Lib.hid (judge_miss HS.out HAn.out (miss_some HR.out hA.out (by rw [HCN.out]; exact hb)))
              clear hb
              go_big_quiet_o (fail)
              have HX := Lib.hid (up_drewN wa nq)
              generalize wa.drewN nq = wq at HX ⊢
              have HUq := Lib.hid (HUA.out.trans HX.out)
              have HCq := Lib.hid (blk_up HCa.out HX.out)
              clear hcell z4 HX HUA HMa HCa
              go_upto_region 35 with (fail)
              have hln := lea_le r.type
              obtain ⟨N, hN⟩ : ∃ N : Nat, (lea r.type).toNat = N := ⟨_, rfl⟩
              have HN := Lib.hid (show lea r.type = (N : Int) by omega)
              have hn8 : N ≤ 8 := by omega
              have HNN := Lib.hid hN
              clear hln hN
              have HK : ∀ φ ∈ [Is (.pointer (some ⟨qr, 0, none⟩)), Is (.int .u32 r.code), Is (.pointer (some ⟨qr, 1, none⟩)), Is (.int .u32 r.vendor), Is (.pointer (some ⟨qr, 3, none⟩)), Is (.bool r.must), Is (.pointer (some ⟨qr, 2, none⟩)), Is (.int .i64 r.type), Is (.int .i64 (N : Int)), RowZ N wq.heap.size, AggZ r.code r.vendor r.must N wq.heap.size, RowM r N wq.heap.size, Is (.int .i64 5005), RowM r N wq.heap.size, Is (.int .i64 0)], Keeps φ := by
                simp [keeps_is, keeps_rowZ, keeps_aggZ, keeps_rowM]
              refine staged_lit (by kernel_rfl) (facts [Is (.pointer (some ⟨qr, 0, none⟩)), Is (.int .u32 r.code), Is (.pointer (some ⟨qr, 1, none⟩)), Is (.int .u32 r.vendor), Is (.pointer (some ⟨qr, 3, none⟩)), Is (.bool r.must), Is (.pointer (some ⟨qr, 2, none⟩)), Is (.int .i64 r.type), Is (.int .i64 (N : Int)), RowZ N wq.heap.size, AggZ r.code r.vendor r.must N wq.heap.size, RowM r N wq.heap.size, Is (.int .i64 5005), RowM r N wq.heap.size, Is (.int .i64 0)]) (Stg [] (fun _ y => Up wq y)) 129 rfl (by decide +kernel) (by decide +kernel) (Stg.start (Up.drew wq)) ?_ ?_
              · refine ⟨?_, ?_, ?_, ?_, ?_, ?_, ?_, ?_, ?_, ?_, ?_, ?_, ?_, ?_, ?_, trivial⟩
                · refine opS_same rfl rfl fun Lx ac w1 hJ hl hc ho hd => ?_
                  have s15 : ac.eval (.tmp 15) = .pointer (some ⟨qr, 0, none⟩) := ho 15 rfl
                  exact ⟨_, x_field 40 (.tmp 15) 0 rfl s15 (fld400 _ _), rfl⟩
                · refine opS_same rfl rfl fun Lx ac w1 hJ hl hc ho hd => ?_
                  have d0 : ac.eval (.tmp 117) = .pointer (some ⟨qr, 0, none⟩) := hd 0 _ _ rfl rfl rfl
                  obtain ⟨_, _, hU⟩ := hJ
                  exact ⟨_, x_load 36 (.tmp 117) rfl d0 (run_load1 agg36 (cell_up (cell_of HCq.out (j := 0) rfl) hU)), rfl⟩
                · refine opS_same rfl rfl fun Lx ac w1 hJ hl hc ho hd => ?_
                  have s15 : ac.eval (.tmp 15) = .pointer (some ⟨qr, 0, none⟩) := ho 15 rfl
                  exact ⟨_, x_field 40 (.tmp 15) 1 rfl s15 (fld401 _ _), rfl⟩
                · refine opS_same rfl rfl fun Lx ac w1 hJ hl hc ho hd => ?_
                  have d2 : ac.eval (.tmp 119) = .pointer (some ⟨qr, 1, none⟩) := hd 2 _ _ rfl rfl rfl
                  obtain ⟨_, _, hU⟩ := hJ
                  exact ⟨_, x_load 36 (.tmp 119) rfl d2 (run_load1 agg36 (cell_up (cell_of HCq.out (j := 1) rfl) hU)), rfl⟩
                · refine opS_same rfl rfl fun Lx ac w1 hJ hl hc ho hd => ?_
                  have s15 : ac.eval (.tmp 15) = .pointer (some ⟨qr, 0, none⟩) := ho 15 rfl
                  exact ⟨_, x_field 40 (.tmp 15) 3 rfl s15 (fld403 _ _), rfl⟩
                · refine opS_same rfl rfl fun Lx ac w1 hJ hl hc ho hd => ?_
                  have d4 : ac.eval (.tmp 121) = .pointer (some ⟨qr, 3, none⟩) := hd 4 _ _ rfl rfl rfl
                  obtain ⟨_, _, hU⟩ := hJ
                  exact ⟨_, x_load 4 (.tmp 121) rfl d4 (run_load1 agg4 (cell_up (cell_of HCq.out (j := 3) rfl) hU)), rfl⟩
                · refine opS_same rfl rfl fun Lx ac w1 hJ hl hc ho hd => ?_
                  have s15 : ac.eval (.tmp 15) = .pointer (some ⟨qr, 0, none⟩) := ho 15 rfl
                  exact ⟨_, x_field 40 (.tmp 15) 2 rfl s15 (fld402 _ _), rfl⟩
                · refine opS_same rfl rfl fun Lx ac w1 hJ hl hc ho hd => ?_
                  have d6 : ac.eval (.tmp 123) = .pointer (some ⟨qr, 2, none⟩) := hd 6 _ _ rfl rfl rfl
                  obtain ⟨_, _, hU⟩ := hJ
                  exact ⟨_, x_load 3 (.tmp 123) rfl d6 (run_load1 agg3 (cell_up (cell_of HCq.out (j := 2) rfl) hU)), rfl⟩
                · refine opS_callUp rfl rfl (fun k wx wy h hu => Up.trans h hu) (facts_keep HK) fun L ac wx hJ hl hc ho hd => ?_
                  have d7 : ac.eval (.tmp 124) = .int .i64 r.type := hd 7 _ _ rfl rfl rfl
                  obtain ⟨_, _, hU⟩ := hJ
                  refine ⟨13, _, x_fcall 13 [.tmp 124] _ rfl (by kernel_rfl), ?_⟩
                  simp only [List.map_cons, List.map_nil, d7]
                  refine (rleast_any r.type wx).mono fun e w2 ⟨he, hw⟩ => ⟨_, he, by rw [hw]; exact Up.refl _, ?_⟩
                  show Value.int .i64 _ = _
                  rw [HN.out]
                · refine opS_grow rfl rfl (fun k wx wy h hu => Up.trans h hu) (facts_keep HK) fun L ac wx hJ hl hc ho hd => ?_
                  have d8 : ac.eval (.tmp 125) = .int .i64 (N : Int) := hd 8 _ _ rfl rfl rfl
                  obtain ⟨_, _, hU⟩ := hJ
                  refine fine_run _ _ (x_make 22 (.tmp 125) (.tmp 125) rfl d8 d8 (make_bytes N (by omega) _ rfl wx)) (up_alloc _ _) ⟨_, _, rfl, ?_⟩
                  refine OwnI.base' (ownI_row (w0 := wx) (by simp) (by unfold maxLen; omega) ?_) hU.size
                  rw [show ints .u8 (List.replicate N 0) = List.replicate N (.int .u8 0) by simp [ints]]
                  exact new_at _ _
                · refine opS_same rfl rfl fun Lx ac w1 hJ hl hc ho hd => ?_
                  have d1 : ac.eval (.tmp 118) = .int .u32 r.code := hd 1 _ _ rfl rfl rfl
                  have d3 : ac.eval (.tmp 120) = .int .u32 r.vendor := hd 3 _ _ rfl rfl rfl
                  have d5 : ac.eval (.tmp 122) = .bool r.must := hd 5 _ _ rfl rfl rfl
                  have d9 := hd 9 _ _ rfl rfl rfl
                  obtain ⟨A, cc, hv, ho9⟩ := d9
                  have d9b : ac.eval (.tmp 126) = .slice A N cc := hv
                  exact ⟨_, x_build 38 _ rfl (by simp only [List.map_toArray, List.map_cons, List.map_nil, d1, d3, d5, d9b]; exact build38m _ _ _ _ _ _ _), A, cc, rfl, ho9⟩
                · refine opS_grow rfl rfl (fun k wx wy h hu => Up.trans h hu) (facts_keep HK) fun L ac wx hJ hl hc ho hd => ?_
                  have d10 := hd 10 _ _ rfl rfl rfl
                  obtain ⟨_, _, hU⟩ := hJ
                  obtain ⟨A, cc, hv, ho9⟩ := d10
                  have dd : ac.eval (.tmp 127) = .agg #[.int .u32 r.code, .int .u32 r.vendor, .bool r.must, .bool false, .slice A N cc] := hv
                  exact fine_run _ _ (x_bslice 29 1 _ rfl (by simp only [List.map_toArray, List.map_cons, List.map_nil, dd]; exact bslice1 _ _ _ _ _ _ _ _)) (up_alloc _ _) ⟨wx.heap.size, A, cc, rfl, own_up ho9 (up_alloc _ _), new_at _ _⟩
                · refine opS_same rfl rfl fun Lx ac w1 hJ hl hc ho hd => ?_
                  exact ⟨_, x_assign (.const (.int .i64 5005)) rfl rfl, rfl⟩
                · refine opS_same rfl rfl fun Lx ac w1 hJ hl hc ho hd => ?_
                  have d11 := hd 11 _ _ rfl rfl rfl
                  obtain ⟨q9, A, cc, hv, hr⟩ := d11
                  have dd : ac.eval (.tmp 128) = .slice (some ⟨q9, 0, none⟩) 1 1 := hv
                  exact ⟨_, x_assign (.tmp 128) rfl dd, q9, A, cc, rfl, hr⟩
                · refine opS_same rfl rfl fun Lx ac w1 hJ hl hc ho hd => ?_
                  exact ⟨_, x_assign (.const (.int .i64 0)) rfl rfl, rfl⟩
              · intro L1 a1 w9 hI hall
                obtain ⟨_, _, hUF⟩ := hI.done hall (by simp)
                have HU9 := Lib.hid (show Up wq w9 from hUF)
                obtain ⟨q9, A9, c9, l5, ho9, hw9⟩ := hI.facts 13 _ 5 rfl (hall 13 (by decide)) rfl
                clear hUF
                have l4 : a1.tmps.getD 4 undef = .int .i64 5005 := hI.get hall (i := 12) rfl rfl
                have l6 : a1.tmps.getD 6 undef = .int .i64 0 := hI.get hall (i := 14) rfl rfl
                have hde : a1.defers = [] := hI.defers
                have hal := act_lit a1 129 hI.size
                clear hI
                simp only [List.range, List.range.loop, List.map_cons, List.map_nil] at hal
                rw [l4, l5, l6, hde] at hal
                generalize a1.tmps.getD 0 undef = t0 at hal
                generalize a1.tmps.getD 1 undef = t1 at hal
                generalize a1.tmps.getD 2 undef = t2 at hal
                generalize a1.tmps.getD 3 undef = t3 at hal
                generalize a1.tmps.getD 7 undef = t7 at hal
                generalize a1.tmps.getD 8 undef = t8 at hal
                generalize a1.tmps.getD 9 undef = t9 at hal
                generalize a1.tmps.getD 10 undef = t10 at hal
                generalize a1.tmps.getD 11 undef = t11 at hal
                generalize a1.tmps.getD 12 undef = t12 at hal
                generalize a1.tmps.getD 13 undef = t13 at hal
                generalize a1.tmps.getD 14 undef = t14 at hal
                generalize a1.tmps.getD 15 undef = t15 at hal
                generalize a1.tmps.getD 16 undef = t16 at hal
                generalize a1.tmps.getD 17 undef = t17 at hal
                generalize a1.tmps.getD 18 undef = t18 at hal
                generalize a1.tmps.getD 19 undef = t19 at hal
                generalize a1.tmps.getD 20 undef = t20 at hal
                generalize a1.tmps.getD 21 undef = t21 at hal
                generalize a1.tmps.getD 22 undef = t22 at hal
                generalize a1.tmps.getD 23 undef = t23 at hal
                generalize a1.tmps.getD 24 undef = t24 at hal
                generalize a1.tmps.getD 25 undef = t25 at hal
                generalize a1.tmps.getD 26 undef = t26 at hal
                generalize a1.tmps.getD 27 undef = t27 at hal
                generalize a1.tmps.getD 28 undef = t28 at hal
                generalize a1.tmps.getD 29 undef = t29 at hal
                generalize a1.tmps.getD 30 undef = t30 at hal
                generalize a1.tmps.getD 31 undef = t31 at hal
                generalize a1.tmps.getD 32 undef = t32 at hal
                generalize a1.tmps.getD 33 undef = t33 at hal
                generalize a1.tmps.getD 34 undef = t34 at hal
                generalize a1.tmps.getD 35 undef = t35 at hal
                generalize a1.tmps.getD 36 undef = t36 at hal
                generalize a1.tmps.getD 37 undef = t37 at hal
                generalize a1.tmps.getD 38 undef = t38 at hal
                generalize a1.tmps.getD 39 undef = t39 at hal
                generalize a1.tmps.getD 40 undef = t40 at hal
                generalize a1.tmps.getD 41 undef = t41 at hal
                generalize a1.tmps.getD 42 undef = t42 at hal
                generalize a1.tmps.getD 43 undef = t43 at hal
                generalize a1.tmps.getD 44 undef = t44 at hal
                generalize a1.tmps.getD 45 undef = t45 at hal
                generalize a1.tmps.getD 46 undef = t46 at hal
                generalize a1.tmps.getD 47 undef = t47 at hal
                generalize a1.tmps.getD 48 undef = t48 at hal
                generalize a1.tmps.getD 49 undef = t49 at hal
                generalize a1.tmps.getD 50 undef = t50 at hal
                generalize a1.tmps.getD 51 undef = t51 at hal
                generalize a1.tmps.getD 52 undef = t52 at hal
                generalize a1.tmps.getD 53 undef = t53 at hal
                generalize a1.tmps.getD 54 undef = t54 at hal
                generalize a1.tmps.getD 55 undef = t55 at hal
                generalize a1.tmps.getD 56 undef = t56 at hal
                generalize a1.tmps.getD 57 undef = t57 at hal
                generalize a1.tmps.getD 58 undef = t58 at hal
                generalize a1.tmps.getD 59 undef = t59 at hal
                generalize a1.tmps.getD 60 undef = t60 at hal
                generalize a1.tmps.getD 61 undef = t61 at hal
                generalize a1.tmps.getD 62 undef = t62 at hal
                generalize a1.tmps.getD 63 undef = t63 at hal
                generalize a1.tmps.getD 64 undef = t64 at hal
                generalize a1.tmps.getD 65 undef = t65 at hal
                generalize a1.tmps.getD 66 undef = t66 at hal
                generalize a1.tmps.getD 67 undef = t67 at hal
                generalize a1.tmps.getD 68 undef = t68 at hal
                generalize a1.tmps.getD 69 undef = t69 at hal
                generalize a1.tmps.getD 70 undef = t70 at hal
                generalize a1.tmps.getD 71 undef = t71 at hal
                generalize a1.tmps.getD 72 undef = t72 at hal
                generalize a1.tmps.getD 73 undef = t73 at hal
                generalize a1.tmps.getD 74 undef = t74 at hal
                generalize a1.tmps.getD 75 undef = t75 at hal
                generalize a1.tmps.getD 76 undef = t76 at hal
                generalize a1.tmps.getD 77 undef = t77 at hal
                generalize a1.tmps.getD 78 undef = t78 at hal
                generalize a1.tmps.getD 79 undef = t79 at hal
                generalize a1.tmps.getD 80 undef = t80 at hal
                generalize a1.tmps.getD 81 undef = t81 at hal
                generalize a1.tmps.getD 82 undef = t82 at hal
                generalize a1.tmps.getD 83 undef = t83 at hal
                generalize a1.tmps.getD 84 undef = t84 at hal
                generalize a1.tmps.getD 85 undef = t85 at hal
                generalize a1.tmps.getD 86 undef = t86 at hal
                generalize a1.tmps.getD 87 undef = t87 at hal
                generalize a1.tmps.getD 88 undef = t88 at hal
                generalize a1.tmps.getD 89 undef = t89 at hal
                generalize a1.tmps.getD 90 undef = t90 at hal
                generalize a1.tmps.getD 91 undef = t91 at hal
                generalize a1.tmps.getD 92 undef = t92 at hal
                generalize a1.tmps.getD 93 undef = t93 at hal
                generalize a1.tmps.getD 94 undef = t94 at hal
                generalize a1.tmps.getD 95 undef = t95 at hal
                generalize a1.tmps.getD 96 undef = t96 at hal
                generalize a1.tmps.getD 97 undef = t97 at hal
                generalize a1.tmps.getD 98 undef = t98 at hal
                generalize a1.tmps.getD 99 undef = t99 at hal
                generalize a1.tmps.getD 100 undef = t100 at hal
                generalize a1.tmps.getD 101 undef = t101 at hal
                generalize a1.tmps.getD 102 undef = t102 at hal
                generalize a1.tmps.getD 103 undef = t103 at hal
                generalize a1.tmps.getD 104 undef = t104 at hal
                generalize a1.tmps.getD 105 undef = t105 at hal
                generalize a1.tmps.getD 106 undef = t106 at hal
                generalize a1.tmps.getD 107 undef = t107 at hal
                generalize a1.tmps.getD 108 undef = t108 at hal
                generalize a1.tmps.getD 109 undef = t109 at hal
                generalize a1.tmps.getD 110 undef = t110 at hal
                generalize a1.tmps.getD 111 undef = t111 at hal
                generalize a1.tmps.getD 112 undef = t112 at hal
                generalize a1.tmps.getD 113 undef = t113 at hal
                generalize a1.tmps.getD 114 undef = t114 at hal
                generalize a1.tmps.getD 115 undef = t115 at hal
                generalize a1.tmps.getD 116 undef = t116 at hal
                generalize a1.tmps.getD 117 undef = t117 at hal
                generalize a1.tmps.getD 118 undef = t118 at hal
                generalize a1.tmps.getD 119 undef = t119 at hal
                generalize a1.tmps.getD 120 undef = t120 at hal
                generalize a1.tmps.getD 121 undef = t121 at hal
                generalize a1.tmps.getD 122 undef = t122 at hal
                generalize a1.tmps.getD 123 undef = t123 at hal
                generalize a1.tmps.getD 124 undef = t124 at hal
                generalize a1.tmps.getD 125 undef = t125 at hal
                generalize a1.tmps.getD 126 undef = t126 at hal
                generalize a1.tmps.getD 127 undef = t127 at hal
                generalize a1.tmps.getD 128 undef = t128 at hal
                clear l4 l5 l6 hde
                subst hal
                have HG := Lib.hid (inL_one (x := ⟨r.code, r.vendor, r.must, false, A9, N, c9, List.replicate N 0⟩) hw9 ⟨own_inB ho9 (byt_zeros N), ⟨HRO.out.1, HRO.out.2, byt_zeros N⟩, by show N ≤ _; omega⟩)
                have HMR := Lib.hid (show miss r = AvB.pure ⟨r.code, r.vendor, r.must, false, A9, N, c9, List.replicate N 0⟩ by unfold miss; rw [HNN.out]; rfl)
                clear ho9 hw9
                go_wp2_with fail
                go_ret3
                exact rpost HJ.out rfl HG.out (by rw [HMR.out]; rfl) (by omega) (HUq.out.trans HU9.out)
            · have d3 : decide (cn < r.least) = false := decide_eq_false hb
              have HA2 := Lib.hid (show ∀ (t : Nat) (q : Ru), t < j + 1 → rs[t]? = some q → ¬ ((cnt q.nm (l.map AvB.pure) : Int) < q.least) from fun t q ht hq => by
                rcases Nat.lt_or_ge t j with h3 | h3
                · exact hA.out t q h3 hq
                · obtain rfl : t = j := by omega
                  rw [HR.out] at hq
                  cases hq
                  rw [HCN.out]; exact hb)
              clear hb
              go_big_quiet_o (fail)
              have HX := Lib.hid (up_drewN wa nq)
              generalize wa.drewN nq = wq at HX ⊢
              have HUq := Lib.hid (HUA.out.trans HX.out)
              have HMq := Lib.hid (HMa.out.up HX.out)
              clear hcell z4 HX HUA HMa
              go_wp2_with fail
              go_roundw
              case rel => exact ⟨j + 1, by omega, by go_num, HA2, HMq, HUq⟩
              case measure => simp [intOf]; omega
          · have d2 : decide ((j : Int) < (m : Int)) = false := decide_eq_false (by omega)
            have HJ := Lib.hid (judge_fine HS.out HAn.out (miss_none fun t r ht => hA.out t r (by have := (List.getElem?_eq_some_iff.1 ht).1; rw [HL.out] at this; omega) ht))
            go_wp2_with fail
            go_ret3
            exact rpost HJ.out rfl (inL_nil _) rfl (by omega) hU.out
end Go.Proofs.YtghldkjbmfbdfaaDoor
