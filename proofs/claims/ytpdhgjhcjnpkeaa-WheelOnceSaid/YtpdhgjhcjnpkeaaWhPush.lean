import Derived.Test.YtpdhgjhcjnpkeaaWhPush0
import Derived.Deep.DeepCutAuto
namespace Go.Proofs.Ytpdhgjhcjnpkeaa
open Go Go.RowKit
set_option linter.unusedVariables false
def UpdE (E : List Ent) (k v : Int) (m : Nat) (w : World) : Nat → Prop | 0 => MapI w m E | _ + 1 => ∃ b, MapI w m (E ++ [(k, v, b)])
/-- Behind the making of the map, where there was none. -/
structure Made (w0 : World) (pb tb : Nat) (A : Option Addr) (M : Option Nat) (n c : Nat) (a : List Tm.T) (x : Tm.T) (m : Nat) (E : List Ent) (w : World) : Prop where
  top : w.heap[pb]? = some (.cells #[.slice A n c, .map (some m)] 45 (0, 0))
  map : MapI w m E
  loc : Loc E a
  box : w.heap[w0.heap.size]? = some (.cells #[.pointer (some ⟨pb, 0, none⟩)] 50)
  loc_t : w.heap[tb]? = some (.cells #[.int .i64 x.1, .int .i64 x.2] 33)
  out : Out (fun k => k = pb) w0 w
  sub : M = some m ∨ w0.heap.size ≤ m
  nA : A.map (·.block) ≠ some m
theorem mapNil (M : Option Nat) (W : World) : (binOp .eql 41 (.map M) (.map none)).run Try.prog W = .ok (.bool (decide (M = none))) W := by
  cases M <;> kernel_rfl
theorem assertT (v : Value) (W : World) : (Instr.typeAssert (.iface 33 v) 20 33 false).run Try.prog W = .ok v W := by kernel_rfl
theorem ne_map {w : World} {m b : Nat} {E : List Ent} {cs : Array Value} {t : TypeId} {f : Nat × Nat} (h : MapI w m E) (hb : w.heap[b]? = some (.cells cs t f)) : b ≠ m := by
  rintro rfl
  obtain ⟨c1, h1, _⟩ := h
  rw [hb] at h1; cases h1
set_option maxRecDepth 100000 in
set_option maxHeartbeats 4000000 in
theorem pushO_w (S : Nat → Prop) (p : Addr) (a : List Tm.T) (x : Tm.T) (w : World) (h : IsH S w p a) (hl4 : a.length < 4096) (hno : Tm.has a x.1 = false) :
    Calls Try.prog 63 #[.agg #[.pointer (some p)], boxT x] w fun e w' => e = .returned (.tuple #[]) ∧ ∃ S', IsH S' w' p (a ++ [x]) ∧ Sub S' S w ∧ Out S w w' := by
  obtain ⟨pb, A, c, M, rfl, rfl, h⟩ := h
  obtain ⟨n, hn⟩ : ∃ n, n = a.length := ⟨_, rfl⟩
  have hM : (∃ m E, M = some m ∧ MapI w m E ∧ Loc E a) ∨ (M = none ∧ a = []) := by
    cases M with
    | none => exact .inr ⟨rfl, h.map⟩
    | some m => obtain ⟨E, h1, h2⟩ := h.map; exact .inl ⟨m, E, rfl, h1, h2⟩
  have hAp := h.ne
  have hpb := h.lt pb (.inl rfl)
  have hAw : ∀ k, A.map (·.block) = some k → k < w.heap.size := fun k hk => h.lt k (.inr (.inl hk))
  have HT := Lib.hid (show w.heap[pb]? = some (.cells #[.slice A n c, .map M] 45 (0, 0)) by rw [hn]; exact h.top)
  have HR := Lib.hid (show w.ownsRow 0 33 2 (.slice A n c) n (tcells a) by rw [hn]; exact h.row)
  have HM := Lib.hid hM
  have HN := Lib.hid hn
  have HN4 := Lib.hid (show n < 4096 by rw [hn]; exact hl4)
  have HNO := Lib.hid hno
  have HAP := Lib.hid hAp
  have HAW := Lib.hid hAw
  have hbx : boxT x = .iface 33 (.agg #[.int .i64 x.1, .int .i64 x.2]) := rfl
  rw [hbx]
  clear h hM hn hl4 hno hbx hAp hAw
  have hta := assertT (.agg #[.int .i64 x.1, .int .i64 x.2])
  go_enter Try.func63, Try.ntmps63
  go_upto_region 2 with (fail)
  have bb : ((w.alloc (.cells #[.pointer (some ⟨pb, 0, none⟩)] 50)).alloc (.cells #[.int .i64 x.1, .int .i64 x.2] 33)).heap[w.heap.size]? = some (.cells #[.pointer (some ⟨pb, 0, none⟩)] 50) := by
    rw [(MapKept.heap_alloc _ _).2 _ (by simp)]; exact (MapKept.heap_alloc w _).1
  have bt : ((w.alloc (.cells #[.pointer (some ⟨pb, 0, none⟩)] 50)).alloc (.cells #[.int .i64 x.1, .int .i64 x.2] 33)).heap[w.heap.size + 1]? = some (.cells #[.int .i64 x.1, .int .i64 x.2] 33) := by
    have := (MapKept.heap_alloc (w.alloc (.cells #[.pointer (some ⟨pb, 0, none⟩)] 50)) (.cells #[.int .i64 x.1, .int .i64 x.2] 33)).1
    rwa [show (w.alloc (.cells #[.pointer (some ⟨pb, 0, none⟩)] 50)).heap.size = w.heap.size + 1 by simp] at this
  have G0 : Up w ((w.alloc (.cells #[.pointer (some ⟨pb, 0, none⟩)] 50)).alloc (.cells #[.int .i64 x.1, .int .i64 x.2] 33)) := (up_alloc _ _).trans (up_alloc _ _)
  generalize ((w.alloc (.cells #[.pointer (some ⟨pb, 0, none⟩)] 50)).alloc (.cells #[.int .i64 x.1, .int .i64 x.2] 33)) = U at bb bt G0 ⊢
  obtain ⟨tb, htb⟩ : ∃ t, t = w.heap.size + 1 := ⟨_, rfl⟩
  rw [← htb] at bt ⊢
  have HTB := Lib.hid htb
  have HBB := Lib.hid bb
  have HBT := Lib.hid bt
  have HG := Lib.hid G0
  have cb : U.cell? ⟨w.heap.size, 0, none⟩ = some (.pointer (some ⟨pb, 0, none⟩)) := cell_of bb rfl
  have cm : U.cell? ⟨pb, 1, none⟩ = some (.map M) := cell_up (cell_of HT.out rfl) G0
  have hUs := lt_of_blk bt
  have CU := Lib.hid (show ∀ o, (U.alloc o).cell? ⟨pb, 1, none⟩ = some (.map M) from cell_alloc cm (by have := G0.size; omega))
  have FU := Lib.hid (show ∀ o, (U.alloc o).frozen? ⟨pb, 1, none⟩ = false from fun o => frozen_at (((MapKept.heap_alloc U o).2 pb (by have := G0.size; omega)).trans ((G0.block pb hpb).trans HT.out)))
  clear htb bb bt G0 hta
  go_cut [12] (fun s12 wx => s12 = .bool (decide (M = none)) ∧ Hid (wx = U))
  case first =>
    have hbin := mapNil M
    go_wp2_with fail
    go_meet
    exact ⟨rfl, Lib.hid rfl⟩
  case rest =>
    obtain ⟨rfl, hV⟩ := hcut
    have hV := hV.out
    subst hV
    go_upto_if 12 with (fail)
    go_cut [15] (fun s15 wx => ∃ m E, Hid (Made w pb tb A M n c a x m E wx))
    case first =>
      rcases HM.out with ⟨m, E, rfl, hmap, hloc⟩ | ⟨rfl, rfl⟩
      · have e : decide ((some m : Option Nat) = none) = false := by simp
        rw [e]
        have HE := Lib.hid (And.intro hmap hloc)
        clear e hmap hloc
        go_wp2_with fail
        go_meet
        have hmA : A.map (·.block) ≠ some m := fun h => by
          obtain ⟨c1, h1, _⟩ := HE.out.1
          rcases HR.out.2 with h2 | ⟨g, cap, cur, hv, hg, hh, r⟩
          · injection h2.1 with e1 e2 e3
            rw [e1] at h; cases h
          · injection hv with e1 e2 e3
            rw [e1] at h; simp at h; subst h
            rw [hh] at h1; cases h1
        exact ⟨m, E, Lib.hid ⟨(HG.out.block pb hpb).trans HT.out, HE.out.1.keep (HG.out.block m HE.out.1.lt), HE.out.2, HBB.out, HBT.out, HG.out.out _, .inl rfl, hmA⟩⟩
      · rw [decide_eq_true rfl]
        have hmm := @run_makeMap Try.prog
        have cu := CU.out
        have fu := FU.out
        go_wp2_with fail
        go_meet
        clear cu fu hmm
        have hsz := HG.out.size
        have ho := (HG.out.trans (up_alloc wc (.map #[] 0)))
        have htop := (ho.block pb hpb).trans HT.out
        have hne : ∀ k, k ≠ pb → ((wc.alloc (.map #[] 0)).setCell ⟨pb, 1, none⟩ (.map (some wc.heap.size))).heap[k]? = (wc.alloc (.map #[] 0)).heap[k]? := fun k hk => by
          simp [World.setCell, Array.getElem?_modify, Ne.symm hk]
        refine ⟨wc.heap.size, [], Lib.hid ⟨?_, ?_, fun k v => by simp, ?_, ?_, ?_, .inr hsz, fun h => by have := HAW.out _ h; omega⟩⟩
        · have := setCell_at (j := 1) (.map (some wc.heap.size)) htop
          simpa using this
        · exact ⟨0, by rw [hne _ (by omega)]; exact (MapKept.heap_alloc wc _).1, by simp, by simp, by simp⟩
        · rw [hne _ (by omega), (MapKept.heap_alloc wc _).2 _ (lt_of_blk HBB.out)]; exact HBB.out
        · rw [hne _ (by have := HTB.out; omega), (MapKept.heap_alloc wc _).2 _ (lt_of_blk HBT.out)]; exact HBT.out
        · exact (ho.out _).trans (setCell_out _ _ _ _) (Sub.refl _ _)
    case rest =>
      obtain ⟨m, E, HMd⟩ := hcut
      clear HBB HBT HG cb cm hUs CU FU hV HM
      go_upto_region 4 with (fail)
      obtain ⟨top, hmap, hloc, box, bt, hout, hsub, hnA⟩ := HMd.out
      have hsz := hout.size
      have hmp := ne_map hmap top
      have hmb := ne_map hmap box
      have hmt := ne_map hmap bt
      have hAp := HAP.out
      have HLN := Lib.hid (show lookE E x.1 = none by
        rw [lookE_none]
        intro e he hk
        obtain ⟨i, hi, h1, _⟩ := (hloc e.1 e.2.1).1 ⟨e.2.2, he⟩
        have : Tm.has a x.1 = true := Tm.has_iff.2 ⟨_, Hp.at_mem hi, by rw [← h1, hk]⟩
        rw [HNO.out] at this; cases this)
      have HLOC := Lib.hid hloc
      have HSUB := Lib.hid hsub
      have HNA := Lib.hid hnA
      have HOUT := Lib.hid hout
      have HMAP := Lib.hid hmap
      have cb : ∀ w1, Out (fun k => k = m) wc w1 → w1.cell? ⟨w.heap.size, 0, none⟩ = some (.pointer (some ⟨pb, 0, none⟩)) := fun w1 h => cell_of (h.blk box hmb) rfl
      have cm : ∀ w1, Out (fun k => k = m) wc w1 → w1.cell? ⟨pb, 0 + 1, none⟩ = some (.map (some m)) := fun w1 h => cell_of (h.blk top hmp) rfl
      have cp : ∀ w1, Out (fun k => k = m) wc w1 → w1.cell? ⟨pb, 0, none⟩ = some (.slice A n c) := fun w1 h => cell_of (h.blk top hmp) rfl
      have ct : ∀ w1, Out (fun k => k = m) wc w1 → w1.cell? ⟨tb, 0, none⟩ = some (.int .i64 x.1) := fun w1 h => cell_of (h.blk bt hmt) rfl
      refine staged_lit (by kernel_rfl) (facts [Is (.pointer (some ⟨w.heap.size, 0, none⟩)), Is (.pointer (some ⟨pb, 0, none⟩)), Is (.pointer (some ⟨pb, 0, none⟩)), Is (.pointer (some ⟨pb, 0 + 1, none⟩)), Is (.map (some m)), Is (.pointer (some ⟨tb, 0, none⟩)), Is (.int .i64 x.1), Is (.pointer (some ⟨w.heap.size, 0, none⟩)), Is (.pointer (some ⟨pb, 0, none⟩)), Is (.pointer (some ⟨pb, 0, none⟩)), Is (.pointer (some ⟨pb, 0, none⟩)), Is (.slice A n c), Is (.int .i64 (n : Int)), Tru]) (Stg [13] (fun k w1 => Out (fun k => k = m) wc w1 ∧ UpdE E x.1 n m w1 k)) 43 rfl (by decide +kernel) (by decide +kernel) (Stg.start ⟨(Up.drew wc).out _, HMAP.out.keep rfl⟩) ?_ ?_
      · refine ⟨?_, ?_, ?_, ?_, ?_, ?_, ?_, ?_, ?_, ?_, ?_, ?_, ?_, ?_, trivial⟩
        · refine opS_same rfl rfl fun L ac w1 hJ hl hc ho hd => ?_
          have s2 : ac.eval (.tmp 2) = .pointer (some ⟨w.heap.size, 0, none⟩) := ho 2 rfl
          exact ⟨_, x_field 50 (.tmp 2) 0 rfl s2 (fld500 _ _ _), rfl⟩
        · refine opS_same rfl rfl fun L ac w1 hJ hl hc ho hd => ?_
          have d0 : ac.eval (.tmp 18) = .pointer (some ⟨w.heap.size, 0, none⟩) := hd 0 _ _ rfl rfl rfl
          obtain ⟨k, _, hW⟩ := hJ
          exact ⟨_, x_load 48 (.tmp 18) rfl d0 (run_load1 agg48 (cb w1 hW.1)), rfl⟩
        · refine opS_same rfl rfl fun L ac w1 hJ hl hc ho hd => ?_
          have d1 : ac.eval (.tmp 19) = .pointer (some ⟨pb, 0, none⟩) := hd 1 _ _ rfl rfl rfl
          exact ⟨_, x_nil (.tmp 19) rfl d1, rfl⟩
        · refine opS_same rfl rfl fun L ac w1 hJ hl hc ho hd => ?_
          have d2 : ac.eval (.tmp 20) = .pointer (some ⟨pb, 0, none⟩) := hd 2 _ _ rfl rfl rfl
          exact ⟨_, x_field 43 (.tmp 20) 1 rfl d2 (fld431 _ _ _), rfl⟩
        · refine opS_same rfl rfl fun L ac w1 hJ hl hc ho hd => ?_
          have d3 : ac.eval (.tmp 21) = .pointer (some ⟨pb, 0 + 1, none⟩) := hd 3 _ _ rfl rfl rfl
          obtain ⟨k, _, hW⟩ := hJ
          exact ⟨_, x_load 41 (.tmp 21) rfl d3 (run_load1 agg41 (cm w1 hW.1)), rfl⟩
        · refine opS_same rfl rfl fun L ac w1 hJ hl hc ho hd => ?_
          have s4 : ac.eval (.tmp 4) = .pointer (some ⟨tb, 0, none⟩) := ho 4 rfl
          exact ⟨_, x_field 33 (.tmp 4) 0 rfl s4 (fld330 _ _ _), rfl⟩
        · refine opS_same rfl rfl fun L ac w1 hJ hl hc ho hd => ?_
          have d5 : ac.eval (.tmp 23) = .pointer (some ⟨tb, 0, none⟩) := hd 5 _ _ rfl rfl rfl
          obtain ⟨k, _, hW⟩ := hJ
          exact ⟨_, x_load 3 (.tmp 23) rfl d5 (run_load1 agg3 (ct w1 hW.1)), rfl⟩
        · refine opS_same rfl rfl fun L ac w1 hJ hl hc ho hd => ?_
          have s2 : ac.eval (.tmp 2) = .pointer (some ⟨w.heap.size, 0, none⟩) := ho 2 rfl
          exact ⟨_, x_field 50 (.tmp 2) 0 rfl s2 (fld500 _ _ _), rfl⟩
        · refine opS_same rfl rfl fun L ac w1 hJ hl hc ho hd => ?_
          have d7 : ac.eval (.tmp 25) = .pointer (some ⟨w.heap.size, 0, none⟩) := hd 7 _ _ rfl rfl rfl
          obtain ⟨k, _, hW⟩ := hJ
          exact ⟨_, x_load 48 (.tmp 25) rfl d7 (run_load1 agg48 (cb w1 hW.1)), rfl⟩
        · refine opS_same rfl rfl fun L ac w1 hJ hl hc ho hd => ?_
          have d8 : ac.eval (.tmp 26) = .pointer (some ⟨pb, 0, none⟩) := hd 8 _ _ rfl rfl rfl
          exact ⟨_, x_nil (.tmp 26) rfl d8, rfl⟩
        · refine opS_same rfl rfl fun L ac w1 hJ hl hc ho hd => ?_
          have d9 : ac.eval (.tmp 27) = .pointer (some ⟨pb, 0, none⟩) := hd 9 _ _ rfl rfl rfl
          exact ⟨_, x_field 43 (.tmp 27) 0 rfl d9 (fld430 _ _ _), rfl⟩
        · refine opS_same rfl rfl fun L ac w1 hJ hl hc ho hd => ?_
          have d10 : ac.eval (.tmp 28) = .pointer (some ⟨pb, 0, none⟩) := hd 10 _ _ rfl rfl rfl
          obtain ⟨k, _, hW⟩ := hJ
          exact ⟨_, x_load 30 (.tmp 28) rfl d10 (run_load1 agg30 (cp w1 hW.1)), rfl⟩
        · refine opS_same rfl rfl fun L ac w1 hJ hl hc ho hd => ?_
          have d11 : ac.eval (.tmp 29) = .slice A n c := hd 11 _ _ rfl rfl rfl
          exact ⟨_, x_len (.tmp 29) 30 33 rfl Try.underlying30 d11, rfl⟩
        · refine opS_write (j := 0) rfl rfl (by decide) rfl (fun _ _ h => absurd h (by omega)) fun ac w1 hW ho hd => ?_
          have d4 : ac.eval (.tmp 22) = .map (some m) := hd 4 _ _ rfl rfl rfl
          have d6 : ac.eval (.tmp 24) = .int .i64 x.1 := hd 6 _ _ rfl rfl rfl
          have d12 : ac.eval (.tmp 30) = .int .i64 (n : Int) := hd 12 _ _ rfl rfl rfl
          obtain ⟨o, b, h1, h2⟩ := run_updI (P := Try.prog) Try.underlying41 Try.underlying3 (show MapI w1 m E from hW.2) x.1 n HLN.out
          exact ⟨_, x_mapupd 41 (.tmp 22) (.tmp 24) (.tmp 30) rfl d4 d6 d12 h1, ⟨hW.1.trans (setBlk_out _ _ _) (Sub.refl _ _), ⟨b, h2⟩⟩, fun _ => trivial, fun q v => facts_free (by simp [free_is, free_tru]) q v⟩
      · intro L a1 w2 hI hall
        obtain ⟨k, hk, hW1, hW2⟩ := hI.done hall (by simp)
        obtain ⟨k, rfl⟩ : ∃ q, k = q + 1 := ⟨k - 1, by simp at hk; omega⟩
        have X1 := Lib.hid hW1
        have X2 := Lib.hid (show ∃ b, MapI w2 m (E ++ [(x.1, (n : Int), b)]) from hW2)
        clear hk hW1 hW2 cb cm cp ct k
        have l0 : a1.tmps.getD 0 undef = .agg #[.pointer (some ⟨pb, 0, none⟩)] := hI.old 0 rfl
        have l1 : a1.tmps.getD 1 undef = .iface 33 (.agg #[.int .i64 x.1, .int .i64 x.2]) := hI.old 1 rfl
        have l2 : a1.tmps.getD 2 undef = .pointer (some ⟨w.heap.size, 0, none⟩) := hI.old 2 rfl
        have l4 : a1.tmps.getD 4 undef = .pointer (some ⟨tb, 0, none⟩) := hI.old 4 rfl
        have hde : a1.defers = [] := hI.defers
        have hal := act_lit a1 43 hI.size
        clear hI
        simp only [List.range, List.range.loop, List.map_cons, List.map_nil] at hal
        rw [l0, l1, l2, l4, hde] at hal
        generalize a1.tmps.getD 3 undef = t3 at hal
        generalize a1.tmps.getD 5 undef = t5 at hal
        generalize a1.tmps.getD 6 undef = t6 at hal
        generalize a1.tmps.getD 7 undef = t7 at hal
        generalize a1.tmps.getD 8 undef = t8 at hal
        generalize a1.tmps.getD 9 undef = t9 at hal
        generalize a1.tmps.getD 10 undef = t10 at hal
        generalize a1.tmps.getD 11 undef = t11 at hal
        generalize a1.tmps.getD 12 undef = t12 at hal
        generalize a1.tmps.getD 13 undef = t13 at hal
        generalize a1.tmps.getD 14 undef = t14 at hal
        generalize a1.tmps.getD 15 undef = t15 at hal
        generalize a1.tmps.getD 16 undef = t16 at hal
        generalize a1.tmps.getD 17 undef = t17 at hal
        generalize a1.tmps.getD 18 undef = t18 at hal
        generalize a1.tmps.getD 19 undef = t19 at hal
        generalize a1.tmps.getD 20 undef = t20 at hal
        generalize a1.tmps.getD 21 undef = t21 at hal
        generalize a1.tmps.getD 22 undef = t22 at hal
        generalize a1.tmps.getD 23 undef = t23 at hal
        generalize a1.tmps.getD 24 undef = t24 at hal
        generalize a1.tmps.getD 25 undef = t25 at hal
        generalize a1.tmps.getD 26 undef = t26 at hal
        generalize a1.tmps.getD 27 undef = t27 at hal
        generalize a1.tmps.getD 28 undef = t28 at hal
        generalize a1.tmps.getD 29 undef = t29 at hal
        generalize a1.tmps.getD 30 undef = t30 at hal
        generalize a1.tmps.getD 31 undef = t31 at hal
        generalize a1.tmps.getD 32 undef = t32 at hal
        generalize a1.tmps.getD 33 undef = t33 at hal
        generalize a1.tmps.getD 34 undef = t34 at hal
        generalize a1.tmps.getD 35 undef = t35 at hal
        generalize a1.tmps.getD 36 undef = t36 at hal
        generalize a1.tmps.getD 37 undef = t37 at hal
        generalize a1.tmps.getD 38 undef = t38 at hal
        generalize a1.tmps.getD 39 undef = t39 at hal
        generalize a1.tmps.getD 40 undef = t40 at hal
        generalize a1.tmps.getD 41 undef = t41 at hal
        generalize a1.tmps.getD 42 undef = t42 at hal
        clear l0 l1 l2 l4 hde
        subst hal
        go_upto_region 5 with (fail)
        have hs2 := X1.out.size
        have p5 : w2.heap[pb]? = some (.cells #[.slice A n c, .map (some m)] 45 (0, 0)) := X1.out.blk top hmp
        have bb2 : w2.heap[w.heap.size]? = some (.cells #[.pointer (some ⟨pb, 0, none⟩)] 50) := X1.out.blk box hmb
        have bt2 : w2.heap[tb]? = some (.cells #[.int .i64 x.1, .int .i64 x.2] 33) := X1.out.blk bt hmt
        have hA : ∀ k, A.map (·.block) = some k → k < w2.heap.size := fun k hk => by have := HAW.out k hk; omega
        have hpV : pb < w2.heap.size := lt_of_blk p5
        have HRO := Lib.hid (show w2.ownsRow 0 33 2 (.slice A n c) n (tcells a) from X1.out.own (HOUT.out.own HR.out (fun g hg e => hAp (by rw [← ownBlock_slice A n c, hg, e]))) (fun g hg e => HNA.out (by rw [← ownBlock_slice A n c, hg, e])))
        have htb := HTB.out
        have cb : ∀ w1, Out (fun k => k = pb ∨ A.map (·.block) = some k) w2 w1 → w1.cell? ⟨w.heap.size, 0, none⟩ = some (.pointer (some ⟨pb, 0, none⟩)) := fun w1 h => cell_of (h.blk bb2 (by rintro (e | e); omega; have := HAW.out _ e; omega)) rfl
        have ct : ∀ w1, Out (fun k => k = pb ∨ A.map (·.block) = some k) w2 w1 → w1.cell? ⟨tb, 0, none⟩ = some (.int .i64 x.1) ∧ w1.cell? ⟨tb, 1, none⟩ = some (.int .i64 x.2) := fun w1 h => by
          have hb := h.blk bt2 (by rintro (e | e); omega; have := HAW.out _ e; omega)
          exact ⟨cell_of hb rfl, cell_of hb rfl⟩
        refine staged_lit (by kernel_rfl) (facts [Is (.pointer (some ⟨w.heap.size, 0, none⟩)), Is (.pointer (some ⟨pb, 0, none⟩)), Is (.pointer (some ⟨w.heap.size, 0, none⟩)), Is (.pointer (some ⟨pb, 0, none⟩)), Is (.pointer (some ⟨pb, 0, none⟩)), Is (.pointer (some ⟨pb, 0, none⟩)), Is (.slice A n c), Is (.agg #[.int .i64 x.1, .int .i64 x.2]), OneT w2.heap.size x, NewT w2.heap.size A pb (n + 1) (tcells (a ++ [x])), Is (.pointer (some ⟨pb, 0, none⟩)), Is (.pointer (some ⟨pb, 0, none⟩)), Tru]) (Stg [9, 12] (fun k w1 => PushW w2 A pb m (n + 1) (tcells (a ++ [x])) k w1)) 43 rfl (by decide +kernel) (by decide +kernel) (Stg.start (Up.drew w2)) ?_ ?_
        · refine ⟨?_, ?_, ?_, ?_, ?_, ?_, ?_, ?_, ?_, ?_, ?_, ?_, ?_, trivial⟩
          · refine opS_same rfl rfl fun L ac w1 hJ hl hc ho hd => ?_
            have s2 : ac.eval (.tmp 2) = .pointer (some ⟨w.heap.size, 0, none⟩) := ho 2 rfl
            exact ⟨_, x_field 50 (.tmp 2) 0 rfl s2 (fld500 _ _ _), rfl⟩
          · refine opS_same rfl rfl fun L ac w1 hJ hl hc ho hd => ?_
            have d0 : ac.eval (.tmp 31) = .pointer (some ⟨w.heap.size, 0, none⟩) := hd 0 _ _ rfl rfl rfl
            obtain ⟨k, _, hW⟩ := hJ
            exact ⟨_, x_load 48 (.tmp 31) rfl d0 (run_load1 agg48 (cb w1 hW.out)), rfl⟩
          · refine opS_same rfl rfl fun L ac w1 hJ hl hc ho hd => ?_
            have s2 : ac.eval (.tmp 2) = .pointer (some ⟨w.heap.size, 0, none⟩) := ho 2 rfl
            exact ⟨_, x_field 50 (.tmp 2) 0 rfl s2 (fld500 _ _ _), rfl⟩
          · refine opS_same rfl rfl fun L ac w1 hJ hl hc ho hd => ?_
            have d2 : ac.eval (.tmp 33) = .pointer (some ⟨w.heap.size, 0, none⟩) := hd 2 _ _ rfl rfl rfl
            obtain ⟨k, _, hW⟩ := hJ
            exact ⟨_, x_load 48 (.tmp 33) rfl d2 (run_load1 agg48 (cb w1 hW.out)), rfl⟩
          · refine opS_same rfl rfl fun L ac w1 hJ hl hc ho hd => ?_
            have d3 : ac.eval (.tmp 34) = .pointer (some ⟨pb, 0, none⟩) := hd 3 _ _ rfl rfl rfl
            exact ⟨_, x_nil (.tmp 34) rfl d3, rfl⟩
          · refine opS_same rfl rfl fun L ac w1 hJ hl hc ho hd => ?_
            have d4 : ac.eval (.tmp 35) = .pointer (some ⟨pb, 0, none⟩) := hd 4 _ _ rfl rfl rfl
            exact ⟨_, x_field 43 (.tmp 35) 0 rfl d4 (fld430 _ _ _), rfl⟩
          · refine opS_same rfl rfl fun L ac w1 hJ hl hc ho hd => ?_
            have d5 : ac.eval (.tmp 36) = .pointer (some ⟨pb, 0, none⟩) := hd 5 _ _ rfl rfl rfl
            obtain ⟨k, hk, hW⟩ := hJ.ahead (j := 1) rfl (reach_not hc (n := 40) (k := 12) (by kernel_rfl) hl)
            exact ⟨_, x_load 30 (.tmp 36) rfl d5 (run_load1 agg30 (cell_of (PushW.top p5 hAp hk hW) rfl)), rfl⟩
          · refine opS_same rfl rfl fun L ac w1 hJ hl hc ho hd => ?_
            have s4 : ac.eval (.tmp 4) = .pointer (some ⟨tb, 0, none⟩) := ho 4 rfl
            obtain ⟨k, _, hW⟩ := hJ
            exact ⟨_, x_load 33 (.tmp 4) rfl s4 (run_load33t (ct w1 hW.out).1 (ct w1 hW.out).2), rfl⟩
          · refine opS_run rfl rfl fun L ac w1 hJ hl hc ho hd => ?_
            have d7 : ac.eval (.tmp 38) = .agg #[.int .i64 x.1, .int .i64 x.2] := hd 7 _ _ rfl rfl rfl
            have hW : Up w2 w1 := hJ.first (reach_not hc (n := 40) (k := 9) (by kernel_rfl) hl)
            refine ⟨_, _, x_bslice 30 1 _ rfl (by simp only [List.map_toArray, List.map_cons, List.map_nil, d7]; exact bslice30 x w1), oneT_new x w1 hW.size, fun k hk => hk.upTo (up_alloc _ _) (by have := hW.size; omega), fun j v hl2 hf => ?_⟩
            exact facts_by (by simp only [List.mem_cons, List.not_mem_nil, or_false]; rintro φ (rfl | rfl | rfl | rfl | rfl | rfl | rfl | rfl | rfl | rfl | rfl | rfl | rfl) v h <;> first | exact h | exact OneT.up h (up_alloc _ _) | exact NewT.up h (up_alloc _ _) | exact trivial) j v hf
          · refine opS_writeV (j := 0) rfl (by decide) rfl (fun _ _ h => absurd h (by omega)) fun ac w1 hW ho hd => ?_
            have d6 : ac.eval (.tmp 37) = .slice A n c := hd 6 _ _ rfl rfl rfl
            have d8 := hd 8 _ _ rfl rfl rfl
            obtain ⟨g1, e1, q0, q1, hg1⟩ := d8
            have d8 : ac.eval (.tmp 39) = .slice (some ⟨g1, 0, none⟩) 1 1 := e1
            have hu : Up w2 w1 := hW
            obtain ⟨v2, wn, h1, h2, h3, h4⟩ := append_T (own_up HRO.out hu) q0 q1 (by have := HN4.out; omega) (Nat.zero_le _)
            refine ⟨v2, wn, x_append (.tmp 37) (.tmp 39) 30 30 rfl d6 d8 h1, show Out (fun k => A.map (·.block) = some k) w2 wn from (hu.out _).trans h2 (Sub.refl _ _), ⟨by rw [tcells_append]; exact h3, h4.imp id (fun h => ⟨_, h, hu.size⟩), ?_⟩, fun j v hj hf => ?_⟩
            · rcases h4 with h4 | h4
              · rw [h4]; exact hAp
              · rw [h4]; intro e; have := hu.size; injection e; omega
            · exact facts_but 9 (by simp only [List.set_cons_succ, List.set_cons_zero, List.mem_cons, List.not_mem_nil, or_false]; rintro φ (rfl | rfl | rfl | rfl | rfl | rfl | rfl | rfl | rfl | rfl | rfl | rfl | rfl) v h <;> first | exact h | exact OneT.out h h2 (fun k hk => hA k hk) | exact NewT.up h (Up.refl _) | exact trivial) j v hj hf
          · refine opS_same rfl rfl fun L ac w1 hJ hl hc ho hd => ?_
            have d1 : ac.eval (.tmp 32) = .pointer (some ⟨pb, 0, none⟩) := hd 1 _ _ rfl rfl rfl
            exact ⟨_, x_nil (.tmp 32) rfl d1, rfl⟩
          · refine opS_same rfl rfl fun L ac w1 hJ hl hc ho hd => ?_
            have d10 : ac.eval (.tmp 41) = .pointer (some ⟨pb, 0, none⟩) := hd 10 _ _ rfl rfl rfl
            exact ⟨_, x_field 43 (.tmp 41) 0 rfl d10 (fld430 _ _ _), rfl⟩
          · refine opS_write (j := 1) rfl rfl (by decide) rfl (fun y hy _ => by cases hy; rfl) fun ac w1 hW ho hd => ?_
            have d11 : ac.eval (.tmp 42) = .pointer (some ⟨pb, 0, none⟩) := hd 11 _ _ rfl rfl rfl
            have d9 := hd 9 _ _ rfl rfl rfl
            have hW1 : Out (fun k => A.map (·.block) = some k) w2 w1 := hW
            obtain ⟨A2, c2, hv2⟩ := own_slice d9.1
            rw [hv2] at d9
            have d9e : ac.eval (.tmp 40) = .slice A2 (n + 1) c2 := by obtain ⟨A3, c3, h3⟩ := (⟨A2, c2, hv2⟩ : ∃ A c, _ = Value.slice A (n + 1) c); exact hv2
            have hp1 : w1.heap[pb]? = some (.cells #[.slice A n c, .map (some m)] 45 (0, 0)) := hW1.blk p5 hAp
            have hso := setCell_out w1 pb 0 (.slice A2 (n + 1) c2)
            have hn2 : NewT w2.heap.size A pb (n + 1) (tcells (a ++ [x])) (.slice A2 (n + 1) c2) (w1.setCell ⟨pb, 0, none⟩ (.slice A2 (n + 1) c2)) := ⟨hso.own d9.1 (fun g hg e => d9.2.2 (by rw [hg, e])), d9.2⟩
            refine ⟨_, x_store 30 (.tmp 42) (.tmp 40) rfl d11 d9e (run_store1 siz30 hp1 (by simp) rfl rfl), ⟨(hW1.mono (fun _ h => .inr h)).trans hso (fun k hk => .inl (.inl hk)), A2, c2, by have := setCell_at (j := 0) (.slice A2 (n + 1) c2) hp1; simpa using this, hn2⟩, fun _ => trivial, fun j v hf => ?_⟩
            exact facts_by (by simp only [List.mem_cons, List.not_mem_nil, or_false]; rintro φ (rfl | rfl | rfl | rfl | rfl | rfl | rfl | rfl | rfl | rfl | rfl | rfl | rfl) v h <;> first | exact h | exact OneT.out h hso (fun k hk => by rw [hk]; exact hpV) | exact (⟨hso.own h.1 (fun g hg e => h.2.2 (by rw [hg, e])), h.2⟩ : NewT _ _ _ _ _ _ _) | exact trivial) j v hf
        · intro L a1 w3 hI hall
          obtain ⟨k, hk, hW⟩ := hI.done hall (by simp)
          obtain ⟨k, rfl⟩ : ∃ q, k = q + 2 := ⟨k - 2, by simp at hk; omega⟩
          have Y := Lib.hid (show Out (fun k => k = pb ∨ A.map (·.block) = some k) w2 w3 ∧ ∃ A' c', w3.heap[pb]? = some (.cells #[.slice A' (n + 1) c', .map (some m)] 45 (0, 0)) ∧ NewT w2.heap.size A pb (n + 1) (tcells (a ++ [x])) (.slice A' (n + 1) c') w3 from hW)
          clear hk hW cb ct k
          have l0 : a1.tmps.getD 0 undef = .agg #[.pointer (some ⟨pb, 0, none⟩)] := hI.old 0 rfl
          have l1 : a1.tmps.getD 1 undef = .iface 33 (.agg #[.int .i64 x.1, .int .i64 x.2]) := hI.old 1 rfl
          have l2 : a1.tmps.getD 2 undef = .pointer (some ⟨w.heap.size, 0, none⟩) := hI.old 2 rfl
          have l4 : a1.tmps.getD 4 undef = .pointer (some ⟨tb, 0, none⟩) := hI.old 4 rfl
          have hde : a1.defers = [] := hI.defers
          have hal := act_lit a1 43 hI.size
          clear hI
          simp only [List.range, List.range.loop, List.map_cons, List.map_nil] at hal
          rw [l0, l1, l2, l4, hde] at hal
          generalize a1.tmps.getD 3 undef = t3 at hal
          generalize a1.tmps.getD 5 undef = t5 at hal
          generalize a1.tmps.getD 6 undef = t6 at hal
          generalize a1.tmps.getD 7 undef = t7 at hal
          generalize a1.tmps.getD 8 undef = t8 at hal
          generalize a1.tmps.getD 9 undef = t9 at hal
          generalize a1.tmps.getD 10 undef = t10 at hal
          generalize a1.tmps.getD 11 undef = t11 at hal
          generalize a1.tmps.getD 12 undef = t12 at hal
          generalize a1.tmps.getD 13 undef = t13 at hal
          generalize a1.tmps.getD 14 undef = t14 at hal
          generalize a1.tmps.getD 15 undef = t15 at hal
          generalize a1.tmps.getD 16 undef = t16 at hal
          generalize a1.tmps.getD 17 undef = t17 at hal
          generalize a1.tmps.getD 18 undef = t18 at hal
          generalize a1.tmps.getD 19 undef = t19 at hal
          generalize a1.tmps.getD 20 undef = t20 at hal
          generalize a1.tmps.getD 21 undef = t21 at hal
          generalize a1.tmps.getD 22 undef = t22 at hal
          generalize a1.tmps.getD 23 undef = t23 at hal
          generalize a1.tmps.getD 24 undef = t24 at hal
          generalize a1.tmps.getD 25 undef = t25 at hal
          generalize a1.tmps.getD 26 undef = t26 at hal
          generalize a1.tmps.getD 27 undef = t27 at hal
          generalize a1.tmps.getD 28 undef = t28 at hal
          generalize a1.tmps.getD 29 undef = t29 at hal
          generalize a1.tmps.getD 30 undef = t30 at hal
          generalize a1.tmps.getD 31 undef = t31 at hal
          generalize a1.tmps.getD 32 undef = t32 at hal
          generalize a1.tmps.getD 33 undef = t33 at hal
          generalize a1.tmps.getD 34 undef = t34 at hal
          generalize a1.tmps.getD 35 undef = t35 at hal
          generalize a1.tmps.getD 36 undef = t36 at hal
          generalize a1.tmps.getD 37 undef = t37 at hal
          generalize a1.tmps.getD 38 undef = t38 at hal
          generalize a1.tmps.getD 39 undef = t39 at hal
          generalize a1.tmps.getD 40 undef = t40 at hal
          generalize a1.tmps.getD 41 undef = t41 at hal
          generalize a1.tmps.getD 42 undef = t42 at hal
          clear l0 l1 l2 l4 hde
          subst hal
          go_wp2_with fail
          go_end0
          obtain ⟨Y1, A', c', Y2, Y3, Y4, Y5⟩ := Y.out
          have hs3 := Y1.size
          have el : (a ++ [x]).length = n + 1 := by rw [List.length_append, List.length_singleton, HN.out]
          have hmlt : m < w2.heap.size := by have := HMAP.out.lt; omega
          rw [ownBlock_slice] at Y4 Y5
          refine ⟨rfl, _, ⟨pb, A', c', some m, rfl, rfl, ⟨by rw [el]; exact Y2, by rw [el]; have := HN4.out; omega, by rw [el]; exact Y3, Y5, ?_⟩⟩, ?_, ?_⟩
          · obtain ⟨b, hb⟩ := X2.out
            refine ⟨_, hb.keep (Y1.block m hmlt (by rintro (e | e); exact hmp e.symm; exact HNA.out e)), ?_⟩
            have := loc_push HLOC.out x b
            rwa [← HN.out] at this
          · rintro k (rfl | e | e)
            · exact .inl (.inl rfl)
            · rcases Y4 with h4 | ⟨g, h4, h5⟩
              · exact .inl (.inr (.inl (by rw [← h4]; exact e)))
              · rw [h4] at e; injection e with e; right; omega
            · injection e with e
              subst e
              rcases HSUB.out with h4 | h4
              · exact .inl (.inr (.inr h4))
              · exact .inr h4
          · refine ⟨by rw [Y1.os, X1.out.os, HOUT.out.os], by rw [Y1.tape, X1.out.tape, HOUT.out.tape], by rw [Y1.output, X1.out.output, HOUT.out.output], by omega, fun k hk hn => ?_⟩
            have q1 : ¬ k = pb := fun e => hn (.inl e)
            have q2 : ¬ k = m := fun e => by
              rcases HSUB.out with h4 | h4
              · exact hn (.inr (.inr (by rw [e]; exact h4)))
              · omega
            have q3 : ¬ A.map (·.block) = some k := fun e => hn (.inr (.inl e))
            rw [Y1.block k (by omega) (by rintro (e | e); exact q1 e; exact q3 e), X1.out.block k (by omega) q2, HOUT.out.block k hk q1]
end Go.Proofs.Ytpdhgjhcjnpkeaa
