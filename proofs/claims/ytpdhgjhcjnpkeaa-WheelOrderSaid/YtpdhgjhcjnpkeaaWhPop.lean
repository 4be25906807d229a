import Derived.Test.YtpdhgjhcjnpkeaaWhSwap
namespace Go.Proofs.Ytpdhgjhcjnpkeaa
open Go Go.RowKit
set_option linter.unusedVariables false
def boxT (x : Tm.T) : Value := .iface 33 (.agg #[.int .i64 x.1, .int .i64 x.2])
theorem run_sliceHi30 {g n c q : Nat} {w : World} (h : q ≤ c) : (Instr.sliceAt 30 (.slice (some ⟨g, 0, none⟩) n c) none (some (.int .i64 (q : Int))) none).run Try.prog w = .ok (.slice (some ⟨g, 0, none⟩) q c) w := by
  have hu : Try.prog.underlying 30 = some (.slice (Try.prog.elem 30)) := by
    have hel : Try.prog.elem 30 = 33 := by simp [Program.elem, Try.underlying30]
    rw [hel]; exact Try.underlying30
  have hel : Try.prog.elem 30 = 33 := by simp [Program.elem, Try.underlying30]
  have hr := run_slice_h (P := Try.prog) w 30 (some ⟨g, 0, none⟩) n c hu .i64 (q : Int) (by omega) (by omega)
  rw [hel, siz33, ← run_sliceAt_slice (P := Try.prog) w 30 _ _ _ _ hu] at hr
  simpa [Result.andThen, sliced, Addr.add_zero'] using hr
def DlE (E : List Ent) (k : Int) : Nat → List Ent | 0 => E | _ + 1 => E.filter fun x => x.1 != k
def PopN (n q : Nat) : Nat → Nat | 0 => n | _ + 1 => q
theorem RowB.dropLast {w : World} {g c : Nat} {a : List Tm.T} (h : RowB w g c a) : RowB w g c a.dropLast := by
  obtain ⟨⟨cur, h1, h2, h3⟩, h4, h5⟩ := h
  refine ⟨⟨cur, h1, h2, ?_⟩, by rw [List.length_dropLast]; omega, h5⟩
  have e : tcells a.dropLast = (tcells a).take (a.dropLast.length * 2) := by
    rw [List.dropLast_eq_take]
    conv => rhs; rw [← List.take_append_drop (a.length - 1) a, tcells_append]
    rw [List.length_take, List.take_append_drop, List.take_left']
    rw [tcells_length, List.length_take]
  rw [e, ← h3, List.take_take]
  congr 1
  rw [List.length_dropLast]
  omega
set_option maxRecDepth 100000 in
set_option maxHeartbeats 2000000 in
theorem popO_w (S : Nat → Prop) (p : Addr) (a : List Tm.T) (w : World) (h : IsH S w p a) (h0 : 0 < a.length) :
    Calls Try.prog 62 #[.agg #[.pointer (some p)]] w fun e w' => e = .returned (boxT (Hp.at_ a (a.length - 1))) ∧ ∃ S', IsH S' w' p a.dropLast ∧ Sub S' S w ∧ Out S w w' := by
  obtain ⟨pb, A, c, M, rfl, rfl, h⟩ := h
  obtain ⟨g, rfl, hgp, hrow⟩ := rowB_of h h0
  obtain ⟨m, E, rfl, hmap, hloc⟩ := h.map.some_of h0
  obtain ⟨q, hq⟩ : ∃ q, a.length = q + 1 := ⟨a.length - 1, by omega⟩
  obtain ⟨n, hn⟩ : ∃ n, n = a.length := ⟨_, rfl⟩
  have hnq : (n : Int) - 1 = (q : Int) := by omega
  have hn4 : n ≤ 4096 := by rw [hn]; exact h.bd
  have hpb := h.lt pb (.inl rfl)
  have hg := h.lt g (.inr (.inl rfl))
  have hm := hmap.lt
  have hmpb : m ≠ pb := by
    rintro rfl
    obtain ⟨c1, h1, _⟩ := hmap
    rw [h.top] at h1; cases h1
  have hmg : m ≠ g := by
    rintro rfl
    obtain ⟨c1, h1, _⟩ := hmap
    obtain ⟨⟨cur, h2, _⟩, _⟩ := hrow
    rw [h2] at h1; cases h1
  have HT := Lib.hid (show w.heap[pb]? = some (.cells #[.slice (some ⟨g, 0, none⟩) n c, .map (some m)] 45 (0, 0)) by rw [hn]; exact h.top)
  have HBD := Lib.hid h.bd
  have HR := Lib.hid hrow
  have HM := Lib.hid hmap
  have HL := Lib.hid hloc
  have HQC := Lib.hid (show q ≤ c by have := hrow.le; omega)
  have HQ := Lib.hid hq
  have HNQ := Lib.hid hnq
  obtain ⟨x, hx⟩ : ∃ x, x = Hp.at_ a q := ⟨_, rfl⟩
  have hxl : Hp.at_ a (a.length - 1) = x := by rw [hq, Nat.add_sub_cancel, hx]
  rw [hxl]
  have HX := Lib.hid hx
  obtain ⟨d0, e0⟩ := hrow.cell (i := q) (by omega)
  rw [← hx] at d0 e0
  have D0 := Lib.hid d0
  have E0 := Lib.hid e0
  have HN := Lib.hid hn
  clear h hrow hmap hloc h0 hq hx hxl d0 e0 hn hnq
  go_enter Try.func62, Try.ntmps62
  go_upto_region 1 with (fail)
  have b0 : (w.alloc (.cells #[.pointer (some ⟨pb, 0, none⟩)] 50)).heap[w.heap.size]? = some (.cells #[.pointer (some ⟨pb, 0, none⟩)] 50) := (MapKept.heap_alloc w _).1
  have G0 : Up w (w.alloc (.cells #[.pointer (some ⟨pb, 0, none⟩)] 50)) := up_alloc _ _
  generalize (w.alloc (.cells #[.pointer (some ⟨pb, 0, none⟩)] 50)) = W at b0 G0 ⊢
  have cb : W.cell? ⟨w.heap.size, 0, none⟩ = some (.pointer (some ⟨pb, 0, none⟩)) := cell_of b0 rfl
  have cp : W.cell? ⟨pb, 0, none⟩ = some (.slice (some ⟨g, 0, none⟩) n c) := cell_up (cell_of HT.out rfl) G0
  go_upto_region 2 with (fail)
  rw [HNQ.out]
  have hqn : (q : Int) < n := by have := HNQ.out; omega
  have k0 : W.cell? ⟨g, q * 2, none⟩ = some (.int .i64 x.1) := cell_up D0.out G0
  have k1 : W.cell? ⟨g, q * 2 + 1, none⟩ = some (.int .i64 x.2) := cell_up E0.out G0
  go_upto_region 3 with (fail)
  have bb : (W.alloc (.cells #[.int .i64 x.1, .int .i64 x.2] 33)).heap[w.heap.size]? = some (.cells #[.pointer (some ⟨pb, 0, none⟩)] 50) := by rw [(MapKept.heap_alloc W _).2 _ (lt_of_blk b0)]; exact b0
  have bt : (W.alloc (.cells #[.int .i64 x.1, .int .i64 x.2] 33)).heap[W.heap.size]? = some (.cells #[.int .i64 x.1, .int .i64 x.2] 33) := (MapKept.heap_alloc W _).1
  have G1 := G0.trans (up_alloc W (.cells #[.int .i64 x.1, .int .i64 x.2] 33))
  have hbt : w.heap.size < W.heap.size := lt_of_blk b0
  generalize hV : (W.alloc (.cells #[.int .i64 x.1, .int .i64 x.2] 33)) = V at bb bt G1 ⊢
  obtain ⟨tb, htb⟩ : ∃ t, t = W.heap.size := ⟨_, rfl⟩
  rw [← htb] at bt hbt ⊢
  have hgp2 : pb ≠ g := fun e => hgp e.symm
  clear cb cp k0 k1 hV b0 G0 htb hqn W
  obtain ⟨ky, hky⟩ : ∃ k, k = x.1 := ⟨_, rfl⟩
  have HLK := Lib.hid (show lookE E ky = some (q : Int) by
    obtain ⟨b, hb⟩ := HL.out.mem (i := q) (by have := HQ.out; omega)
    rw [hky, HX.out]
    exact lookE_mem HM.out.keyd.keys hb)
  have HMV := Lib.hid (HM.out.keep (G1.block m hm))
  have hVs := G1.size
  have cb : ∀ w1, Out (fun k => k = m) V w1 → w1.cell? ⟨w.heap.size, 0, none⟩ = some (.pointer (some ⟨pb, 0, none⟩)) := fun w1 h => cell_of (h.blk bb (by omega)) rfl
  have cm : ∀ w1, Out (fun k => k = m) V w1 → w1.cell? ⟨pb, 0 + 1, none⟩ = some (.map (some m)) := fun w1 h => cell_of (h.blk ((G1.block pb hpb).trans HT.out) (fun e => hmpb e.symm)) rfl
  have ct : ∀ w1, Out (fun k => k = m) V w1 → w1.cell? ⟨tb, 0, none⟩ = some (.int .i64 ky) := fun w1 h => by rw [hky]; exact cell_of (h.blk bt (by omega)) rfl
  refine staged_lit (by kernel_rfl) (facts [Is (.pointer (some ⟨w.heap.size, 0, none⟩)), Is (.pointer (some ⟨pb, 0, none⟩)), Is (.pointer (some ⟨pb, 0, none⟩)), Is (.pointer (some ⟨pb, 0 + 1, none⟩)), Is (.map (some m)), Is (.pointer (some ⟨tb, 0, none⟩)), Is (.int .i64 ky), Tru]) (Stg [7] (fun k w1 => Out (fun k => k = m) V w1 ∧ MapI w1 m (DlE E ky k))) 40 rfl (by decide +kernel) (by decide +kernel) (Stg.start ⟨(Up.drew V).out _, HMV.out.keep rfl⟩) ?_ ?_
  · refine ⟨?_, ?_, ?_, ?_, ?_, ?_, ?_, ?_, trivial⟩
    · refine opS_same rfl rfl fun L ac w1 hJ hl hc ho hd => ?_
      have s1 : ac.eval (.tmp 1) = .pointer (some ⟨w.heap.size, 0, none⟩) := ho 1 rfl
      exact ⟨_, x_field 50 (.tmp 1) 0 rfl s1 (fld500 _ _ _), rfl⟩
    · refine opS_same rfl rfl fun L ac w1 hJ hl hc ho hd => ?_
      have d0 : ac.eval (.tmp 20) = .pointer (some ⟨w.heap.size, 0, none⟩) := hd 0 _ _ rfl rfl rfl
      obtain ⟨_, _, hW⟩ := hJ
      exact ⟨_, x_load 48 (.tmp 20) rfl d0 (run_load1 agg48 (cb w1 hW.1)), rfl⟩
    · refine opS_same rfl rfl fun L ac w1 hJ hl hc ho hd => ?_
      have d1 : ac.eval (.tmp 21) = .pointer (some ⟨pb, 0, none⟩) := hd 1 _ _ rfl rfl rfl
      exact ⟨_, x_nil (.tmp 21) rfl d1, rfl⟩
    · refine opS_same rfl rfl fun L ac w1 hJ hl hc ho hd => ?_
      have d2 : ac.eval (.tmp 22) = .pointer (some ⟨pb, 0, none⟩) := hd 2 _ _ rfl rfl rfl
      exact ⟨_, x_field 43 (.tmp 22) 1 rfl d2 (fld431 _ _ _), rfl⟩
    · refine opS_same rfl rfl fun L ac w1 hJ hl hc ho hd => ?_
      have d3 : ac.eval (.tmp 23) = .pointer (some ⟨pb, 0 + 1, none⟩) := hd 3 _ _ rfl rfl rfl
      obtain ⟨_, _, hW⟩ := hJ
      exact ⟨_, x_load 41 (.tmp 23) rfl d3 (run_load1 agg41 (cm w1 hW.1)), rfl⟩
    · refine opS_same rfl rfl fun L ac w1 hJ hl hc ho hd => ?_
      have s4 : ac.eval (.tmp 4) = .pointer (some ⟨tb, 0, none⟩) := ho 4 rfl
      exact ⟨_, x_field 33 (.tmp 4) 0 rfl s4 (fld330 _ _ _), rfl⟩
    · refine opS_same rfl rfl fun L ac w1 hJ hl hc ho hd => ?_
      have d5 : ac.eval (.tmp 25) = .pointer (some ⟨tb, 0, none⟩) := hd 5 _ _ rfl rfl rfl
      obtain ⟨_, _, hW⟩ := hJ
      exact ⟨_, x_load 3 (.tmp 25) rfl d5 (run_load1 agg3 (ct w1 hW.1)), rfl⟩
    · refine opS_writeV (j := 0) rfl (by decide) rfl (fun _ _ h => absurd h (by omega)) fun ac w1 hW ho hd => ?_
      have d4 : ac.eval (.tmp 24) = .map (some m) := hd 4 _ _ rfl rfl rfl
      have d6 : ac.eval (.tmp 26) = .int .i64 ky := hd 6 _ _ rfl rfl rfl
      obtain ⟨o, h1, h2⟩ := run_delI (P := Try.prog) Try.underlying41 Try.underlying3 _ hW.2 ky q HLK.out
      exact ⟨_, _, x_delete (.tmp 24) (.tmp 26) 41 3 rfl d4 d6 h1, ⟨hW.1.trans (setBlk_out _ _ _) (Sub.refl _ _), h2⟩, trivial, fun q v _ => facts_free (by simp [free_is, free_tru]) q v⟩
  · intro L a1 w2 hI hall
    obtain ⟨k, hk, hW1, hW2⟩ := hI.done hall (by simp)
    obtain ⟨k, rfl⟩ : ∃ q, k = q + 1 := ⟨k - 1, by simp at hk; omega⟩
    have X1 := Lib.hid hW1
    have X2 := Lib.hid (show MapI w2 m (E.filter fun x => x.1 != ky) from hW2)
    clear hk hW1 hW2 cb cm ct k
    have l0 : a1.tmps.getD 0 undef = .agg #[.pointer (some ⟨pb, 0, none⟩)] := hI.old 0 rfl
    have l2 : a1.tmps.getD 2 undef = .nilIface := hI.old 2 rfl
    have l1 : a1.tmps.getD 1 undef = .pointer (some ⟨w.heap.size, 0, none⟩) := hI.old 1 rfl
    have l4 : a1.tmps.getD 4 undef = .pointer (some ⟨tb, 0, none⟩) := hI.old 4 rfl
    have l3 : a1.tmps.getD 3 undef = .int .i64 (q : Int) := hI.old 3 rfl
    have hde : a1.defers = [] := hI.defers
    have hal := act_lit a1 40 hI.size
    clear hI
    simp only [List.range, List.range.loop, List.map_cons, List.map_nil] at hal
    rw [l0, l2, l1, l4, l3, hde] at hal
    generalize a1.tmps.getD 5 undef = t5 at hal
    generalize a1.tmps.getD 6 undef = t6 at hal
    generalize a1.tmps.getD 7 undef = t7 at hal
    generalize a1.tmps.getD 8 undef = t8 at hal
    generalize a1.tmps.getD 9 undef = t9 at hal
    generalize a1.tmps.getD 10 undef = t10 at hal
    generalize a1.tmps.getD 11 undef = t11 at hal
    generalize a1.tmps.getD 12 undef = t12 at hal
    generalize a1.tmps.getD 13 undef = t13 at hal
    generalize a1.tmps.getD 14 undef = t14 at hal
    generalize a1.tmps.getD 15 undef = t15 at hal
    generalize a1.tmps.getD 16 undef = t16 at hal
    generalize a1.tmps.getD 17 undef = t17 at hal
    generalize a1.tmps.getD 18 undef = t18 at hal
    generalize a1.tmps.getD 19 undef = t19 at hal
    generalize a1.tmps.getD 20 undef = t20 at hal
    generalize a1.tmps.getD 21 undef = t21 at hal
    generalize a1.tmps.getD 22 undef = t22 at hal
    generalize a1.tmps.getD 23 undef = t23 at hal
    generalize a1.tmps.getD 24 undef = t24 at hal
    generalize a1.tmps.getD 25 undef = t25 at hal
    generalize a1.tmps.getD 26 undef = t26 at hal
    generalize a1.tmps.getD 27 undef = t27 at hal
    generalize a1.tmps.getD 28 undef = t28 at hal
    generalize a1.tmps.getD 29 undef = t29 at hal
    generalize a1.tmps.getD 30 undef = t30 at hal
    generalize a1.tmps.getD 31 undef = t31 at hal
    generalize a1.tmps.getD 32 undef = t32 at hal
    generalize a1.tmps.getD 33 undef = t33 at hal
    generalize a1.tmps.getD 34 undef = t34 at hal
    generalize a1.tmps.getD 35 undef = t35 at hal
    generalize a1.tmps.getD 36 undef = t36 at hal
    generalize a1.tmps.getD 37 undef = t37 at hal
    generalize a1.tmps.getD 38 undef = t38 at hal
    generalize a1.tmps.getD 39 undef = t39 at hal
    clear l0 l2 l1 l4 l3 hde
    subst hal
    go_upto_region 4 with (fail)
    have hs2 := X1.out.size
    have p2 : w2.heap[pb]? = some (.cells #[.slice (some ⟨g, 0, none⟩) n c, .map (some m)] 45 (0, 0)) := X1.out.blk ((G1.block pb hpb).trans HT.out) (fun e => hmpb e.symm)
    have bb2 : w2.heap[w.heap.size]? = some (.cells #[.pointer (some ⟨pb, 0, none⟩)] 50) := X1.out.blk bb (by omega)
    have bt2 : w2.heap[tb]? = some (.cells #[.int .i64 x.1, .int .i64 x.2] 33) := X1.out.blk bt (by omega)
    have HR2 := Lib.hid (HR.out.keep ((X1.out.block g (by omega) (fun e => hmg e.symm)).trans (G1.block g hg)))
    have cb : ∀ w1, Out (fun k => k = pb) w2 w1 → w1.cell? ⟨w.heap.size, 0, none⟩ = some (.pointer (some ⟨pb, 0, none⟩)) := fun w1 h => cell_of (h.blk bb2 (by omega)) rfl
    refine staged_lit (by kernel_rfl) (facts [Is (.pointer (some ⟨w.heap.size, 0, none⟩)), Is (.pointer (some ⟨pb, 0, none⟩)), Is (.pointer (some ⟨w.heap.size, 0, none⟩)), Is (.pointer (some ⟨pb, 0, none⟩)), Is (.pointer (some ⟨pb, 0, none⟩)), Is (.pointer (some ⟨pb, 0, none⟩)), Is (.slice (some ⟨g, 0, none⟩) n c), Is (.int .i64 (q : Int)), Is (.slice (some ⟨g, 0, none⟩) q c), Is (.pointer (some ⟨pb, 0, none⟩)), Is (.pointer (some ⟨pb, 0, none⟩)), Tru]) (Stg [11] (fun k w1 => Out (fun k => k = pb) w2 w1 ∧ w1.heap[pb]? = some (.cells #[.slice (some ⟨g, 0, none⟩) (PopN n q k) c, .map (some m)] 45 (0, 0)))) 40 rfl (by decide +kernel) (by decide +kernel) (Stg.start ⟨(Up.drew w2).out _, p2⟩) ?_ ?_
    · refine ⟨?_, ?_, ?_, ?_, ?_, ?_, ?_, ?_, ?_, ?_, ?_, ?_, trivial⟩
      · refine opS_same rfl rfl fun L ac w1 hJ hl hc ho hd => ?_
        have s1 : ac.eval (.tmp 1) = .pointer (some ⟨w.heap.size, 0, none⟩) := ho 1 rfl
        exact ⟨_, x_field 50 (.tmp 1) 0 rfl s1 (fld500 _ _ _), rfl⟩
      · refine opS_same rfl rfl fun L ac w1 hJ hl hc ho hd => ?_
        have d0 : ac.eval (.tmp 27) = .pointer (some ⟨w.heap.size, 0, none⟩) := hd 0 _ _ rfl rfl rfl
        obtain ⟨_, _, hW⟩ := hJ
        exact ⟨_, x_load 48 (.tmp 27) rfl d0 (run_load1 agg48 (cb w1 hW.1)), rfl⟩
      · refine opS_same rfl rfl fun L ac w1 hJ hl hc ho hd => ?_
        have s1 : ac.eval (.tmp 1) = .pointer (some ⟨w.heap.size, 0, none⟩) := ho 1 rfl
        exact ⟨_, x_field 50 (.tmp 1) 0 rfl s1 (fld500 _ _ _), rfl⟩
      · refine opS_same rfl rfl fun L ac w1 hJ hl hc ho hd => ?_
        have d2 : ac.eval (.tmp 29) = .pointer (some ⟨w.heap.size, 0, none⟩) := hd 2 _ _ rfl rfl rfl
        obtain ⟨_, _, hW⟩ := hJ
        exact ⟨_, x_load 48 (.tmp 29) rfl d2 (run_load1 agg48 (cb w1 hW.1)), rfl⟩
      · refine opS_same rfl rfl fun L ac w1 hJ hl hc ho hd => ?_
        have d3 : ac.eval (.tmp 30) = .pointer (some ⟨pb, 0, none⟩) := hd 3 _ _ rfl rfl rfl
        exact ⟨_, x_nil (.tmp 30) rfl d3, rfl⟩
      · refine opS_same rfl rfl fun L ac w1 hJ hl hc ho hd => ?_
        have d4 : ac.eval (.tmp 31) = .pointer (some ⟨pb, 0, none⟩) := hd 4 _ _ rfl rfl rfl
        exact ⟨_, x_field 43 (.tmp 31) 0 rfl d4 (fld430 _ _ _), rfl⟩
      · refine opS_same rfl rfl fun L ac w1 hJ hl hc ho hd => ?_
        have d5 : ac.eval (.tmp 32) = .pointer (some ⟨pb, 0, none⟩) := hd 5 _ _ rfl rfl rfl
        have hW := hJ.first (reach_not hc (n := 40) (k := 11) (by kernel_rfl) hl)
        exact ⟨_, x_load 30 (.tmp 32) rfl d5 (run_load1 agg30 (cell_of hW.2 rfl)), rfl⟩
      · refine opS_same rfl rfl fun L ac w1 hJ hl hc ho hd => ?_
        have s3 : ac.eval (.tmp 3) = .int .i64 (q : Int) := ho 3 rfl
        exact ⟨_, x_move (.tmp 3) rfl s3, rfl⟩
      · refine opS_same rfl rfl fun L ac w1 hJ hl hc ho hd => ?_
        have d6 : ac.eval (.tmp 33) = .slice (some ⟨g, 0, none⟩) n c := hd 6 _ _ rfl rfl rfl
        have d7 : ac.eval (.tmp 34) = .int .i64 (q : Int) := hd 7 _ _ rfl rfl rfl
        exact ⟨_, x_slice 30 (.tmp 33) (.tmp 34) rfl d6 d7 (run_sliceHi30 HQC.out), rfl⟩
      · refine opS_same rfl rfl fun L ac w1 hJ hl hc ho hd => ?_
        have d1 : ac.eval (.tmp 28) = .pointer (some ⟨pb, 0, none⟩) := hd 1 _ _ rfl rfl rfl
        exact ⟨_, x_nil (.tmp 28) rfl d1, rfl⟩
      · refine opS_same rfl rfl fun L ac w1 hJ hl hc ho hd => ?_
        have d9 : ac.eval (.tmp 36) = .pointer (some ⟨pb, 0, none⟩) := hd 9 _ _ rfl rfl rfl
        exact ⟨_, x_field 43 (.tmp 36) 0 rfl d9 (fld430 _ _ _), rfl⟩
      · refine opS_write (j := 0) rfl rfl (by decide) rfl (fun _ _ h => absurd h (by omega)) fun ac w1 hW ho hd => ?_
        have d10 : ac.eval (.tmp 37) = .pointer (some ⟨pb, 0, none⟩) := hd 10 _ _ rfl rfl rfl
        have d8 : ac.eval (.tmp 35) = .slice (some ⟨g, 0, none⟩) q c := hd 8 _ _ rfl rfl rfl
        exact ⟨_, x_store 30 (.tmp 37) (.tmp 35) rfl d10 d8 (run_store1 siz30 hW.2 (by simp) rfl rfl), ⟨hW.1.trans (setCell_out _ _ _ _) (Sub.refl _ _), by have := setCell_at (j := 0) (.slice (some ⟨g, 0, none⟩) q c) hW.2; simpa [PopN] using this⟩, fun _ => trivial, fun q v => facts_free (by simp [free_is, free_tru]) q v⟩
    · intro L a1 w3 hI hall
      obtain ⟨k, hk, hW1, hW2⟩ := hI.done hall (by simp)
      obtain ⟨k, rfl⟩ : ∃ q, k = q + 1 := ⟨k - 1, by simp at hk; omega⟩
      have Y1 := Lib.hid hW1
      have Y2 := Lib.hid (show w3.heap[pb]? = some (.cells #[.slice (some ⟨g, 0, none⟩) q c, .map (some m)] 45 (0, 0)) from hW2)
      clear hk hW1 hW2 cb k
      have l0 : a1.tmps.getD 0 undef = .agg #[.pointer (some ⟨pb, 0, none⟩)] := hI.old 0 rfl
      have l2 : a1.tmps.getD 2 undef = .nilIface := hI.old 2 rfl
      have l1 : a1.tmps.getD 1 undef = .pointer (some ⟨w.heap.size, 0, none⟩) := hI.old 1 rfl
      have l4 : a1.tmps.getD 4 undef = .pointer (some ⟨tb, 0, none⟩) := hI.old 4 rfl
      have l3 : a1.tmps.getD 3 undef = .int .i64 (q : Int) := hI.old 3 rfl
      have hde : a1.defers = [] := hI.defers
      have hal := act_lit a1 40 hI.size
      clear hI
      simp only [List.range, List.range.loop, List.map_cons, List.map_nil] at hal
      rw [l0, l2, l1, l4, l3, hde] at hal
      generalize a1.tmps.getD 5 undef = t5 at hal
      generalize a1.tmps.getD 6 undef = t6 at hal
      generalize a1.tmps.getD 7 undef = t7 at hal
      generalize a1.tmps.getD 8 undef = t8 at hal
      generalize a1.tmps.getD 9 undef = t9 at hal
      generalize a1.tmps.getD 10 undef = t10 at hal
      generalize a1.tmps.getD 11 undef = t11 at hal
      generalize a1.tmps.getD 12 undef = t12 at hal
      generalize a1.tmps.getD 13 undef = t13 at hal
      generalize a1.tmps.getD 14 undef = t14 at hal
      generalize a1.tmps.getD 15 undef = t15 at hal
      generalize a1.tmps.getD 16 undef = t16 at hal
      generalize a1.tmps.getD 17 undef = t17 at hal
      generalize a1.tmps.getD 18 undef = t18 at hal
      generalize a1.tmps.getD 19 undef = t19 at hal
      generalize a1.tmps.getD 20 undef = t20 at hal
      generalize a1.tmps.getD 21 undef = t21 at hal
      generalize a1.tmps.getD 22 undef = t22 at hal
      generalize a1.tmps.getD 23 undef = t23 at hal
      generalize a1.tmps.getD 24 undef = t24 at hal
      generalize a1.tmps.getD 25 undef = t25 at hal
      generalize a1.tmps.getD 26 undef = t26 at hal
      generalize a1.tmps.getD 27 undef = t27 at hal
      generalize a1.tmps.getD 28 undef = t28 at hal
      generalize a1.tmps.getD 29 undef = t29 at hal
      generalize a1.tmps.getD 30 undef = t30 at hal
      generalize a1.tmps.getD 31 undef = t31 at hal
      generalize a1.tmps.getD 32 undef = t32 at hal
      generalize a1.tmps.getD 33 undef = t33 at hal
      generalize a1.tmps.getD 34 undef = t34 at hal
      generalize a1.tmps.getD 35 undef = t35 at hal
      generalize a1.tmps.getD 36 undef = t36 at hal
      generalize a1.tmps.getD 37 undef = t37 at hal
      generalize a1.tmps.getD 38 undef = t38 at hal
      generalize a1.tmps.getD 39 undef = t39 at hal
      clear l0 l2 l1 l4 l3 hde
      subst hal
      have bt3 : w3.heap[tb]? = some (.cells #[.int .i64 x.1, .int .i64 x.2] 33) := Y1.out.blk bt2 (by omega)
      have z0 : w3.cell? ⟨tb, 0, none⟩ = some (.int .i64 x.1) := cell_of bt3 rfl
      have z1 : w3.cell? ⟨tb, 1, none⟩ = some (.int .i64 x.2) := cell_of bt3 rfl
      have HP := Lib.hid (And.intro p2 (And.intro bb2 bt2))
      clear p2 bb2 bt2 bb bt bt3
      go_wp2_with fail
      go_ret
      have el : a.dropLast.length = q := by rw [List.length_dropLast]; have := HQ.out; omega
      refine ⟨rfl, _, ⟨pb, some ⟨g, 0, none⟩, c, some m, rfl, rfl, ?_⟩, Sub.refl _ _, ?_⟩
      · refine ⟨by rw [el]; exact Y2.out, by rw [el]; have := HQ.out; have := HBD.out; omega, own_of_rowB (HR2.out.dropLast.keep (Y1.out.block g (by omega) (fun e => hgp e))), fun e => hgp (by simpa using e), ⟨_, X2.out.keep (Y1.out.block m (by omega) hmpb), ?_⟩⟩
        have := loc_pop HL.out HM.out.keyd HQ.out
        rwa [← HX.out, ← hky] at this
      · refine ⟨by rw [Y1.out.os, X1.out.os, G1.os], by rw [Y1.out.tape, X1.out.tape, G1.tape], by rw [Y1.out.output, X1.out.output, G1.output], by have := Y1.out.size; omega, fun k hk hn => ?_⟩
        have q1 : ¬ k = m := fun e => hn (.inr (.inr (by rw [e])))
        have q2 : ¬ k = pb := fun e => hn (.inl e)
        rw [Y1.out.block k (by omega) q2, X1.out.block k (by omega) q1, G1.block k hk]
end Go.Proofs.Ytpdhgjhcjnpkeaa
