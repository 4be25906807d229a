import Derived.Test.YtahpejcejbgcpaaRt8
import Derived.Test.YtahpejcejbgcpaaStaged
import Derived.Deep.RegionWith
namespace Go.Proofs.Ytahpejcejbgcpaa
open Go Go.RowKit
set_option linter.unusedVariables false
set_option linter.unusedSimpArgs false
theorem run_loadRow {P : Program} {T t : TypeId} {g : Nat} {cs : Array Value} {fr : Nat × Nat} {d : TypeDesc} {w : World} (hg : w.heap[g]? = some (.cells cs t fr)) (hu : P.underlying T = some d) (hd : (match d with | .struct _ | .array _ _ => true | _ => false) = true) (hi : (P.info? T).map (·.size) = some cs.size) :
    (Instr.loadAt T (.pointer (some ⟨g, 0, none⟩))).run P w = .ok (.agg cs) w := by
  simp [Instr.loadAt, Instr.sureAddr, run_loadVar_row w g t T cs fr d hg hu hd hi]
theorem agg3 (w : World) : (isAgg 3).run Try.prog w = .ok false w := by simp [isAgg, run_underlying Try.underlying3, Result.andThen]
theorem setRow_out (w : World) (g : Nat) (cs : Array Value) : Out (fun q => q = g) w (w.setRow g cs) := ⟨rfl, rfl, rfl, by simp, fun k hk hn => by simp [World.setRow, Array.getElem?_modify, Ne.symm hn]⟩
theorem run_storeRow {w : World} {g : Nat} {c0 : Array Value} {y : Wy} (hg : w.heap[g]? = some (.cells c0 23 (0, 0))) (h7 : c0.size = 7) : (Instr.storeAt 23 (.pointer (some ⟨g, 0, none⟩)) (.agg y.cs)).run Try.prog w = .ok () (w.setRow g y.cs) := by
  simp only [Instr.storeAt, Instr.sureAddr, Sem.run_bind, Sem.run_pure, Result.andThen_ok, run_storeVar_row (P := Try.prog) w g 23 23 c0 y.cs hg rfl h7 (by simp [Value.oneCell'])]
theorem x_mkf {P : Program} {o : Oper} {a : Act} {w : World} (fn : Fn) (first cap : Array Operand) (ho : o.op = .makeFunc fn first cap) : (execOp a.eval o).run P w = .ok (.value (.func fn (first.map a.eval) (cap.map a.eval))) w := by
  have hm : (Instr.makeFunc fn (first.map a.eval) (cap.map a.eval)).run P w = .ok (.func fn (first.map a.eval) (cap.map a.eval)) w := rfl
  simp [execOp, ho, hm, Result.andThen]
set_option maxRecDepth 100000 in
set_option maxHeartbeats 4000000 in
theorem measure_any (x : Wy) (n : Int) (w : World) : Calls Try.prog 9 #[.agg x.cs, .int .i64 n] w (WR (measOf x n) w) := by
  obtain ⟨r, hr⟩ : ∃ r, r = measOf x n := ⟨_, rfl⟩
  obtain ⟨m, hm⟩ : ∃ m, m = wth n 0 1099511627776 := ⟨_, rfl⟩
  have HC : ∀ wx g, wx.heap[g]? = some (.cells #[.int .i64 n] 3 (0, 0)) → Calls Try.prog 24 #[.agg x.cs, .bool m, .func (.func 26) #[] #[.pointer (some ⟨g, 0, none⟩)]] wx (WRes r.1 r.2 wx) := fun wx g hg => by
    subst hr
    subst hm
    unfold measOf
    by_cases h : x.Ok
    · rw [if_pos h]
      by_cases h2 : 0 ≤ n ∧ n ≤ 1099511627776
      · rw [if_pos h2, wth_t h2]
        refine changed_t x (measW x n) h 26 #[.pointer (some ⟨g, 0, none⟩)] wx (fun args wy => by rfl) (fun b w' hb hk hu => ?_)
        have hg2 := (hu.block _ (lt_of_blk hg)).trans hg
        have hne : b ≠ g := by have := lt_of_blk hg; omega
        by_cases h3 : x.s = 0 ∧ x.v = 0
        · exact measC_0 x n b g w' hk hg2 hne h h3 h2.1 h2.2
        · exact measC_1 x n b g w' hk hg2 hne h h3 h2.1 h2.2
      · rw [if_neg h2, wth_f h2]
        exact changed_m x h _ wx
    · rw [if_neg h]
      exact changed_f x h _ _ wx
  have HW : ∀ wx, Calls Try.prog 25 #[.int .i64 n, .int .i64 0, .int .i64 1099511627776] wx fun e w' => e = .returned (.bool m) ∧ wx = w' := fun wx => by
    rw [hm]; exact within_any _ _ _ _
  rw [← hr]
  clear hr hm
  have hb0 := new_at w (.cells x.cs 23)
  have hb0 := (((up_alloc (w.alloc (.cells x.cs 23)) (.cells #[.int .i64 n] 3)).block _ (lt_of_blk hb0)).trans hb0)
  have hb0 := (((up_alloc ((w.alloc (.cells x.cs 23)).alloc (.cells #[.int .i64 n] 3)) (.cells #[.int .i64 0, .int .i64 0, .int .i64 0, .int .i64 0, .int .i64 0, .int .i64 0, .int .i64 0] 23)).block _ (lt_of_blk hb0)).trans hb0)
  have hs1 : (w.alloc (.cells x.cs 23)).heap.size = w.heap.size + 1 := by simp
  have hb1 := new_at (w.alloc (.cells x.cs 23)) (.cells #[.int .i64 n] 3)
  rw [hs1] at hb1
  have hb1 := (((up_alloc ((w.alloc (.cells x.cs 23)).alloc (.cells #[.int .i64 n] 3)) (.cells #[.int .i64 0, .int .i64 0, .int .i64 0, .int .i64 0, .int .i64 0, .int .i64 0, .int .i64 0] 23)).block _ (lt_of_blk hb1)).trans hb1)
  have hs2 : ((w.alloc (.cells x.cs 23)).alloc (.cells #[.int .i64 n] 3)).heap.size = w.heap.size + 1 + 1 := by simp
  have hb2 := new_at ((w.alloc (.cells x.cs 23)).alloc (.cells #[.int .i64 n] 3)) (.cells #[.int .i64 0, .int .i64 0, .int .i64 0, .int .i64 0, .int .i64 0, .int .i64 0, .int .i64 0] 23)
  rw [hs2] at hb2
  have hu : Up w (((w.alloc (.cells x.cs 23)).alloc (.cells #[.int .i64 n] 3)).alloc (.cells #[.int .i64 0, .int .i64 0, .int .i64 0, .int .i64 0, .int .i64 0, .int .i64 0, .int .i64 0] 23)) := ((up_alloc w (.cells x.cs 23)).trans (up_alloc (w.alloc (.cells x.cs 23)) (.cells #[.int .i64 n] 3))).trans (up_alloc ((w.alloc (.cells x.cs 23)).alloc (.cells #[.int .i64 n] 3)) (.cells #[.int .i64 0, .int .i64 0, .int .i64 0, .int .i64 0, .int .i64 0, .int .i64 0, .int .i64 0] 23))
  change (((w.alloc (.cells x.cs 23)).alloc (.cells #[.int .i64 n] 3)).alloc (.cells #[.int .i64 0, .int .i64 0, .int .i64 0, .int .i64 0, .int .i64 0, .int .i64 0, .int .i64 0] 23)).heap[w.heap.size]? = _ at hb0
  have HM0 := Lib.hid hb0
  change (((w.alloc (.cells x.cs 23)).alloc (.cells #[.int .i64 n] 3)).alloc (.cells #[.int .i64 0, .int .i64 0, .int .i64 0, .int .i64 0, .int .i64 0, .int .i64 0, .int .i64 0] 23)).heap[w.heap.size + 1]? = _ at hb1
  have HM1 := Lib.hid hb1
  change (((w.alloc (.cells x.cs 23)).alloc (.cells #[.int .i64 n] 3)).alloc (.cells #[.int .i64 0, .int .i64 0, .int .i64 0, .int .i64 0, .int .i64 0, .int .i64 0, .int .i64 0] 23)).heap[w.heap.size + 1 + 1]? = _ at hb2
  have HM2 := Lib.hid hb2
  have HU1 := Lib.hid hu
  clear hu hb0 hb1 hb2 hs1 hs2
  go_enter Try.func9, Try.ntmps9
  go_upto_region 1 with (fail)
  generalize (((w.alloc (.cells x.cs 23)).alloc (.cells #[.int .i64 n] 3)).alloc (.cells #[.int .i64 0, .int .i64 0, .int .i64 0, .int .i64 0, .int .i64 0, .int .i64 0, .int .i64 0] 23)) = w2 at HM0 HM1 HM2 HU1 ⊢
  obtain ⟨p, hp⟩ : ∃ p, p = w.heap.size := ⟨_, rfl⟩
  rw [← hp] at HM0 HM1 HM2 ⊢
  have HP := Lib.hid hp
  clear hp
  have k0 : w2.cell? ⟨p, 0, none⟩ = some (.int .i64 x.s) := cell_of HM0.out rfl
  have k1 : w2.cell? ⟨p, 1, none⟩ = some (.int .i64 x.v) := cell_of HM0.out rfl
  have k2 : w2.cell? ⟨p, 2, none⟩ = some (.int .i64 x.r) := cell_of HM0.out rfl
  have k3 : w2.cell? ⟨p, 3, none⟩ = some (.int .i64 x.e) := cell_of HM0.out rfl
  have k4 : w2.cell? ⟨p, 4, none⟩ = some (.int .i64 x.c) := cell_of HM0.out rfl
  have k5 : w2.cell? ⟨p, 5, none⟩ = some (.int .i64 x.t) := cell_of HM0.out rfl
  have k6 : w2.cell? ⟨p, 6, none⟩ = some (.int .i64 x.a) := cell_of HM0.out rfl
  have HMZ : Hid (w2.heap[p + 1 + 1]? = some (.cells W0.cs 23 (0, 0))) := HM2
  have HK : ∀ φ ∈ [Is (.agg x.cs), Is (.int .i64 n), Is (.bool m), Is (.func (.func 26) #[] #[.pointer (some ⟨p + 1, 0, none⟩)]), Is (.tuple #[.agg r.1.cs, .int .i64 r.2]), Is (.agg r.1.cs), Is (.int .i64 r.2), Tru, Is (.int .i64 r.2)], Free φ := by
    intro φ hφ
    simp only [List.mem_cons, List.mem_nil_iff, or_false] at hφ
    rcases hφ with rfl | rfl | rfl | rfl | rfl | rfl | rfl | rfl | rfl <;> first | exact free_is _ | exact free_tru
  refine staged_lit (by kernel_rfl) (facts [Is (.agg x.cs), Is (.int .i64 n), Is (.bool m), Is (.func (.func 26) #[] #[.pointer (some ⟨p + 1, 0, none⟩)]), Is (.tuple #[.agg r.1.cs, .int .i64 r.2]), Is (.agg r.1.cs), Is (.int .i64 r.2), Tru, Is (.int .i64 r.2)]) (Stg [7] (fun k wx => Out (fun q => q = p + 1 + 1) w2 wx ∧ wx.heap[p + 1 + 1]? = some (.cells (if k = 0 then W0.cs else r.1.cs) 23 (0, 0)))) 13 rfl (by decide +kernel) (by decide +kernel) (Stg.start ⟨(Up.drew w2).out _, HMZ.out⟩) ?_ ?_
  · refine ⟨?_, ?_, ?_, ?_, ?_, ?_, ?_, ?_, ?_, trivial⟩
    · refine opS_same rfl rfl fun L ac w1 hJ hl hc ho hd => ?_
      have s0 : ac.eval (.tmp 2) = .pointer (some ⟨p, 0, none⟩) := ho 2 rfl
      obtain ⟨_, _, hU, _⟩ := hJ
      exact ⟨_, x_load 23 (.tmp 2) rfl s0 (run_loadRow (cs := x.cs) (hU.blk HM0.out (by omega)) Try.underlying23 rfl rfl), rfl⟩
    · refine opS_same rfl rfl fun L ac w1 hJ hl hc ho hd => ?_
      have s0 : ac.eval (.tmp 3) = .pointer (some ⟨p + 1, 0, none⟩) := ho 3 rfl
      obtain ⟨_, _, hU, _⟩ := hJ
      exact ⟨_, x_load 3 (.tmp 3) rfl s0 (run_load1 agg3 (cell_of (hU.blk HM1.out (by omega)) rfl)), rfl⟩
    · refine opS_callUp rfl rfl (fun k wa wb h hu => ⟨h.1.trans (hu.out No) (fun _ h => h.elim), (hu.block _ (lt_of_blk h.2)).trans h.2⟩) (fun j v wa wb h _ => facts_free HK j v h) fun L ac w1 hJ hl hc ho hd => ?_
      have d0 : ac.eval (.tmp 7) = .int .i64 n := hd 1 _ _ rfl rfl rfl
      refine ⟨25, _, x_fcall 25 [.tmp 7, .const (.int .i64 0), .const (.int .i64 1099511627776)] _ rfl (by kernel_rfl), ?_⟩
      simp only [List.map_cons, List.map_nil, d0]
      refine (HW w1).mono fun e w2 ⟨he, hw⟩ => ⟨_, he, ?_, ?_⟩
      · rw [← hw]; exact Up.refl _
      · rfl
    · refine opS_same rfl rfl fun L ac w1 hJ hl hc ho hd => ?_
      have s0 : ac.eval (.tmp 3) = .pointer (some ⟨p + 1, 0, none⟩) := ho 3 rfl
      refine ⟨_, x_mkf (.func 26) #[] #[.tmp 3] rfl, ?_⟩
      simp only [List.map_toArray, List.map_cons, List.map_nil, s0]
      rfl
    · refine opS_callUp rfl rfl (fun k wa wb h hu => ⟨h.1.trans (hu.out No) (fun _ h => h.elim), (hu.block _ (lt_of_blk h.2)).trans h.2⟩) (fun j v wa wb h _ => facts_free HK j v h) fun L ac w1 hJ hl hc ho hd => ?_
      have d0 : ac.eval (.tmp 6) = .agg x.cs := hd 0 _ _ rfl rfl rfl
      have d2 : ac.eval (.tmp 8) = .bool m := hd 2 _ _ rfl rfl rfl
      have d3 : ac.eval (.tmp 9) = .func (.func 26) #[] #[.pointer (some ⟨p + 1, 0, none⟩)] := hd 3 _ _ rfl rfl rfl
      obtain ⟨_, _, hU, _⟩ := hJ
      refine ⟨24, _, x_fcall 24 [.tmp 6, .tmp 8, .tmp 9] _ rfl (by kernel_rfl), ?_⟩
      simp only [List.map_cons, List.map_nil, d0, d2, d3]
      exact (HC w1 (p + 1) (hU.blk HM1.out (by omega))).mono fun e w2 ⟨he, hu⟩ => ⟨_, he, hu.out, rfl⟩
    · refine opS_same rfl rfl fun L ac w1 hJ hl hc ho hd => ?_
      have d4 : ac.eval (.tmp 10) = .tuple #[.agg r.1.cs, .int .i64 r.2] := hd 4 _ _ rfl rfl rfl
      exact ⟨_, x_extract (.tmp 10) 0 rfl d4 rfl, rfl⟩
    · refine opS_same rfl rfl fun L ac w1 hJ hl hc ho hd => ?_
      have d4 : ac.eval (.tmp 10) = .tuple #[.agg r.1.cs, .int .i64 r.2] := hd 4 _ _ rfl rfl rfl
      exact ⟨_, x_extract (.tmp 10) 1 rfl d4 rfl, rfl⟩
    · refine opS_write (j := 0) rfl rfl (by decide) rfl (fun y hy h0 => by omega) fun ac w1 hJ ho hd => ?_
      have s0 : ac.eval (.tmp 4) = .pointer (some ⟨p + 1 + 1, 0, none⟩) := ho 4 rfl
      have d5 : ac.eval (.tmp 11) = .agg r.1.cs := hd 5 _ _ rfl rfl rfl
      refine ⟨_, x_store 23 (.tmp 4) (.tmp 11) rfl s0 d5 (run_storeRow hJ.2 rfl), ⟨hJ.1.trans (setRow_out w1 (p + 1 + 1) r.1.cs) (fun _ h => .inl h), ?_⟩, fun _ => trivial, fun j v h => facts_free HK j v h⟩
      exact setRow_heap _ _ _ _ _ _ hJ.2
    · refine opS_same rfl rfl fun L ac w1 hJ hl hc ho hd => ?_
      have d6 : ac.eval (.tmp 12) = .int .i64 r.2 := hd 6 _ _ rfl rfl rfl
      exact ⟨_, x_assign (.tmp 12) rfl d6, rfl⟩
  · intro L a1 w5 hI hall
    obtain ⟨k5, hk5, hO5, hM5⟩ := hI.done hall (by decide)
    have hM5' : w5.heap[p + 1 + 1]? = some (.cells r.1.cs 23 (0, 0)) := by
      have hk0 : k5 ≠ 0 := by simp at hk5; omega
      rw [if_neg hk0] at hM5; exact hM5
    have l0 : a1.tmps.getD 4 undef = .pointer (some ⟨p + 1 + 1, 0, none⟩) := hI.old 4 rfl
    have l1 : a1.tmps.getD 5 undef = .int .i64 r.2 := hI.get hall (i := 8) rfl rfl
    have hde : a1.defers = [] := hI.defers
    have hr := results_row_tmp (fn := Try.f9) (p := 4) (u := 5) (ty := 23) rfl a1.tmps w5 (p + 1 + 1) 23 r.1.cs (0, 0) _ l0 hM5' Try.underlying23 rfl rfl
    rw [l1] at hr
    have hfin : Up w w5 := Below.out HU1.out hO5 (fun k hk => by rw [hk, HP.out]; omega) HU1.out.size
    clear hI
    go_wp2_with fail
    exact bodyPost_ret hr hde ⟨rfl, Lib.hid hfin⟩
end Go.Proofs.Ytahpejcejbgcpaa
namespace Go.Proofs.Ytahpejcejbgcpaa
open Go Go.RowKit
set_option linter.unusedVariables false
set_option linter.unusedSimpArgs false
set_option maxRecDepth 100000 in
set_option maxHeartbeats 4000000 in
theorem acked_any (x : Wy) (n : Int) (full : Bool) (w : World) : Calls Try.prog 18 #[.agg x.cs, .int .i64 n, .bool full] w (WR (ackOf x n full) w) := by
  obtain ⟨r, hr⟩ : ∃ r, r = ackOf x n full := ⟨_, rfl⟩
  obtain ⟨m, hm⟩ : ∃ m, m = wth n 0 65536 := ⟨_, rfl⟩
  have HC : ∀ wx g f, wx.heap[g]? = some (.cells #[.int .i64 n] 3 (0, 0)) → wx.heap[f]? = some (.cells #[.bool full] 4 (0, 0)) → Calls Try.prog 24 #[.agg x.cs, .bool m, .func (.func 32) #[] #[.pointer (some ⟨f, 0, none⟩), .pointer (some ⟨g, 0, none⟩)]] wx (WRes r.1 r.2 wx) := fun wx g f hg hf => by
    subst hr
    subst hm
    unfold ackOf
    by_cases h : x.Ok
    · rw [if_pos h]
      by_cases h2 : 0 ≤ n ∧ n ≤ 65536
      · rw [if_pos h2, wth_t h2]
        refine changed_t x (ackW x n full) h 32 #[.pointer (some ⟨f, 0, none⟩), .pointer (some ⟨g, 0, none⟩)] wx (fun args wy => by rfl) (fun b w' hb hk hu => ?_)
        have hg2 := (hu.block _ (lt_of_blk hg)).trans hg
        have hf2 := (hu.block _ (lt_of_blk hf)).trans hf
        exact ackC_any x n full b g f w' hk hg2 hf2 h h2.1 h2.2
      · rw [if_neg h2, wth_f h2]
        exact changed_m x h _ wx
    · rw [if_neg h]
      exact changed_f x h _ _ wx
  have HW : ∀ wx, Calls Try.prog 25 #[.int .i64 n, .int .i64 0, .int .i64 65536] wx fun e w' => e = .returned (.bool m) ∧ wx = w' := fun wx => by
    rw [hm]; exact within_any _ _ _ _
  rw [← hr]
  clear hr hm
  have hb0 := new_at w (.cells x.cs 23)
  have hb0 := (((up_alloc (w.alloc (.cells x.cs 23)) (.cells #[.int .i64 n] 3)).block _ (lt_of_blk hb0)).trans hb0)
  have hb0 := (((up_alloc ((w.alloc (.cells x.cs 23)).alloc (.cells #[.int .i64 n] 3)) (.cells #[.bool full] 4)).block _ (lt_of_blk hb0)).trans hb0)
  have hb0 := (((up_alloc (((w.alloc (.cells x.cs 23)).alloc (.cells #[.int .i64 n] 3)).alloc (.cells #[.bool full] 4)) (.cells #[.int .i64 0, .int .i64 0, .int .i64 0, .int .i64 0, .int .i64 0, .int .i64 0, .int .i64 0] 23)).block _ (lt_of_blk hb0)).trans hb0)
  have hs1 : (w.alloc (.cells x.cs 23)).heap.size = w.heap.size + 1 := by simp
  have hb1 := new_at (w.alloc (.cells x.cs 23)) (.cells #[.int .i64 n] 3)
  rw [hs1] at hb1
  have hb1 := (((up_alloc ((w.alloc (.cells x.cs 23)).alloc (.cells #[.int .i64 n] 3)) (.cells #[.bool full] 4)).block _ (lt_of_blk hb1)).trans hb1)
  have hb1 := (((up_alloc (((w.alloc (.cells x.cs 23)).alloc (.cells #[.int .i64 n] 3)).alloc (.cells #[.bool full] 4)) (.cells #[.int .i64 0, .int .i64 0, .int .i64 0, .int .i64 0, .int .i64 0, .int .i64 0, .int .i64 0] 23)).block _ (lt_of_blk hb1)).trans hb1)
  have hs2 : ((w.alloc (.cells x.cs 23)).alloc (.cells #[.int .i64 n] 3)).heap.size = w.heap.size + 1 + 1 := by simp
  have hb2 := new_at ((w.alloc (.cells x.cs 23)).alloc (.cells #[.int .i64 n] 3)) (.cells #[.bool full] 4)
  rw [hs2] at hb2
  have hb2 := (((up_alloc (((w.alloc (.cells x.cs 23)).alloc (.cells #[.int .i64 n] 3)).alloc (.cells #[.bool full] 4)) (.cells #[.int .i64 0, .int .i64 0, .int .i64 0, .int .i64 0, .int .i64 0, .int .i64 0, .int .i64 0] 23)).block _ (lt_of_blk hb2)).trans hb2)
  have hs3 : (((w.alloc (.cells x.cs 23)).alloc (.cells #[.int .i64 n] 3)).alloc (.cells #[.bool full] 4)).heap.size = w.heap.size + 1 + 1 + 1 := by simp
  have hb3 := new_at (((w.alloc (.cells x.cs 23)).alloc (.cells #[.int .i64 n] 3)).alloc (.cells #[.bool full] 4)) (.cells #[.int .i64 0, .int .i64 0, .int .i64 0, .int .i64 0, .int .i64 0, .int .i64 0, .int .i64 0] 23)
  rw [hs3] at hb3
  have hu : Up w ((((w.alloc (.cells x.cs 23)).alloc (.cells #[.int .i64 n] 3)).alloc (.cells #[.bool full] 4)).alloc (.cells #[.int .i64 0, .int .i64 0, .int .i64 0, .int .i64 0, .int .i64 0, .int .i64 0, .int .i64 0] 23)) := (((up_alloc w (.cells x.cs 23)).trans (up_alloc (w.alloc (.cells x.cs 23)) (.cells #[.int .i64 n] 3))).trans (up_alloc ((w.alloc (.cells x.cs 23)).alloc (.cells #[.int .i64 n] 3)) (.cells #[.bool full] 4))).trans (up_alloc (((w.alloc (.cells x.cs 23)).alloc (.cells #[.int .i64 n] 3)).alloc (.cells #[.bool full] 4)) (.cells #[.int .i64 0, .int .i64 0, .int .i64 0, .int .i64 0, .int .i64 0, .int .i64 0, .int .i64 0] 23))
  change ((((w.alloc (.cells x.cs 23)).alloc (.cells #[.int .i64 n] 3)).alloc (.cells #[.bool full] 4)).alloc (.cells #[.int .i64 0, .int .i64 0, .int .i64 0, .int .i64 0, .int .i64 0, .int .i64 0, .int .i64 0] 23)).heap[w.heap.size]? = _ at hb0
  have HM0 := Lib.hid hb0
  change ((((w.alloc (.cells x.cs 23)).alloc (.cells #[.int .i64 n] 3)).alloc (.cells #[.bool full] 4)).alloc (.cells #[.int .i64 0, .int .i64 0, .int .i64 0, .int .i64 0, .int .i64 0, .int .i64 0, .int .i64 0] 23)).heap[w.heap.size + 1]? = _ at hb1
  have HM1 := Lib.hid hb1
  change ((((w.alloc (.cells x.cs 23)).alloc (.cells #[.int .i64 n] 3)).alloc (.cells #[.bool full] 4)).alloc (.cells #[.int .i64 0, .int .i64 0, .int .i64 0, .int .i64 0, .int .i64 0, .int .i64 0, .int .i64 0] 23)).heap[w.heap.size + 1 + 1]? = _ at hb2
  have HM2 := Lib.hid hb2
  change ((((w.alloc (.cells x.cs 23)).alloc (.cells #[.int .i64 n] 3)).alloc (.cells #[.bool full] 4)).alloc (.cells #[.int .i64 0, .int .i64 0, .int .i64 0, .int .i64 0, .int .i64 0, .int .i64 0, .int .i64 0] 23)).heap[w.heap.size + 1 + 1 + 1]? = _ at hb3
  have HM3 := Lib.hid hb3
  have HU1 := Lib.hid hu
  clear hu hb0 hb1 hb2 hb3 hs1 hs2 hs3
  go_enter Try.func18, Try.ntmps18
  go_upto_region 1 with (fail)
  generalize ((((w.alloc (.cells x.cs 23)).alloc (.cells #[.int .i64 n] 3)).alloc (.cells #[.bool full] 4)).alloc (.cells #[.int .i64 0, .int .i64 0, .int .i64 0, .int .i64 0, .int .i64 0, .int .i64 0, .int .i64 0] 23)) = w2 at HM0 HM1 HM2 HM3 HU1 ⊢
  obtain ⟨p, hp⟩ : ∃ p, p = w.heap.size := ⟨_, rfl⟩
  rw [← hp] at HM0 HM1 HM2 HM3 ⊢
  have HP := Lib.hid hp
  clear hp
  have HMZ : Hid (w2.heap[p + 1 + 1 + 1]? = some (.cells W0.cs 23 (0, 0))) := HM3
  have HK : ∀ φ ∈ [Is (.agg x.cs), Is (.int .i64 n), Is (.bool m), Is (.func (.func 32) #[] #[.pointer (some ⟨p + 1 + 1, 0, none⟩), .pointer (some ⟨p + 1, 0, none⟩)]), Is (.tuple #[.agg r.1.cs, .int .i64 r.2]), Is (.agg r.1.cs), Is (.int .i64 r.2), Tru, Is (.int .i64 r.2)], Free φ := by
    intro φ hφ
    simp only [List.mem_cons, List.mem_nil_iff, or_false] at hφ
    rcases hφ with rfl | rfl | rfl | rfl | rfl | rfl | rfl | rfl | rfl <;> first | exact free_is _ | exact free_tru
  refine staged_lit (by kernel_rfl) (facts [Is (.agg x.cs), Is (.int .i64 n), Is (.bool m), Is (.func (.func 32) #[] #[.pointer (some ⟨p + 1 + 1, 0, none⟩), .pointer (some ⟨p + 1, 0, none⟩)]), Is (.tuple #[.agg r.1.cs, .int .i64 r.2]), Is (.agg r.1.cs), Is (.int .i64 r.2), Tru, Is (.int .i64 r.2)]) (Stg [7] (fun k wx => Out (fun q => q = p + 1 + 1 + 1) w2 wx ∧ wx.heap[p + 1 + 1 + 1]? = some (.cells (if k = 0 then W0.cs else r.1.cs) 23 (0, 0)))) 15 rfl (by decide +kernel) (by decide +kernel) (Stg.start ⟨(Up.drew w2).out _, HMZ.out⟩) ?_ ?_
  · refine ⟨?_, ?_, ?_, ?_, ?_, ?_, ?_, ?_, ?_, trivial⟩
    · refine opS_same rfl rfl fun L ac w1 hJ hl hc ho hd => ?_
      have s0 : ac.eval (.tmp 3) = .pointer (some ⟨p, 0, none⟩) := ho 3 rfl
      obtain ⟨_, _, hU, _⟩ := hJ
      exact ⟨_, x_load 23 (.tmp 3) rfl s0 (run_loadRow (cs := x.cs) (hU.blk HM0.out (by omega)) Try.underlying23 rfl rfl), rfl⟩
    · refine opS_same rfl rfl fun L ac w1 hJ hl hc ho hd => ?_
      have s0 : ac.eval (.tmp 4) = .pointer (some ⟨p + 1, 0, none⟩) := ho 4 rfl
      obtain ⟨_, _, hU, _⟩ := hJ
      exact ⟨_, x_load 3 (.tmp 4) rfl s0 (run_load1 agg3 (cell_of (hU.blk HM1.out (by omega)) rfl)), rfl⟩
    · refine opS_callUp rfl rfl (fun k wa wb h hu => ⟨h.1.trans (hu.out No) (fun _ h => h.elim), (hu.block _ (lt_of_blk h.2)).trans h.2⟩) (fun j v wa wb h _ => facts_free HK j v h) fun L ac w1 hJ hl hc ho hd => ?_
      have d0 : ac.eval (.tmp 9) = .int .i64 n := hd 1 _ _ rfl rfl rfl
      refine ⟨25, _, x_fcall 25 [.tmp 9, .const (.int .i64 0), .const (.int .i64 65536)] _ rfl (by kernel_rfl), ?_⟩
      simp only [List.map_cons, List.map_nil, d0]
      refine (HW w1).mono fun e w2 ⟨he, hw⟩ => ⟨_, he, ?_, ?_⟩
      · rw [← hw]; exact Up.refl _
      · rfl
    · refine opS_same rfl rfl fun L ac w1 hJ hl hc ho hd => ?_
      have s0 : ac.eval (.tmp 5) = .pointer (some ⟨p + 1 + 1, 0, none⟩) := ho 5 rfl
      have s1 : ac.eval (.tmp 4) = .pointer (some ⟨p + 1, 0, none⟩) := ho 4 rfl
      refine ⟨_, x_mkf (.func 32) #[] #[.tmp 5, .tmp 4] rfl, ?_⟩
      simp only [List.map_toArray, List.map_cons, List.map_nil, s0, s1]
      rfl
    · refine opS_callUp rfl rfl (fun k wa wb h hu => ⟨h.1.trans (hu.out No) (fun _ h => h.elim), (hu.block _ (lt_of_blk h.2)).trans h.2⟩) (fun j v wa wb h _ => facts_free HK j v h) fun L ac w1 hJ hl hc ho hd => ?_
      have d0 : ac.eval (.tmp 8) = .agg x.cs := hd 0 _ _ rfl rfl rfl
      have d2 : ac.eval (.tmp 10) = .bool m := hd 2 _ _ rfl rfl rfl
      have d3 : ac.eval (.tmp 11) = .func (.func 32) #[] #[.pointer (some ⟨p + 1 + 1, 0, none⟩), .pointer (some ⟨p + 1, 0, none⟩)] := hd 3 _ _ rfl rfl rfl
      obtain ⟨_, _, hU, _⟩ := hJ
      refine ⟨24, _, x_fcall 24 [.tmp 8, .tmp 10, .tmp 11] _ rfl (by kernel_rfl), ?_⟩
      simp only [List.map_cons, List.map_nil, d0, d2, d3]
      exact (HC w1 (p + 1) (p + 1 + 1) (hU.blk HM1.out (by omega)) (hU.blk HM2.out (by omega))).mono fun e w2 ⟨he, hu⟩ => ⟨_, he, hu.out, rfl⟩
    · refine opS_same rfl rfl fun L ac w1 hJ hl hc ho hd => ?_
      have d4 : ac.eval (.tmp 12) = .tuple #[.agg r.1.cs, .int .i64 r.2] := hd 4 _ _ rfl rfl rfl
      exact ⟨_, x_extract (.tmp 12) 0 rfl d4 rfl, rfl⟩
    · refine opS_same rfl rfl fun L ac w1 hJ hl hc ho hd => ?_
      have d4 : ac.eval (.tmp 12) = .tuple #[.agg r.1.cs, .int .i64 r.2] := hd 4 _ _ rfl rfl rfl
      exact ⟨_, x_extract (.tmp 12) 1 rfl d4 rfl, rfl⟩
    · refine opS_write (j := 0) rfl rfl (by decide) rfl (fun y hy h0 => by omega) fun ac w1 hJ ho hd => ?_
      have s0 : ac.eval (.tmp 6) = .pointer (some ⟨p + 1 + 1 + 1, 0, none⟩) := ho 6 rfl
      have d5 : ac.eval (.tmp 13) = .agg r.1.cs := hd 5 _ _ rfl rfl rfl
      refine ⟨_, x_store 23 (.tmp 6) (.tmp 13) rfl s0 d5 (run_storeRow hJ.2 rfl), ⟨hJ.1.trans (setRow_out w1 (p + 1 + 1 + 1) r.1.cs) (fun _ h => .inl h), ?_⟩, fun _ => trivial, fun j v h => facts_free HK j v h⟩
      exact setRow_heap _ _ _ _ _ _ hJ.2
    · refine opS_same rfl rfl fun L ac w1 hJ hl hc ho hd => ?_
      have d6 : ac.eval (.tmp 14) = .int .i64 r.2 := hd 6 _ _ rfl rfl rfl
      exact ⟨_, x_assign (.tmp 14) rfl d6, rfl⟩
  · intro L a1 w5 hI hall
    obtain ⟨k5, hk5, hO5, hM5⟩ := hI.done hall (by decide)
    have hM5' : w5.heap[p + 1 + 1 + 1]? = some (.cells r.1.cs 23 (0, 0)) := by
      have hk0 : k5 ≠ 0 := by simp at hk5; omega
      rw [if_neg hk0] at hM5; exact hM5
    have l0 : a1.tmps.getD 6 undef = .pointer (some ⟨p + 1 + 1 + 1, 0, none⟩) := hI.old 6 rfl
    have l1 : a1.tmps.getD 7 undef = .int .i64 r.2 := hI.get hall (i := 8) rfl rfl
    have hde : a1.defers = [] := hI.defers
    have hr := results_row_tmp (fn := Try.f18) (p := 6) (u := 7) (ty := 23) rfl a1.tmps w5 (p + 1 + 1 + 1) 23 r.1.cs (0, 0) _ l0 hM5' Try.underlying23 rfl rfl
    rw [l1] at hr
    have hfin : Up w w5 := Below.out HU1.out hO5 (fun k hk => by rw [hk, HP.out]; omega) HU1.out.size
    clear hI
    go_wp2_with fail
    exact bodyPost_ret hr hde ⟨rfl, Lib.hid hfin⟩
end Go.Proofs.Ytahpejcejbgcpaa
