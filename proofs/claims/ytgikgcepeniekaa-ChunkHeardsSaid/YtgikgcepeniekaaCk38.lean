import Derived.Test.YtgikgcepeniekaaCk23
import Derived.Test.YtgikgcepeniekaaCk31
namespace Go.Proofs.Ytgikgcepeniekaa
open Go Go.RowKit
set_option linter.unusedVariables false
set_option linter.unusedSimpArgs false
/-! The reference's SameChunks. -/
theorem run_load41 {g o : Nat} {w : World} {x y z : Value} (h0 : w.cell? ⟨g, o, none⟩ = some x) (h1 : w.cell? ⟨g, o + 1, none⟩ = some y) (h2 : w.cell? ⟨g, o + 2, none⟩ = some z) : (Instr.loadAt 41 (.pointer (some ⟨g, o, none⟩))).run Try.prog w = .ok (.agg #[x, y, z]) w := by
  have hl : (loadCells ⟨g, o, none⟩ [x, y, z].length).run Try.prog w = .ok [x, y, z].toArray w := run_loadCells_list (P := Try.prog) w ⟨g, o, none⟩ [x, y, z] (fun j v hv => by
    rw [add_flat]
    match j, hv with
    | 0, hv => simp at hv; subst hv; exact h0
    | 1, hv => simp at hv; subst hv; exact h1
    | 2, hv => simp at hv; subst hv; exact h2)
  have ha : (isAgg 41).run Try.prog w = .ok true w := by kernel_rfl
  have hs := sz41 w
  simp only [List.length_cons, List.length_nil] at hl
  simp [Instr.loadAt, Instr.sureAddr, loadVar, Result.andThen, ha, hs, hl]
theorem sz41' (w : World) : (Go.sizeOf 41).run Try.prog w = .ok 3 w := sz41 w
theorem eqL_take {la lb : List Ck.Chk} {k n m : Nat} (hn : la.length = n) (hm : lb.length = m) (he : la.take k = lb.take k) (hk : k = n ∨ k = m) (hkn : k ≤ n) (hkm : k ≤ m) : (la = lb) ↔ n = m := by
  constructor
  · intro h; rw [← hn, ← hm, h]
  · intro h
    have h1 : k = n := by omega
    rw [List.take_of_length_le (by omega), List.take_of_length_le (by omega)] at he
    exact he
set_option maxRecDepth 100000 in
set_option maxHeartbeats 2000000 in
theorem sameL (la lb : List ChB) (A B : Option Addr) (n c m d : Nat) (w : World) (ha : InL w A n c la) (hb : InL w B m d lb) (hn : n ≤ 140737488351232) (hm : m ≤ 140737488351232) : Calls Try.prog 16 #[.slice A n c, .slice B m d] w (RetB (decide (la.map ChB.pure = lb.map ChB.pure)) w) := by
  have HA := Lib.hid ha
  have HB := Lib.hid hb
  have hca := ha.cap
  have hcb := hb.cap
  clear ha hb
  go_enter Try.func16, Try.ntmps16
  go_wp2_with fail
  go_loopw [5] (fun i wr => ∃ k : Nat, k ≤ n ∧ k ≤ m ∧ i = .int .i64 (k : Int) ∧ Hid ((la.map ChB.pure).take k = (lb.map ChB.pure).take k) ∧ Hid (Up w wr)) (fun i _ => n - (intOf i).toNat)
  case atStart => exact ⟨0, Nat.zero_le _, Nat.zero_le _, rfl, Lib.hid rfl, Lib.hid (Up.refl _)⟩
  case round =>
    obtain ⟨k, hk, hk2, rfl, he, hu⟩ := hrel
    have HLA := Lib.hid (show (la.map ChB.pure).length = n by simp [HA.out.len])
    have HLB := Lib.hid (show (lb.map ChB.pure).length = m by simp [HB.out.len])
    by_cases hkn : k < n
    · have d1 : decide ((k : Int) < (n : Int)) = true := by simp; omega
      by_cases hkm : k < m
      · have d2 : decide ((k : Int) < (m : Int)) = true := by simp; omega
        obtain ⟨x, ga, oa, hx, rfl, x0, x1, x2, hxi⟩ := (HA.out.up hu.out).at_ hkn
        obtain ⟨y, gb, ob, hy, rfl, y0, y1, y2, hyi⟩ := (HB.out.up hu.out).at_ hkm
        have X0 := Lib.hid x0
        have X1 := Lib.hid x1
        have X2 := Lib.hid x2
        have Y0 := Lib.hid y0
        have Y1 := Lib.hid y1
        have Y2 := Lib.hid y2
        have HX := Lib.hid hxi
        have HY := Lib.hid hyi
        have HXK := Lib.hid (show (la.map ChB.pure).take (k + 1) = (la.map ChB.pure).take k ++ [x.pure] by
          have h2 : (la.map ChB.pure)[k]? = some x.pure := by simp [hx]
          obtain ⟨hl, he⟩ := List.getElem?_eq_some_iff.1 h2
          rw [List.take_succ_eq_append_getElem hl, he])
        have HYK := Lib.hid (show (lb.map ChB.pure).take (k + 1) = (lb.map ChB.pure).take k ++ [y.pure] by
          have h2 : (lb.map ChB.pure)[k]? = some y.pure := by simp [hy]
          obtain ⟨hl, he⟩ := List.getElem?_eq_some_iff.1 h2
          rw [List.take_succ_eq_append_getElem hl, he])
        clear x0 x1 x2 y0 y1 y2 hxi hyi hx hy
        go_upto_region 4 with (fail)
        by_cases heq : x.pure = y.pure
        · have HEQ := Lib.hid (show decide (x.pure = y.pure) = true from decide_eq_true heq)
          have HE2 := Lib.hid (show (la.map ChB.pure).take (k + 1) = (lb.map ChB.pure).take (k + 1) by rw [HXK.out, HYK.out, he.out, heq])
          clear heq
          have HK : ∀ φ ∈ [Is (.slice (some ⟨ga, oa, none⟩) n c), Is (.int .i64 (k : Int)), Is (.pointer (some ⟨ga, oa + k * 3, none⟩)), Is (chV x.ty x.fl (.slice x.A x.n x.c)), Is (.slice (some ⟨gb, ob, none⟩) m d), Is (.int .i64 (k : Int)), Is (.pointer (some ⟨gb, ob + k * 3, none⟩)), Is (chV y.ty y.fl (.slice y.A y.n y.c)), Is (.bool true), Is (.bool false)], Keeps φ := by
            intro φ hφ
            simp only [List.mem_cons, List.mem_nil_iff, or_false] at hφ
            rcases hφ with rfl | rfl | rfl | rfl | rfl | rfl | rfl | rfl | rfl | rfl <;> exact keeps_is _
          refine staged_lit (by kernel_rfl) (facts [Is (.slice (some ⟨ga, oa, none⟩) n c), Is (.int .i64 (k : Int)), Is (.pointer (some ⟨ga, oa + k * 3, none⟩)), Is (chV x.ty x.fl (.slice x.A x.n x.c)), Is (.slice (some ⟨gb, ob, none⟩) m d), Is (.int .i64 (k : Int)), Is (.pointer (some ⟨gb, ob + k * 3, none⟩)), Is (chV y.ty y.fl (.slice y.A y.n y.c)), Is (.bool true), Is (.bool false)]) (Stg [] (fun _ wx => Up wr wx)) 33 rfl (by decide +kernel) (by decide +kernel) (Stg.start (Up.drew wr)) ?_ ?_
          · refine ⟨?_, ?_, ?_, ?_, ?_, ?_, ?_, ?_, ?_, ?_, trivial⟩
            · refine opS_same rfl rfl fun L ac w1 hJ hl hc ho hd => ?_
              have s0 : ac.eval (.tmp 0) = .slice (some ⟨ga, oa, none⟩) n c := ho 0 rfl
              exact ⟨_, x_move (.tmp 0) rfl s0, rfl⟩
            · refine opS_same rfl rfl fun L ac w1 hJ hl hc ho hd => ?_
              have s5 : ac.eval (.tmp 5) = .int .i64 (k : Int) := ho 5 rfl
              exact ⟨_, x_move (.tmp 5) rfl s5, rfl⟩
            · refine opS_same rfl rfl fun L ac w1 hJ hl hc ho hd => ?_
              have d0 : ac.eval (.tmp 18) = .slice (some ⟨ga, oa, none⟩) n c := hd 0 _ _ rfl rfl rfl
              have d1 : ac.eval (.tmp 19) = .int .i64 (k : Int) := hd 1 _ _ rfl rfl rfl
              exact ⟨_, x_index 22 (.tmp 18) (.tmp 19) rfl d0 d1 (run_indexT (s := 3) Try.underlying22 (sz41 _) hkn), by rw [add_flat]; rfl⟩
            · refine opS_same rfl rfl fun L ac w1 hJ hl hc ho hd => ?_
              have d2 : ac.eval (.tmp 20) = .pointer (some ⟨ga, oa + k * 3, none⟩) := hd 2 _ _ rfl rfl rfl
              obtain ⟨_, _, hU⟩ := hJ
              exact ⟨_, x_load 41 (.tmp 20) rfl d2 (run_load41 (cell_up X0.out hU) (cell_up X1.out hU) (cell_up X2.out hU)), rfl⟩
            · refine opS_same rfl rfl fun L ac w1 hJ hl hc ho hd => ?_
              have s1 : ac.eval (.tmp 1) = .slice (some ⟨gb, ob, none⟩) m d := ho 1 rfl
              exact ⟨_, x_move (.tmp 1) rfl s1, rfl⟩
            · refine opS_same rfl rfl fun L ac w1 hJ hl hc ho hd => ?_
              have s5 : ac.eval (.tmp 5) = .int .i64 (k : Int) := ho 5 rfl
              exact ⟨_, x_move (.tmp 5) rfl s5, rfl⟩
            · refine opS_same rfl rfl fun L ac w1 hJ hl hc ho hd => ?_
              have d4 : ac.eval (.tmp 22) = .slice (some ⟨gb, ob, none⟩) m d := hd 4 _ _ rfl rfl rfl
              have d5 : ac.eval (.tmp 23) = .int .i64 (k : Int) := hd 5 _ _ rfl rfl rfl
              exact ⟨_, x_index 22 (.tmp 22) (.tmp 23) rfl d4 d5 (run_indexT (s := 3) Try.underlying22 (sz41 _) hkm), by rw [add_flat]; rfl⟩
            · refine opS_same rfl rfl fun L ac w1 hJ hl hc ho hd => ?_
              have d6 : ac.eval (.tmp 24) = .pointer (some ⟨gb, ob + k * 3, none⟩) := hd 6 _ _ rfl rfl rfl
              obtain ⟨_, _, hU⟩ := hJ
              exact ⟨_, x_load 41 (.tmp 24) rfl d6 (run_load41 (cell_up Y0.out hU) (cell_up Y1.out hU) (cell_up Y2.out hU)), rfl⟩
            · refine opS_callUp rfl rfl (fun k wa wb h hu => Up.trans h hu) (facts_keep HK) fun L ac w1 hJ hl hc ho hd => ?_
              have d3 : ac.eval (.tmp 21) = chV x.ty x.fl (.slice x.A x.n x.c) := hd 3 _ _ rfl rfl rfl
              have d7 : ac.eval (.tmp 25) = chV y.ty y.fl (.slice y.A y.n y.c) := hd 7 _ _ rfl rfl rfl
              obtain ⟨_, _, hU⟩ := hJ
              refine ⟨19, _, x_fcall 19 [.tmp 21, .tmp 25] _ rfl (by kernel_rfl), ?_⟩
              simp only [List.map_cons, List.map_nil, d3, d7]
              refine (sameC x.pure y.pure x.A y.A x.n y.n x.c y.c w1 (HX.out.inb.up hU) (HY.out.inb.up hU)).mono fun e w2 ⟨he, hu⟩ => ⟨_, he, hu.out, ?_⟩
              rw [HEQ.out]; rfl
            · refine opS_same rfl rfl fun L ac w1 hJ hl hc ho hd => ?_
              have d8 : ac.eval (.tmp 26) = .bool true := hd 8 _ _ rfl rfl rfl
              exact ⟨_, x_not 4 (.tmp 26) rfl d8, rfl⟩
          · intro L a1 w9 hI hall
            obtain ⟨j, hj, hU⟩ := hI.done hall (by simp)
            have HU9 := Lib.hid (hu.out.trans hU)
            clear hj hU j HK
            have l0 : a1.tmps.getD 0 undef = Value.slice (some { block := ga, off := oa }) n c := hI.old 0 rfl
            have l1 : a1.tmps.getD 1 undef = Value.slice (some { block := gb, off := ob }) m d := hI.old 1 rfl
            have l2 : a1.tmps.getD 2 undef = undef := hI.old 2 rfl
            have l3 : a1.tmps.getD 3 undef = undef := hI.old 3 rfl
            have l5 : a1.tmps.getD 5 undef = Value.int IntKind.i64 ↑k := hI.old 5 rfl
            have l6 : a1.tmps.getD 6 undef = Value.int IntKind.i64 ↑k := hI.old 6 rfl
            have l7 : a1.tmps.getD 7 undef = Value.slice (some { block := ga, off := oa }) n c := hI.old 7 rfl
            have l8 : a1.tmps.getD 8 undef = Value.int IntKind.i64 ↑n := hI.old 8 rfl
            have l9 : a1.tmps.getD 9 undef = Value.bool true := hI.old 9 rfl
            have l10 : a1.tmps.getD 10 undef = Value.bool true := hI.old 10 rfl
            have l11 : a1.tmps.getD 11 undef = Value.int IntKind.i64 ↑k := hI.old 11 rfl
            have l12 : a1.tmps.getD 12 undef = Value.slice (some { block := gb, off := ob }) m d := hI.old 12 rfl
            have l13 : a1.tmps.getD 13 undef = Value.int IntKind.i64 ↑m := hI.old 13 rfl
            have l14 : a1.tmps.getD 14 undef = Value.bool true := hI.old 14 rfl
            have l15 : a1.tmps.getD 15 undef = Value.bool true := hI.old 15 rfl
            have l28 : a1.tmps.getD 28 undef = undef := hI.old 28 rfl
            have l29 : a1.tmps.getD 29 undef = undef := hI.old 29 rfl
            have l30 : a1.tmps.getD 30 undef = undef := hI.old 30 rfl
            have l31 : a1.tmps.getD 31 undef = undef := hI.old 31 rfl
            have l32 : a1.tmps.getD 32 undef = undef := hI.old 32 rfl
            have l27 : a1.tmps.getD 27 undef = .bool false := hI.get hall (i := 9) rfl rfl
            have hde : a1.defers = [] := hI.defers
            have hal := act_lit a1 33 hI.size
            clear hI
            simp only [List.range, List.range.loop, List.map_cons, List.map_nil] at hal
            rw [l0, l1, l2, l3, l5, l6, l7, l8, l9, l10, l11, l12, l13, l14, l15, l28, l29, l30, l31, l32, l27, hde] at hal
            generalize a1.tmps.getD 4 undef = tm4 at hal
            generalize a1.tmps.getD 16 undef = tm16 at hal
            generalize a1.tmps.getD 17 undef = tm17 at hal
            generalize a1.tmps.getD 18 undef = tm18 at hal
            generalize a1.tmps.getD 19 undef = tm19 at hal
            generalize a1.tmps.getD 20 undef = tm20 at hal
            generalize a1.tmps.getD 21 undef = tm21 at hal
            generalize a1.tmps.getD 22 undef = tm22 at hal
            generalize a1.tmps.getD 23 undef = tm23 at hal
            generalize a1.tmps.getD 24 undef = tm24 at hal
            generalize a1.tmps.getD 25 undef = tm25 at hal
            generalize a1.tmps.getD 26 undef = tm26 at hal
            clear l0 l1 l2 l3 l5 l6 l7 l8 l9 l10 l11 l12 l13 l14 l15 l28 l29 l30 l31 l32 l27 hde
            subst hal
            go_wp2_with fail
            go_roundw
            case rel => exact ⟨k + 1, by omega, by omega, by go_num, HE2, HU9⟩
            case measure => simp [intOf]; omega
        · have HEQ := Lib.hid (show decide (x.pure = y.pure) = false from decide_eq_false heq)
          have HE2 := Lib.hid (show decide (la.map ChB.pure = lb.map ChB.pure) = false from decide_eq_false fun e => by
            have h1 := HXK.out
            rw [e, HYK.out] at h1
            have h2 := (List.append_inj h1 rfl).2
            injection h2 with h2
            exact heq h2.symm)
          clear heq
          have HK : ∀ φ ∈ [Is (.slice (some ⟨ga, oa, none⟩) n c), Is (.int .i64 (k : Int)), Is (.pointer (some ⟨ga, oa + k * 3, none⟩)), Is (chV x.ty x.fl (.slice x.A x.n x.c)), Is (.slice (some ⟨gb, ob, none⟩) m d), Is (.int .i64 (k : Int)), Is (.pointer (some ⟨gb, ob + k * 3, none⟩)), Is (chV y.ty y.fl (.slice y.A y.n y.c)), Is (.bool false), Is (.bool true)], Keeps φ := by
            intro φ hφ
            simp only [List.mem_cons, List.mem_nil_iff, or_false] at hφ
            rcases hφ with rfl | rfl | rfl | rfl | rfl | rfl | rfl | rfl | rfl | rfl <;> exact keeps_is _
          refine staged_lit (by kernel_rfl) (facts [Is (.slice (some ⟨ga, oa, none⟩) n c), Is (.int .i64 (k : Int)), Is (.pointer (some ⟨ga, oa + k * 3, none⟩)), Is (chV x.ty x.fl (.slice x.A x.n x.c)), Is (.slice (some ⟨gb, ob, none⟩) m d), Is (.int .i64 (k : Int)), Is (.pointer (some ⟨gb, ob + k * 3, none⟩)), Is (chV y.ty y.fl (.slice y.A y.n y.c)), Is (.bool false), Is (.bool true)]) (Stg [] (fun _ wx => Up wr wx)) 33 rfl (by decide +kernel) (by decide +kernel) (Stg.start (Up.drew wr)) ?_ ?_
          · refine ⟨?_, ?_, ?_, ?_, ?_, ?_, ?_, ?_, ?_, ?_, trivial⟩
            · refine opS_same rfl rfl fun L ac w1 hJ hl hc ho hd => ?_
              have s0 : ac.eval (.tmp 0) = .slice (some ⟨ga, oa, none⟩) n c := ho 0 rfl
              exact ⟨_, x_move (.tmp 0) rfl s0, rfl⟩
            · refine opS_same rfl rfl fun L ac w1 hJ hl hc ho hd => ?_
              have s5 : ac.eval (.tmp 5) = .int .i64 (k : Int) := ho 5 rfl
              exact ⟨_, x_move (.tmp 5) rfl s5, rfl⟩
            · refine opS_same rfl rfl fun L ac w1 hJ hl hc ho hd => ?_
              have d0 : ac.eval (.tmp 18) = .slice (some ⟨ga, oa, none⟩) n c := hd 0 _ _ rfl rfl rfl
              have d1 : ac.eval (.tmp 19) = .int .i64 (k : Int) := hd 1 _ _ rfl rfl rfl
              exact ⟨_, x_index 22 (.tmp 18) (.tmp 19) rfl d0 d1 (run_indexT (s := 3) Try.underlying22 (sz41 _) hkn), by rw [add_flat]; rfl⟩
            · refine opS_same rfl rfl fun L ac w1 hJ hl hc ho hd => ?_
              have d2 : ac.eval (.tmp 20) = .pointer (some ⟨ga, oa + k * 3, none⟩) := hd 2 _ _ rfl rfl rfl
              obtain ⟨_, _, hU⟩ := hJ
              exact ⟨_, x_load 41 (.tmp 20) rfl d2 (run_load41 (cell_up X0.out hU) (cell_up X1.out hU) (cell_up X2.out hU)), rfl⟩
            · refine opS_same rfl rfl fun L ac w1 hJ hl hc ho hd => ?_
              have s1 : ac.eval (.tmp 1) = .slice (some ⟨gb, ob, none⟩) m d := ho 1 rfl
              exact ⟨_, x_move (.tmp 1) rfl s1, rfl⟩
            · refine opS_same rfl rfl fun L ac w1 hJ hl hc ho hd => ?_
              have s5 : ac.eval (.tmp 5) = .int .i64 (k : Int) := ho 5 rfl
              exact ⟨_, x_move (.tmp 5) rfl s5, rfl⟩
            · refine opS_same rfl rfl fun L ac w1 hJ hl hc ho hd => ?_
              have d4 : ac.eval (.tmp 22) = .slice (some ⟨gb, ob, none⟩) m d := hd 4 _ _ rfl rfl rfl
              have d5 : ac.eval (.tmp 23) = .int .i64 (k : Int) := hd 5 _ _ rfl rfl rfl
              exact ⟨_, x_index 22 (.tmp 22) (.tmp 23) rfl d4 d5 (run_indexT (s := 3) Try.underlying22 (sz41 _) hkm), by rw [add_flat]; rfl⟩
            · refine opS_same rfl rfl fun L ac w1 hJ hl hc ho hd => ?_
              have d6 : ac.eval (.tmp 24) = .pointer (some ⟨gb, ob + k * 3, none⟩) := hd 6 _ _ rfl rfl rfl
              obtain ⟨_, _, hU⟩ := hJ
              exact ⟨_, x_load 41 (.tmp 24) rfl d6 (run_load41 (cell_up Y0.out hU) (cell_up Y1.out hU) (cell_up Y2.out hU)), rfl⟩
            · refine opS_callUp rfl rfl (fun k wa wb h hu => Up.trans h hu) (facts_keep HK) fun L ac w1 hJ hl hc ho hd => ?_
              have d3 : ac.eval (.tmp 21) = chV x.ty x.fl (.slice x.A x.n x.c) := hd 3 _ _ rfl rfl rfl
              have d7 : ac.eval (.tmp 25) = chV y.ty y.fl (.slice y.A y.n y.c) := hd 7 _ _ rfl rfl rfl
              obtain ⟨_, _, hU⟩ := hJ
              refine ⟨19, _, x_fcall 19 [.tmp 21, .tmp 25] _ rfl (by kernel_rfl), ?_⟩
              simp only [List.map_cons, List.map_nil, d3, d7]
              refine (sameC x.pure y.pure x.A y.A x.n y.n x.c y.c w1 (HX.out.inb.up hU) (HY.out.inb.up hU)).mono fun e w2 ⟨he, hu⟩ => ⟨_, he, hu.out, ?_⟩
              rw [HEQ.out]; rfl
            · refine opS_same rfl rfl fun L ac w1 hJ hl hc ho hd => ?_
              have d8 : ac.eval (.tmp 26) = .bool false := hd 8 _ _ rfl rfl rfl
              exact ⟨_, x_not 4 (.tmp 26) rfl d8, rfl⟩
          · intro L a1 w9 hI hall
            obtain ⟨j, hj, hU⟩ := hI.done hall (by simp)
            have HU9 := Lib.hid (hu.out.trans hU)
            clear hj hU j HK
            have l0 : a1.tmps.getD 0 undef = Value.slice (some { block := ga, off := oa }) n c := hI.old 0 rfl
            have l1 : a1.tmps.getD 1 undef = Value.slice (some { block := gb, off := ob }) m d := hI.old 1 rfl
            have l2 : a1.tmps.getD 2 undef = undef := hI.old 2 rfl
            have l3 : a1.tmps.getD 3 undef = undef := hI.old 3 rfl
            have l5 : a1.tmps.getD 5 undef = Value.int IntKind.i64 ↑k := hI.old 5 rfl
            have l6 : a1.tmps.getD 6 undef = Value.int IntKind.i64 ↑k := hI.old 6 rfl
            have l7 : a1.tmps.getD 7 undef = Value.slice (some { block := ga, off := oa }) n c := hI.old 7 rfl
            have l8 : a1.tmps.getD 8 undef = Value.int IntKind.i64 ↑n := hI.old 8 rfl
            have l9 : a1.tmps.getD 9 undef = Value.bool true := hI.old 9 rfl
            have l10 : a1.tmps.getD 10 undef = Value.bool true := hI.old 10 rfl
            have l11 : a1.tmps.getD 11 undef = Value.int IntKind.i64 ↑k := hI.old 11 rfl
            have l12 : a1.tmps.getD 12 undef = Value.slice (some { block := gb, off := ob }) m d := hI.old 12 rfl
            have l13 : a1.tmps.getD 13 undef = Value.int IntKind.i64 ↑m := hI.old 13 rfl
            have l14 : a1.tmps.getD 14 undef = Value.bool true := hI.old 14 rfl
            have l15 : a1.tmps.getD 15 undef = Value.bool true := hI.old 15 rfl
            have l28 : a1.tmps.getD 28 undef = undef := hI.old 28 rfl
            have l29 : a1.tmps.getD 29 undef = undef := hI.old 29 rfl
            have l30 : a1.tmps.getD 30 undef = undef := hI.old 30 rfl
            have l31 : a1.tmps.getD 31 undef = undef := hI.old 31 rfl
            have l32 : a1.tmps.getD 32 undef = undef := hI.old 32 rfl
            have l27 : a1.tmps.getD 27 undef = .bool true := hI.get hall (i := 9) rfl rfl
            have hde : a1.defers = [] := hI.defers
            have hal := act_lit a1 33 hI.size
            clear hI
            simp only [List.range, List.range.loop, List.map_cons, List.map_nil] at hal
            rw [l0, l1, l2, l3, l5, l6, l7, l8, l9, l10, l11, l12, l13, l14, l15, l28, l29, l30, l31, l32, l27, hde] at hal
            generalize a1.tmps.getD 4 undef = tm4 at hal
            generalize a1.tmps.getD 16 undef = tm16 at hal
            generalize a1.tmps.getD 17 undef = tm17 at hal
            generalize a1.tmps.getD 18 undef = tm18 at hal
            generalize a1.tmps.getD 19 undef = tm19 at hal
            generalize a1.tmps.getD 20 undef = tm20 at hal
            generalize a1.tmps.getD 21 undef = tm21 at hal
            generalize a1.tmps.getD 22 undef = tm22 at hal
            generalize a1.tmps.getD 23 undef = tm23 at hal
            generalize a1.tmps.getD 24 undef = tm24 at hal
            generalize a1.tmps.getD 25 undef = tm25 at hal
            generalize a1.tmps.getD 26 undef = tm26 at hal
            clear l0 l1 l2 l3 l5 l6 l7 l8 l9 l10 l11 l12 l13 l14 l15 l28 l29 l30 l31 l32 l27 hde
            subst hal
            go_wp2_with fail
            go_ret
            exact ⟨by rw [HE2.out]; rfl, HU9⟩
      · obtain rfl : k = m := by omega
        have d2 : decide ((k : Int) < (k : Int)) = false := by simp
        have HE2 := Lib.hid (show decide (la.map ChB.pure = lb.map ChB.pure) = false from decide_eq_false fun e => by have := (eqL_take HLA.out HLB.out he.out (.inr rfl) hk hk2).1 e; omega)
        have d3 : ((n : Int) == (k : Int)) = false := by rw [beq_eq_false_iff_ne]; omega
        go_wp2_with fail
        go_ret
        exact ⟨by rw [HE2.out]; rfl, hu⟩
    · obtain rfl : k = n := by omega
      have d1 : decide ((k : Int) < (k : Int)) = false := by simp
      by_cases hkm : k = m
      · subst hkm
        have HE2 := Lib.hid (show decide (la.map ChB.pure = lb.map ChB.pure) = true from decide_eq_true ((eqL_take HLA.out HLB.out he.out (.inl rfl) hk hk2).2 rfl))
        have d3 : ((k : Int) == (k : Int)) = true := by simp
        go_wp2_with fail
        go_ret
        exact ⟨by rw [HE2.out]; rfl, hu⟩
      · have HE2 := Lib.hid (show decide (la.map ChB.pure = lb.map ChB.pure) = false from decide_eq_false fun e => by have := (eqL_take HLA.out HLB.out he.out (.inl rfl) hk hk2).1 e; omega)
        have d3 : ((k : Int) == (m : Int)) = false := by rw [beq_eq_false_iff_ne]; omega
        go_wp2_with fail
        go_ret
        exact ⟨by rw [HE2.out]; rfl, hu⟩
end Go.Proofs.Ytgikgcepeniekaa
