import Derived.Test.YtgikgcepeniekaaCk15
namespace Go.Proofs.Ytgikgcepeniekaa
open Go Go.RowKit
set_option linter.unusedVariables false
set_option linter.unusedSimpArgs false
theorem mem2 {α : Type} {P : α → Prop} {a b : α} (ha : P a) (hb : P b) : ∀ p ∈ [a, b], P p := by
  intro p hp
  rcases List.mem_cons.1 hp with rfl | hp
  · exact ha
  · rw [List.mem_singleton] at hp; subst hp; exact hb
theorem byt_rdB {xs : List Int} {n : Nat} {r : R} (h : Byt xs) : Byt (rdB xs n r) := by
  unfold rdB
  split
  · exact (h.drop _).take _
  · exact byt_nil
theorem RH.cons {g : Nat} {L : List (Nat × Obj)} {w0 w : World} {xs : List Int} {r : R} {p : Nat × Obj} (H : RH g L w0 xs r w) (hp : w.heap[p.1]? = some p.2) (hne : p.1 ≠ g) : RH g (p :: L) w0 xs r w :=
  ⟨H.isR, fun q hq => (List.mem_cons.1 hq).elim (fun e => by rw [e]; exact ⟨hp, hne⟩) (H.kept q), H.up, H.g0⟩
theorem RH.tail {g : Nat} {L : List (Nat × Obj)} {w0 w : World} {xs : List Int} {r : R} {p : Nat × Obj} (H : RH g (p :: L) w0 xs r w) : RH g L w0 xs r w := ⟨H.isR, fun q hq => H.kept q (List.mem_cons_of_mem _ hq), H.up, H.g0⟩
set_option maxRecDepth 100000 in
set_option maxHeartbeats 4000000 in
theorem toP_read (A : Option Addr) (m c : Nat) (fl : Int) (xs : List Int) (w : World) (hin : InB w A m c xs) (hm : m ≤ 140737488351232) : Calls Try.prog 25 #[chV 0 fl (.slice A m c)] w (ToPPost 0 fl xs w) := by
  obtain ⟨W, hW⟩ : ∃ W, W = (w.alloc (.cells #[.int .u8 0, .int .u8 fl, .slice A m c] 41)).alloc (.cells #[.int .u32 0, .int .u16 0, .int .u16 0, .bool false, .bool false, .bool false, .slice none 0 0] 50) := ⟨_, rfl⟩
  have u1 := up_alloc w (.cells #[.int .u8 0, .int .u8 fl, .slice A m c] 41)
  have a1 := new_at w (.cells #[.int .u8 0, .int .u8 fl, .slice A m c] 41)
  have u2 := up_alloc (w.alloc (.cells #[.int .u8 0, .int .u8 fl, .slice A m c] 41)) (.cells #[.int .u32 0, .int .u16 0, .int .u16 0, .bool false, .bool false, .bool false, .slice none 0 0] 50)
  have a2 := new_at (w.alloc (.cells #[.int .u8 0, .int .u8 fl, .slice A m c] 41)) (.cells #[.int .u32 0, .int .u16 0, .int .u16 0, .bool false, .bool false, .bool false, .slice none 0 0] 50)
  have b1 := (u2.block _ (lt_of_blk a1)).trans a1
  have s1 : (w.alloc (.cells #[.int .u8 0, .int .u8 fl, .slice A m c] 41)).heap.size = w.heap.size + 1 := by simp
  rw [s1] at a2
  have HS := Lib.hid (show ((w.alloc (.cells #[.int .u8 0, .int .u8 fl, .slice A m c] 41)).alloc (.cells #[.int .u32 0, .int .u16 0, .int .u16 0, .bool false, .bool false, .bool false, .slice none 0 0] 50)).heap.size = w.heap.size + 1 + 1 by simp)
  have HU := Lib.hid (u1.trans u2)
  rw [← hW] at a2 b1 HU HS
  have HW := Lib.hid hW
  have HQ := Lib.hid a2
  have HB := Lib.hid b1
  have c0 := cell_of b1 (j := 0) rfl
  have c1 := cell_of b1 (j := 1) rfl
  have c2 := cell_of b1 (j := 2) rfl
  clear u1 a1 u2 a2 b1 s1 hW
  have HI := Lib.hid hin
  have HM := Lib.hid hm
  have G0 := Lib.hid (RH.start (L := [(w.heap.size, .cells #[.int .u8 0, .int .u8 fl, .slice A m c] 41), (w.heap.size + 1, .cells #[.int .u32 0, .int .u16 0, .int .u16 0, .bool false, .bool false, .bool false, .slice none 0 0] 50)]) hin hm HU.out (mem2 HB.out HQ.out))
  clear hin hm
  unfold chV
  go_enter Try.func25, Try.ntmps25
  go_upto_region 4 with (fail)
  rw [← HW.out]
  rw [HS.out] at G0
  generalize (W.alloc (.cells #[.slice A m c, .int .i64 0, .int .i64 0] 77)) = x0 at G0 ⊢
  generalize w.heap.size + 1 + 1 = g at G0 ⊢
  clear c0 c1 c2
  go_wp2_with fail
  refine (rfour x0 G0.out.isR).mono ?_
  rintro e x1 ⟨t1, r1, rfl, s1, b1, i1, o1⟩
  have G1 := Lib.hid (G0.out.step i1 o1)
  clear i1 o1 G0
  go_wp2_with fail
  refine (rtwo x1 G1.out.isR).mono ?_
  rintro e x2 ⟨t2, r2, rfl, s2, b2, i1, o1⟩
  have G2 := Lib.hid (G1.out.step i1 o1)
  clear i1 o1 G1
  go_wp2_with fail
  refine (rtwo x2 G2.out.isR).mono ?_
  rintro e x3 ⟨t3, r3, rfl, s3, b3, i1, o1⟩
  have G3 := Lib.hid (G2.out.step i1 o1)
  clear i1 o1 G2
  go_upto_region 5 with (fail)
  have GA := Lib.hid (G3.out.add (.cells #[.int .u32 t1, .int .u16 t2, .int .u16 t3, .bool false, .bool false, .bool false, .slice none 0 0] 50))
  have HBQ := Lib.hid (show x3.heap.size ≠ w.heap.size ∧ x3.heap.size ≠ w.heap.size + 1 from ⟨fun e => by have := lt_of_blk (G3.out.kept _ List.mem_cons_self).1; simp only at this; omega, fun e => by have := lt_of_blk (G3.out.kept _ (List.mem_cons_of_mem _ List.mem_cons_self)).1; simp only at this; omega⟩)
  have HBG := Lib.hid (show g < x3.heap.size from G3.out.isR.lt)
  have HBW := Lib.hid (show w.heap.size ≤ x3.heap.size from G3.out.up.size)
  generalize (x3.alloc (.cells #[.int .u32 t1, .int .u16 t2, .int .u16 t3, .bool false, .bool false, .bool false, .slice none 0 0] 50)) = x4 at GA ⊢
  generalize x3.heap.size = hb at GA HBQ HBG HBW ⊢
  clear G3
  have hH9 := (GA.out.kept _ List.mem_cons_self).1
  have hB9 := Lib.hid (GA.out.kept _ (List.mem_cons_of_mem _ List.mem_cons_self)).1
  simp only at hH9 hB9
  have HF : ∀ φ ∈ [Is (.pointer (some ⟨w.heap.size, 1, none⟩)), Is (.int .u8 fl), Is (.int .u8 (bits .and .u8 fl 2)), Is (.bool (flB fl 2)), Is (.pointer (some ⟨w.heap.size, 1, none⟩)), Is (.int .u8 fl), Is (.int .u8 (bits .and .u8 fl 1)), Is (.bool (flB fl 1)), Is (.pointer (some ⟨w.heap.size, 1, none⟩)), Is (.int .u8 fl), Is (.int .u8 (bits .and .u8 fl 4)), Is (.bool (flB fl 4)), Is (.pointer (some ⟨hb, 3, none⟩)), Tru, Is (.pointer (some ⟨hb, 4, none⟩)), Tru, Is (.pointer (some ⟨hb, 5, none⟩)), Tru], Free φ := by
    intro φ hφ
    simp only [List.mem_cons, List.mem_nil_iff, or_false] at hφ
    rcases hφ with rfl | rfl | rfl | rfl | rfl | rfl | rfl | rfl | rfl | rfl | rfl | rfl | rfl | rfl | rfl | rfl | rfl | rfl <;> first | exact free_is _ | exact free_tru
  refine staged_lit (by kernel_rfl) (facts [Is (.pointer (some ⟨w.heap.size, 1, none⟩)), Is (.int .u8 fl), Is (.int .u8 (bits .and .u8 fl 2)), Is (.bool (flB fl 2)), Is (.pointer (some ⟨w.heap.size, 1, none⟩)), Is (.int .u8 fl), Is (.int .u8 (bits .and .u8 fl 1)), Is (.bool (flB fl 1)), Is (.pointer (some ⟨w.heap.size, 1, none⟩)), Is (.int .u8 fl), Is (.int .u8 (bits .and .u8 fl 4)), Is (.bool (flB fl 4)), Is (.pointer (some ⟨hb, 3, none⟩)), Tru, Is (.pointer (some ⟨hb, 4, none⟩)), Tru, Is (.pointer (some ⟨hb, 5, none⟩)), Tru]) (Stg [13, 15, 17] (WB hb 50 (fun k => #[.int .u32 t1, .int .u16 t2, .int .u16 t3, .bool (if 0 < k then flB fl 2 else false), .bool (if 1 < k then flB fl 1 else false), .bool (if 2 < k then flB fl 4 else false), .slice none 0 0]) x4)) 54 rfl (by decide +kernel) (by decide +kernel) (Stg.start ⟨(Up.drew x4).out _, ((Up.drew x4).block _ (lt_of_blk hH9)).trans hH9⟩) ?_ ?_
  · refine ⟨?_, ?_, ?_, ?_, ?_, ?_, ?_, ?_, ?_, ?_, ?_, ?_, ?_, ?_, ?_, ?_, ?_, ?_, trivial⟩
    · refine opS_same rfl rfl fun L ac w1 hJ hl hc ho hd => ?_
      have s1 : ac.eval (.tmp 1) = .pointer (some ⟨w.heap.size, 0, none⟩) := ho 1 rfl
      exact ⟨_, x_field 41 (.tmp 1) 1 rfl s1 (fld411 _ _ _), rfl⟩
    · refine opS_same rfl rfl fun L ac w1 hJ hl hc ho hd => ?_
      have d0 : ac.eval (.tmp 17) = .pointer (some ⟨w.heap.size, 1, none⟩) := hd 0 _ _ rfl rfl rfl
      obtain ⟨_, _, hW⟩ := hJ
      exact ⟨_, x_load 5 (.tmp 17) rfl d0 (run_load1 agg5 (cell_of (hW.1.blk hB9.out (fun e => HBQ.out.1 e.symm)) (j := 1) rfl)), rfl⟩
    · refine opS_same rfl rfl fun L ac w1 hJ hl hc ho hd => ?_
      have d1 : ac.eval (.tmp 18) = .int .u8 fl := hd 1 _ _ rfl rfl rfl
      exact ⟨_, x_bin .and 5 5 (.tmp 18) (.const (.int .u8 2)) rfl d1 rfl (grda _ _ _ _ _) (run_and5 _ _ _ rfl _), rfl⟩
    · refine opS_same rfl rfl fun L ac w1 hJ hl hc ho hd => ?_
      have d2 : ac.eval (.tmp 19) = .int .u8 (bits .and .u8 fl 2) := hd 2 _ _ rfl rfl rfl
      exact ⟨_, x_bin .neq 5 5 (.tmp 19) (.const (.int .u8 0)) rfl d2 rfl (grd5 _ _ _ _ _) (run_neq5 _ _ _ rfl _), rfl⟩
    · refine opS_same rfl rfl fun L ac w1 hJ hl hc ho hd => ?_
      have s1 : ac.eval (.tmp 1) = .pointer (some ⟨w.heap.size, 0, none⟩) := ho 1 rfl
      exact ⟨_, x_field 41 (.tmp 1) 1 rfl s1 (fld411 _ _ _), rfl⟩
    · refine opS_same rfl rfl fun L ac w1 hJ hl hc ho hd => ?_
      have d4 : ac.eval (.tmp 21) = .pointer (some ⟨w.heap.size, 1, none⟩) := hd 4 _ _ rfl rfl rfl
      obtain ⟨_, _, hW⟩ := hJ
      exact ⟨_, x_load 5 (.tmp 21) rfl d4 (run_load1 agg5 (cell_of (hW.1.blk hB9.out (fun e => HBQ.out.1 e.symm)) (j := 1) rfl)), rfl⟩
    · refine opS_same rfl rfl fun L ac w1 hJ hl hc ho hd => ?_
      have d5 : ac.eval (.tmp 22) = .int .u8 fl := hd 5 _ _ rfl rfl rfl
      exact ⟨_, x_bin .and 5 5 (.tmp 22) (.const (.int .u8 1)) rfl d5 rfl (grda _ _ _ _ _) (run_and5 _ _ _ rfl _), rfl⟩
    · refine opS_same rfl rfl fun L ac w1 hJ hl hc ho hd => ?_
      have d6 : ac.eval (.tmp 23) = .int .u8 (bits .and .u8 fl 1) := hd 6 _ _ rfl rfl rfl
      exact ⟨_, x_bin .neq 5 5 (.tmp 23) (.const (.int .u8 0)) rfl d6 rfl (grd5 _ _ _ _ _) (run_neq5 _ _ _ rfl _), rfl⟩
    · refine opS_same rfl rfl fun L ac w1 hJ hl hc ho hd => ?_
      have s1 : ac.eval (.tmp 1) = .pointer (some ⟨w.heap.size, 0, none⟩) := ho 1 rfl
      exact ⟨_, x_field 41 (.tmp 1) 1 rfl s1 (fld411 _ _ _), rfl⟩
    · refine opS_same rfl rfl fun L ac w1 hJ hl hc ho hd => ?_
      have d8 : ac.eval (.tmp 25) = .pointer (some ⟨w.heap.size, 1, none⟩) := hd 8 _ _ rfl rfl rfl
      obtain ⟨_, _, hW⟩ := hJ
      exact ⟨_, x_load 5 (.tmp 25) rfl d8 (run_load1 agg5 (cell_of (hW.1.blk hB9.out (fun e => HBQ.out.1 e.symm)) (j := 1) rfl)), rfl⟩
    · refine opS_same rfl rfl fun L ac w1 hJ hl hc ho hd => ?_
      have d9 : ac.eval (.tmp 26) = .int .u8 fl := hd 9 _ _ rfl rfl rfl
      exact ⟨_, x_bin .and 5 5 (.tmp 26) (.const (.int .u8 4)) rfl d9 rfl (grda _ _ _ _ _) (run_and5 _ _ _ rfl _), rfl⟩
    · refine opS_same rfl rfl fun L ac w1 hJ hl hc ho hd => ?_
      have d10 : ac.eval (.tmp 27) = .int .u8 (bits .and .u8 fl 4) := hd 10 _ _ rfl rfl rfl
      exact ⟨_, x_bin .neq 5 5 (.tmp 27) (.const (.int .u8 0)) rfl d10 rfl (grd5 _ _ _ _ _) (run_neq5 _ _ _ rfl _), rfl⟩
    · refine opS_same rfl rfl fun L ac w1 hJ hl hc ho hd => ?_
      have s5 : ac.eval (.tmp 5) = .pointer (some ⟨hb, 0, none⟩) := ho 5 rfl
      exact ⟨_, x_field 50 (.tmp 5) 3 rfl s5 (fld503 _ _ _), rfl⟩
    · refine opS_write (j := 0) rfl rfl (by decide) rfl (fun y hy h0 => absurd h0 (by omega)) fun ac w1 hW ho hd => ?_
      have d12 : ac.eval (.tmp 29) = .pointer (some ⟨hb, 3, none⟩) := hd 12 _ _ rfl rfl rfl
      have d3 : ac.eval (.tmp 20) = .bool (flB fl 2) := hd 3 _ _ rfl rfl rfl
      exact ⟨_, x_store 4 (.tmp 29) (.tmp 20) rfl d12 d3 (run_store1 sz4 hW.2 (j := 3) (by simp) rfl rfl), ⟨hW.1.trans (setCell_out _ _ _ _) (Sub.refl _ _), (setCell_at _ hW.2).trans rfl⟩, fun _ => trivial, fun j x hx => facts_free HF j x hx⟩
    · refine opS_same rfl rfl fun L ac w1 hJ hl hc ho hd => ?_
      have s5 : ac.eval (.tmp 5) = .pointer (some ⟨hb, 0, none⟩) := ho 5 rfl
      exact ⟨_, x_field 50 (.tmp 5) 4 rfl s5 (fld504 _ _ _), rfl⟩
    · refine opS_write (j := 1) rfl rfl (by decide) rfl (fun y hy _ => by cases hy; rfl) fun ac w1 hW ho hd => ?_
      have d14 : ac.eval (.tmp 30) = .pointer (some ⟨hb, 4, none⟩) := hd 14 _ _ rfl rfl rfl
      have d7 : ac.eval (.tmp 24) = .bool (flB fl 1) := hd 7 _ _ rfl rfl rfl
      exact ⟨_, x_store 4 (.tmp 30) (.tmp 24) rfl d14 d7 (run_store1 sz4 hW.2 (j := 4) (by simp) rfl rfl), ⟨hW.1.trans (setCell_out _ _ _ _) (Sub.refl _ _), (setCell_at _ hW.2).trans rfl⟩, fun _ => trivial, fun j x hx => facts_free HF j x hx⟩
    · refine opS_same rfl rfl fun L ac w1 hJ hl hc ho hd => ?_
      have s5 : ac.eval (.tmp 5) = .pointer (some ⟨hb, 0, none⟩) := ho 5 rfl
      exact ⟨_, x_field 50 (.tmp 5) 5 rfl s5 (fld505 _ _ _), rfl⟩
    · refine opS_write (j := 2) rfl rfl (by decide) rfl (fun y hy _ => by cases hy; rfl) fun ac w1 hW ho hd => ?_
      have d16 : ac.eval (.tmp 31) = .pointer (some ⟨hb, 5, none⟩) := hd 16 _ _ rfl rfl rfl
      have d11 : ac.eval (.tmp 28) = .bool (flB fl 4) := hd 11 _ _ rfl rfl rfl
      exact ⟨_, x_store 4 (.tmp 31) (.tmp 28) rfl d16 d11 (run_store1 sz4 hW.2 (j := 5) (by simp) rfl rfl), ⟨hW.1.trans (setCell_out _ _ _ _) (Sub.refl _ _), (setCell_at _ hW.2).trans rfl⟩, fun _ => trivial, fun j x hx => facts_free HF j x hx⟩
  · intro L a1 w9 hI hall
    obtain ⟨k, hk, hW⟩ := hI.done hall (by simp)
    obtain ⟨k, rfl⟩ : ∃ q, k = q + 3 := ⟨k - 3, by simp at hk; omega⟩
    have hZ : Out (fun j => j = hb) x4 w9 ∧ w9.heap[hb]? = some (.cells #[.int .u32 t1, .int .u16 t2, .int .u16 t3, .bool (flB fl 2), .bool (flB fl 1), .bool (flB fl 4), .slice none 0 0] 50 (0, 0)) := hW
    have GB := Lib.hid ((GA.out.tail.side hZ.1 HBG.out (mem2 (fun e => HBQ.out.1 e.symm) (fun e => HBQ.out.2 e.symm))).cons (p := (hb, .cells #[.int .u32 t1, .int .u16 t2, .int .u16 t3, .bool (flB fl 2), .bool (flB fl 1), .bool (flB fl 4), .slice none 0 0] 50)) hZ.2 (fun e => by have := HBG.out; simp only at e; omega))
    clear hk hW k HF hH9 hB9 hZ GA
    have l0 : a1.tmps.getD 0 undef = chV 0 fl (.slice A m c) := hI.old 0 rfl
    have l1 : a1.tmps.getD 1 undef = .pointer (some ⟨w.heap.size, 0, none⟩) := hI.old 1 rfl
    have l2 : a1.tmps.getD 2 undef = .pointer (some ⟨w.heap.size + 1, 0, none⟩) := hI.old 2 rfl
    have l4 : a1.tmps.getD 4 undef = .pointer (some ⟨g, 0, none⟩) := hI.old 4 rfl
    have l5 : a1.tmps.getD 5 undef = .pointer (some ⟨hb, 0, none⟩) := hI.old 5 rfl
    have hde : a1.defers = [] := hI.defers
    have hal := act_lit a1 54 hI.size
    clear hI
    simp only [List.range, List.range.loop, List.map_cons, List.map_nil] at hal
    rw [l0, l1, l2, l4, l5, hde] at hal
    generalize a1.tmps.getD 3 undef = tm3 at hal
    generalize a1.tmps.getD 6 undef = tm6 at hal
    generalize a1.tmps.getD 7 undef = tm7 at hal
    generalize a1.tmps.getD 8 undef = tm8 at hal
    generalize a1.tmps.getD 9 undef = tm9 at hal
    generalize a1.tmps.getD 10 undef = tm10 at hal
    generalize a1.tmps.getD 11 undef = tm11 at hal
    generalize a1.tmps.getD 12 undef = tm12 at hal
    generalize a1.tmps.getD 13 undef = tm13 at hal
    generalize a1.tmps.getD 14 undef = tm14 at hal
    generalize a1.tmps.getD 15 undef = tm15 at hal
    generalize a1.tmps.getD 16 undef = tm16 at hal
    generalize a1.tmps.getD 17 undef = tm17 at hal
    generalize a1.tmps.getD 18 undef = tm18 at hal
    generalize a1.tmps.getD 19 undef = tm19 at hal
    generalize a1.tmps.getD 20 undef = tm20 at hal
    generalize a1.tmps.getD 21 undef = tm21 at hal
    generalize a1.tmps.getD 22 undef = tm22 at hal
    generalize a1.tmps.getD 23 undef = tm23 at hal
    generalize a1.tmps.getD 24 undef = tm24 at hal
    generalize a1.tmps.getD 25 undef = tm25 at hal
    generalize a1.tmps.getD 26 undef = tm26 at hal
    generalize a1.tmps.getD 27 undef = tm27 at hal
    generalize a1.tmps.getD 28 undef = tm28 at hal
    generalize a1.tmps.getD 29 undef = tm29 at hal
    generalize a1.tmps.getD 30 undef = tm30 at hal
    generalize a1.tmps.getD 31 undef = tm31 at hal
    generalize a1.tmps.getD 32 undef = tm32 at hal
    generalize a1.tmps.getD 33 undef = tm33 at hal
    generalize a1.tmps.getD 34 undef = tm34 at hal
    generalize a1.tmps.getD 35 undef = tm35 at hal
    generalize a1.tmps.getD 36 undef = tm36 at hal
    generalize a1.tmps.getD 37 undef = tm37 at hal
    generalize a1.tmps.getD 38 undef = tm38 at hal
    generalize a1.tmps.getD 39 undef = tm39 at hal
    generalize a1.tmps.getD 40 undef = tm40 at hal
    generalize a1.tmps.getD 41 undef = tm41 at hal
    generalize a1.tmps.getD 42 undef = tm42 at hal
    generalize a1.tmps.getD 43 undef = tm43 at hal
    generalize a1.tmps.getD 44 undef = tm44 at hal
    generalize a1.tmps.getD 45 undef = tm45 at hal
    generalize a1.tmps.getD 46 undef = tm46 at hal
    generalize a1.tmps.getD 47 undef = tm47 at hal
    generalize a1.tmps.getD 48 undef = tm48 at hal
    generalize a1.tmps.getD 49 undef = tm49 at hal
    generalize a1.tmps.getD 50 undef = tm50 at hal
    generalize a1.tmps.getD 51 undef = tm51 at hal
    generalize a1.tmps.getD 52 undef = tm52 at hal
    generalize a1.tmps.getD 53 undef = tm53 at hal
    clear l0 l1 l2 l4 l5 hde
    subst hal
    go_wp2_with fail
    refine (rfour w9 GB.out.isR).mono ?_
    rintro e x5 ⟨t4, r4, rfl, s4, b4, i1, o1⟩
    have GC := Lib.hid (GB.out.step i1 o1)
    clear i1 o1 GB
    go_wp2_with fail
    refine (rrequire (t4 == 46) x5 GC.out.isR).mono ?_
    rintro e x6 ⟨rfl, i1, o1⟩
    have GD := Lib.hid (GC.out.step i1 o1)
    clear i1 o1 GC
    go_wp2_with fail
    refine (rleft x6 GD.out.isR).mono ?_
    rintro e x7 ⟨k, rfl, hk, hu⟩
    have GE := Lib.hid (GD.out.next hu.out)
    clear hu GD
    go_wp2_with fail
    refine (rbytes k x7 GE.out.isR).mono ?_
    rintro e x8 ⟨A9, N9, c9, rfl, hN9, hO9, i1, o1⟩
    have GF := Lib.hid (GE.out.step i1 o1)
    have hlts := Lib.hid (show w.heap.size + 1 < x7.heap.size ∧ hb < x7.heap.size ∧ w.heap.size ≤ x7.heap.size from ⟨lt_of_blk (GE.out.kept _ (List.mem_cons_of_mem _ (List.mem_cons_of_mem _ List.mem_cons_self))).1, lt_of_blk (GE.out.kept _ List.mem_cons_self).1, GE.out.up.size⟩)
    have HB9 := Lib.hid (show Byt (rdB xs k (reqR (t4 == 46) r4)) from byt_rdB HI.out.byt)
    obtain ⟨bs, hbs⟩ : ∃ bs, bs = rdB xs k (reqR (t4 == 46) r4) := ⟨_, rfl⟩
    rw [← hbs] at hN9 hO9 HB9
    have HBS := Lib.hid hbs
    have HCH := Lib.hid (toP_ok HI.out.byt s1.out s2.out s3.out s4.out hk.out hbs (fl := fl))
    have HAT := Lib.hid (show (rdN xs k (reqR (t4 == 46) r4)).at_ = xs.length by unfold rdN; rw [if_pos (by have := hk.out; omega)]; exact hk.out)
    generalize rdN xs k (reqR (t4 == 46) r4) = rF at GF HCH HAT
    clear i1 o1 GE hbs
    have hh0 := (GF.out.kept _ List.mem_cons_self).1
    simp only at hh0
    have z6 := cell_of hh0 (j := 6) rfl
    have y6 := frozen_at (j := 6) hh0
    have hst := setCell_out x8 hb 6 (.slice A9 N9 c9)
    have hh := setCell_at (j := 6) (.slice A9 N9 c9) hh0
    have GG := Lib.hid (GF.out.tail.side hst HBG.out (mem2 (fun e => HBQ.out.1 e.symm) (fun e => HBQ.out.2 e.symm)))
    have HZ9 := Lib.hid (show OwnI .u8 5 x7.heap.size (x8.setCell ⟨hb, 6, none⟩ (.slice A9 N9 c9)) A9 N9 c9 bs from hst.own hO9.out (fun q hq e => by
      have := (row_lt hO9.out (by rwa [ownBlock_slice] at hq)).1
      have := hlts.out.2.1
      have e1 : q = hb := e
      omega))
    clear hh0
    go_upto_region 8 with (fail)
    clear z6 y6
    generalize (x8.setCell ⟨hb, 6, none⟩ (.slice A9 N9 c9)) = y0 at hh GG HZ9 hst ⊢
    clear hst GF hO9
    obtain ⟨pp, hpp⟩ : ∃ pp : Ck.Pc, pp = ⟨t1, t2, t3, flB fl 2, flB fl 1, flB fl 4, bs⟩ := ⟨_, rfl⟩
    have HHB := Lib.hid (show y0.heap[hb]? = some (.cells #[.int .u32 pp.tsn, .int .u16 pp.str, .int .u16 pp.seq, .bool pp.bg, .bool pp.en, .bool pp.un, .slice A9 N9 c9] 50 (0, 0)) by rw [hpp]; exact hh)
    rw [← hpp] at HCH
    have HNB := Lib.hid (show N9 = pp.bs.length by rw [hpp]; exact hN9.out)
    have HZP := Lib.hid (show OwnI .u8 5 x7.heap.size y0 A9 N9 c9 pp.bs by rw [hpp]; exact HZ9.out)
    have HBP := Lib.hid (show Byt pp.bs by rw [hpp]; exact HB9.out)
    have HOP := Lib.hid (show Ck.PcOk pp by
      have p4 : (256 : Int) ^ 4 = 4294967296 := by decide
      have p2 : (256 : Int) ^ 2 = 65536 := by decide
      rw [hpp]; exact ⟨⟨s1.out.lo, p4 ▸ s1.out.hi⟩, ⟨s2.out.lo, p2 ▸ s2.out.hi⟩, ⟨s3.out.lo, p2 ▸ s3.out.hi⟩⟩)
    clear hpp hh hN9 HZ9 HB9 HBS s1 s2 s3 s4 b1 b2 b3 b4 hk
    by_cases he : rF.e = 0
    · have HWB := Lib.hid (show true = true ↔ rF.e = 0 ∧ rF.at_ = xs.length from ⟨fun _ => ⟨he, HAT.out⟩, fun _ => rfl⟩)
      by_cases hf : Ck.flg pp = fl
      · have HFL := Lib.hid (show (Ck.flg pp != fl) = false by simp [hf])
        by_cases hc : Ck.chkP pp = 0
        · have HCK := Lib.hid (show (Ck.chkP pp != 0) = false by simp [hc])
          have HOK := Lib.hid (HCH.out.1 he hf hc)
          clear he hf hc
          have HK : ∀ φ ∈ [Is (.bool true), Is (.bool false), Is (.bool false), Is (pcV pp (.slice A9 N9 c9)), Is (.int .u8 (Ck.flg pp)), Is (.pointer (some ⟨w.heap.size, 1, none⟩)), Is (.int .u8 fl), Is (.bool false), Is (.bool false), Is (.bool false), Is (pcV pp (.slice A9 N9 c9)), Is (.int .i64 (Ck.chkP pp)), Is (.bool false), Is (.bool false)], Keeps φ := by
            intro φ hφ
            simp only [List.mem_cons, List.mem_nil_iff, or_false] at hφ
            rcases hφ with rfl | rfl | rfl | rfl | rfl | rfl | rfl | rfl | rfl | rfl | rfl | rfl | rfl | rfl <;> first | exact keeps_is _ | exact fun _ _ _ _ _ => trivial
          refine staged_lit (by kernel_rfl) (facts [Is (.bool true), Is (.bool false), Is (.bool false), Is (pcV pp (.slice A9 N9 c9)), Is (.int .u8 (Ck.flg pp)), Is (.pointer (some ⟨w.heap.size, 1, none⟩)), Is (.int .u8 fl), Is (.bool false), Is (.bool false), Is (.bool false), Is (pcV pp (.slice A9 N9 c9)), Is (.int .i64 (Ck.chkP pp)), Is (.bool false), Is (.bool false)]) (Stg [] (fun _ wx => Up y0 wx)) 54 rfl (by decide +kernel) (by decide +kernel) (Stg.start (Up.drew y0)) ?_ ?_
          · refine ⟨?_, ?_, ?_, ?_, ?_, ?_, ?_, ?_, ?_, ?_, ?_, ?_, ?_, ?_, trivial⟩
            · refine opS_callUp rfl rfl (fun k wa wb h hu => Up.trans h hu) (facts_keep HK) fun L ac w1 hJ hl hc ho hd => ?_
              have s4 : ac.eval (.tmp 4) = .pointer (some ⟨g, 0, none⟩) := ho 4 rfl
              obtain ⟨_, _, hU⟩ := hJ
              refine ⟨50, _, x_fcall 50 [.tmp 4] _ rfl (by kernel_rfl), ?_⟩
              simp only [List.map_cons, List.map_nil, s4]
              exact (rwhole_d true w1 (GG.out.next hU).isR HWB.out).mono fun e w2 ⟨he, hu⟩ => ⟨_, he, hu, rfl⟩
            · refine opS_same rfl rfl fun L ac w1 hJ hl hc ho hd => ?_
              have d0 : ac.eval (.tmp 38) = .bool true := hd 0 _ _ rfl rfl rfl
              exact ⟨_, x_not 4 (.tmp 38) rfl d0, rfl⟩
            · refine opS_same rfl rfl fun L ac w1 hJ hl hc ho hd => ?_
              have d1 : ac.eval (.tmp 39) = .bool false := hd 1 _ _ rfl rfl rfl
              exact ⟨_, x_move (.tmp 39) rfl d1, rfl⟩
            · refine opS_sameG 2 false _ _ rfl rfl rfl rfl (fun _ _ h => h) rfl fun L ac w1 hJ hl hc ho hd => ?_
              have s5 : ac.eval (.tmp 5) = .pointer (some ⟨hb, 0, none⟩) := ho 5 rfl
              obtain ⟨_, _, hU⟩ := hJ
              exact ⟨_, x_load 50 (.tmp 5) rfl s5 (run_loadRow (cs := #[.int .u32 pp.tsn, .int .u16 pp.str, .int .u16 pp.seq, .bool pp.bg, .bool pp.en, .bool pp.un, .slice A9 N9 c9]) ((hU.block _ (lt_of_blk HHB.out)).trans HHB.out) Try.underlying50 rfl rfl), rfl⟩
            · refine opS_callUpG 2 false _ _ rfl rfl rfl rfl (fun _ _ h => h) rfl (fun k wa wb h hu => Up.trans h hu) (facts_keep HK) fun L ac w1 hJ hl hc ho hd => ?_
              have d3 : ac.eval (.tmp 41) = pcV pp (.slice A9 N9 c9) := hd 3 _ _ rfl rfl rfl
              refine ⟨53, _, x_fcall 53 [.tmp 41] _ rfl (by kernel_rfl), ?_⟩
              simp only [List.map_cons, List.map_nil, d3]
              exact (flg_any pp A9 N9 c9 w1).mono fun e w2 ⟨he, hu⟩ => ⟨_, he, hu.out, rfl⟩
            · refine opS_sameG 2 false _ _ rfl rfl rfl rfl (fun _ _ h => h) rfl fun L ac w1 hJ hl hc ho hd => ?_
              have s1 : ac.eval (.tmp 1) = .pointer (some ⟨w.heap.size, 0, none⟩) := ho 1 rfl
              exact ⟨_, x_field 41 (.tmp 1) 1 rfl s1 (fld411 _ _ _), rfl⟩
            · refine opS_sameG 2 false _ _ rfl rfl rfl rfl (fun _ _ h => h) rfl fun L ac w1 hJ hl hc ho hd => ?_
              have d5 : ac.eval (.tmp 43) = .pointer (some ⟨w.heap.size, 1, none⟩) := hd 5 _ _ rfl rfl rfl
              obtain ⟨_, _, hU⟩ := hJ
              exact ⟨_, x_load 5 (.tmp 43) rfl d5 (run_load1 agg5 (cell_of ((GG.out.next hU).kept _ List.mem_cons_self).1 (j := 1) rfl)), rfl⟩
            · refine opS_sameG 2 false _ _ rfl rfl rfl rfl (fun _ _ h => h) rfl fun L ac w1 hJ hl hc ho hd => ?_
              have d4 : ac.eval (.tmp 42) = .int .u8 (Ck.flg pp) := hd 4 _ _ rfl rfl rfl
              have d6 : ac.eval (.tmp 44) = .int .u8 fl := hd 6 _ _ rfl rfl rfl
              exact ⟨_, x_bin .neq 5 5 (.tmp 42) (.tmp 44) rfl d4 d6 (grd5 _ _ _ _ _) (run_neq5 _ _ _ HFL.out _), rfl⟩
            · refine opS_same rfl rfl fun L ac w1 hJ hl hc ho hd => ?_
              have d2 : ac.eval (.tmp 40) = .bool false := hd 2 _ _ rfl rfl rfl
              have d7 : ac.eval (.tmp 45) = .bool false := hd 7 _ _ rfl rfl rfl
              exact ⟨_, x_pick (.tmp 40) (.const (.bool true)) (.tmp 45) (X := .bool true) rfl d2 (fun h => by cases h) (fun _ => d7), rfl⟩
            · refine opS_same rfl rfl fun L ac w1 hJ hl hc ho hd => ?_
              have d8 : ac.eval (.tmp 46) = .bool false := hd 8 _ _ rfl rfl rfl
              exact ⟨_, x_move (.tmp 46) rfl d8, rfl⟩
            · refine opS_sameG 9 false _ _ rfl rfl rfl rfl (fun _ _ h => h) rfl fun L ac w1 hJ hl hc ho hd => ?_
              have s5 : ac.eval (.tmp 5) = .pointer (some ⟨hb, 0, none⟩) := ho 5 rfl
              obtain ⟨_, _, hU⟩ := hJ
              exact ⟨_, x_load 50 (.tmp 5) rfl s5 (run_loadRow (cs := #[.int .u32 pp.tsn, .int .u16 pp.str, .int .u16 pp.seq, .bool pp.bg, .bool pp.en, .bool pp.un, .slice A9 N9 c9]) ((hU.block _ (lt_of_blk HHB.out)).trans HHB.out) Try.underlying50 rfl rfl), rfl⟩
            · refine opS_callUpG 9 false _ _ rfl rfl rfl rfl (fun _ _ h => h) rfl (fun k wa wb h hu => Up.trans h hu) (facts_keep HK) fun L ac w1 hJ hl hc ho hd => ?_
              have d10 : ac.eval (.tmp 48) = pcV pp (.slice A9 N9 c9) := hd 10 _ _ rfl rfl rfl
              refine ⟨51, _, x_fcall 51 [.tmp 48] _ rfl (by kernel_rfl), ?_⟩
              simp only [List.map_cons, List.map_nil, d10]
              exact (chkP_any pp A9 N9 c9 w1 HNB.out).mono fun e w2 ⟨he, hu⟩ => ⟨_, he, hu.out, rfl⟩
            · refine opS_sameG 9 false _ _ rfl rfl rfl rfl (fun _ _ h => h) rfl fun L ac w1 hJ hl hc ho hd => ?_
              have d11 : ac.eval (.tmp 49) = .int .i64 (Ck.chkP pp) := hd 11 _ _ rfl rfl rfl
              exact ⟨_, x_bin .neq 24 24 (.tmp 49) (.const (.int .i64 0)) rfl d11 rfl (grd24 _ _ _ _ _) (run_neq24 _ _ _ HCK.out _), rfl⟩
            · refine opS_same rfl rfl fun L ac w1 hJ hl hc ho hd => ?_
              have d9 : ac.eval (.tmp 47) = .bool false := hd 9 _ _ rfl rfl rfl
              have d12 : ac.eval (.tmp 50) = .bool false := hd 12 _ _ rfl rfl rfl
              exact ⟨_, x_pick (.tmp 47) (.const (.bool true)) (.tmp 50) (X := .bool true) rfl d9 (fun h => by cases h) (fun _ => d12), rfl⟩
          · intro L a1 y1 hI hall
            obtain ⟨k, hk, hU⟩ := hI.done hall (by simp)
            have GH := Lib.hid (GG.out.next hU)
            have HU9 := Lib.hid hU
            have hq := Lib.hid (GH.out.kept _ (List.mem_cons_of_mem _ List.mem_cons_self)).1
            clear hk hU k HK
            have l0 : a1.tmps.getD 0 undef = chV 0 fl (.slice A m c) := hI.old 0 rfl
            have l1 : a1.tmps.getD 1 undef = .pointer (some ⟨w.heap.size, 0, none⟩) := hI.old 1 rfl
            have l2 : a1.tmps.getD 2 undef = .pointer (some ⟨w.heap.size + 1, 0, none⟩) := hI.old 2 rfl
            have l4 : a1.tmps.getD 4 undef = .pointer (some ⟨g, 0, none⟩) := hI.old 4 rfl
            have l5 : a1.tmps.getD 5 undef = .pointer (some ⟨hb, 0, none⟩) := hI.old 5 rfl
            have l51 : a1.tmps.getD 51 undef = .bool false := hI.get hall (i := 13) rfl rfl
            have hde : a1.defers = [] := hI.defers
            have hal := act_lit a1 54 hI.size
            clear hI
            simp only [List.range, List.range.loop, List.map_cons, List.map_nil] at hal
            rw [l0, l1, l2, l4, l5, l51, hde] at hal
            generalize a1.tmps.getD 3 undef = tm3 at hal
            generalize a1.tmps.getD 6 undef = tm6 at hal
            generalize a1.tmps.getD 7 undef = tm7 at hal
            generalize a1.tmps.getD 8 undef = tm8 at hal
            generalize a1.tmps.getD 9 undef = tm9 at hal
            generalize a1.tmps.getD 10 undef = tm10 at hal
            generalize a1.tmps.getD 11 undef = tm11 at hal
            generalize a1.tmps.getD 12 undef = tm12 at hal
            generalize a1.tmps.getD 13 undef = tm13 at hal
            generalize a1.tmps.getD 14 undef = tm14 at hal
            generalize a1.tmps.getD 15 undef = tm15 at hal
            generalize a1.tmps.getD 16 undef = tm16 at hal
            generalize a1.tmps.getD 17 undef = tm17 at hal
            generalize a1.tmps.getD 18 undef = tm18 at hal
            generalize a1.tmps.getD 19 undef = tm19 at hal
            generalize a1.tmps.getD 20 undef = tm20 at hal
            generalize a1.tmps.getD 21 undef = tm21 at hal
            generalize a1.tmps.getD 22 undef = tm22 at hal
            generalize a1.tmps.getD 23 undef = tm23 at hal
            generalize a1.tmps.getD 24 undef = tm24 at hal
            generalize a1.tmps.getD 25 undef = tm25 at hal
            generalize a1.tmps.getD 26 undef = tm26 at hal
            generalize a1.tmps.getD 27 undef = tm27 at hal
            generalize a1.tmps.getD 28 undef = tm28 at hal
            generalize a1.tmps.getD 29 undef = tm29 at hal
            generalize a1.tmps.getD 30 undef = tm30 at hal
            generalize a1.tmps.getD 31 undef = tm31 at hal
            generalize a1.tmps.getD 32 undef = tm32 at hal
            generalize a1.tmps.getD 33 undef = tm33 at hal
            generalize a1.tmps.getD 34 undef = tm34 at hal
            generalize a1.tmps.getD 35 undef = tm35 at hal
            generalize a1.tmps.getD 36 undef = tm36 at hal
            generalize a1.tmps.getD 37 undef = tm37 at hal
            generalize a1.tmps.getD 38 undef = tm38 at hal
            generalize a1.tmps.getD 39 undef = tm39 at hal
            generalize a1.tmps.getD 40 undef = tm40 at hal
            generalize a1.tmps.getD 41 undef = tm41 at hal
            generalize a1.tmps.getD 42 undef = tm42 at hal
            generalize a1.tmps.getD 43 undef = tm43 at hal
            generalize a1.tmps.getD 44 undef = tm44 at hal
            generalize a1.tmps.getD 45 undef = tm45 at hal
            generalize a1.tmps.getD 46 undef = tm46 at hal
            generalize a1.tmps.getD 47 undef = tm47 at hal
            generalize a1.tmps.getD 48 undef = tm48 at hal
            generalize a1.tmps.getD 49 undef = tm49 at hal
            generalize a1.tmps.getD 50 undef = tm50 at hal
            generalize a1.tmps.getD 52 undef = tm52 at hal
            generalize a1.tmps.getD 53 undef = tm53 at hal
            clear l0 l1 l2 l4 l5 l51 hde
            subst hal
            have e0 := cell_of hq.out (j := 0) rfl
            have f0 := frozen_at (j := 0) hq.out
            have e1 := cell_of hq.out (j := 1) rfl
            have f1 := frozen_at (j := 1) hq.out
            have e2 := cell_of hq.out (j := 2) rfl
            have f2 := frozen_at (j := 2) hq.out
            have e3 := cell_of hq.out (j := 3) rfl
            have f3 := frozen_at (j := 3) hq.out
            have e4 := cell_of hq.out (j := 4) rfl
            have f4 := frozen_at (j := 4) hq.out
            have e5 := cell_of hq.out (j := 5) rfl
            have f5 := frozen_at (j := 5) hq.out
            have e6 := cell_of hq.out (j := 6) rfl
            have f6 := frozen_at (j := 6) hq.out
            have hh := (HU9.out.block _ (lt_of_blk HHB.out)).trans HHB.out
            have m0 := cell_of hh (j := 0) rfl
            have m1 := cell_of hh (j := 1) rfl
            have m2 := cell_of hh (j := 2) rfl
            have m3 := cell_of hh (j := 3) rfl
            have m4 := cell_of hh (j := 4) rfl
            have m5 := cell_of hh (j := 5) rfl
            have m6 := cell_of hh (j := 6) rfl
            clear hh
            go_wp2_with fail
            have hs := set7 (a := .int .u32 pp.tsn) (b := .int .u16 pp.str) (c := .int .u16 pp.seq) (d := .bool pp.bg) (e := .bool pp.en) (f := .bool pp.un) (g := .slice A9 N9 c9) hq.out rfl
            refine bodyPost_ret (results_row_tmp (fn := Try.f25) (p := 2) (u := 3) (ty := 50) rfl _ _ (w.heap.size + 1) 50 _ (0, 0) _ rfl hs.1 Try.underlying50 rfl rfl) rfl ⟨pp, 0, A9, N9, c9, rfl, Lib.hid (.inl ⟨rfl, HOK.out⟩), HNB, Lib.hid ?_, HBP, HOP, Lib.hid (Below.out GH.out.up hs.2 (fun k hk => by rw [hk]; omega) GH.out.up.size)⟩
            refine (show OwnI .u8 5 x7.heap.size _ A9 N9 c9 pp.bs from hs.2.own (own_up HZP.out HU9.out) (fun q hq9 e => ?_)).base hlts.out.2.2
            have h1 := (row_lt HZP.out (by rwa [ownBlock_slice] at hq9)).1
            have h2 := hlts.out.1
            have e1 : q = w.heap.size + 1 := e
            omega
        · have HCK := Lib.hid (show (Ck.chkP pp != 0) = true by simp [hc])
          have HNO := Lib.hid (show ∀ p', ¬ PieceOK 0 fl xs p' from fun p' hp => hc (HCH.out.2 p' hp).2.2)
          clear he hf hc
          have HK : ∀ φ ∈ [Is (.bool true), Is (.bool false), Is (.bool false), Is (pcV pp (.slice A9 N9 c9)), Is (.int .u8 (Ck.flg pp)), Is (.pointer (some ⟨w.heap.size, 1, none⟩)), Is (.int .u8 fl), Is (.bool false), Is (.bool false), Is (.bool false), Is (pcV pp (.slice A9 N9 c9)), Is (.int .i64 (Ck.chkP pp)), Is (.bool true), Is (.bool true)], Keeps φ := by
            intro φ hφ
            simp only [List.mem_cons, List.mem_nil_iff, or_false] at hφ
            rcases hφ with rfl | rfl | rfl | rfl | rfl | rfl | rfl | rfl | rfl | rfl | rfl | rfl | rfl | rfl <;> first | exact keeps_is _ | exact fun _ _ _ _ _ => trivial
          refine staged_lit (by kernel_rfl) (facts [Is (.bool true), Is (.bool false), Is (.bool false), Is (pcV pp (.slice A9 N9 c9)), Is (.int .u8 (Ck.flg pp)), Is (.pointer (some ⟨w.heap.size, 1, none⟩)), Is (.int .u8 fl), Is (.bool false), Is (.bool false), Is (.bool false), Is (pcV pp (.slice A9 N9 c9)), Is (.int .i64 (Ck.chkP pp)), Is (.bool true), Is (.bool true)]) (Stg [] (fun _ wx => Up y0 wx)) 54 rfl (by decide +kernel) (by decide +kernel) (Stg.start (Up.drew y0)) ?_ ?_
          · refine ⟨?_, ?_, ?_, ?_, ?_, ?_, ?_, ?_, ?_, ?_, ?_, ?_, ?_, ?_, trivial⟩
            · refine opS_callUp rfl rfl (fun k wa wb h hu => Up.trans h hu) (facts_keep HK) fun L ac w1 hJ hl hc ho hd => ?_
              have s4 : ac.eval (.tmp 4) = .pointer (some ⟨g, 0, none⟩) := ho 4 rfl
              obtain ⟨_, _, hU⟩ := hJ
              refine ⟨50, _, x_fcall 50 [.tmp 4] _ rfl (by kernel_rfl), ?_⟩
              simp only [List.map_cons, List.map_nil, s4]
              exact (rwhole_d true w1 (GG.out.next hU).isR HWB.out).mono fun e w2 ⟨he, hu⟩ => ⟨_, he, hu, rfl⟩
            · refine opS_same rfl rfl fun L ac w1 hJ hl hc ho hd => ?_
              have d0 : ac.eval (.tmp 38) = .bool true := hd 0 _ _ rfl rfl rfl
              exact ⟨_, x_not 4 (.tmp 38) rfl d0, rfl⟩
            · refine opS_same rfl rfl fun L ac w1 hJ hl hc ho hd => ?_
              have d1 : ac.eval (.tmp 39) = .bool false := hd 1 _ _ rfl rfl rfl
              exact ⟨_, x_move (.tmp 39) rfl d1, rfl⟩
            · refine opS_sameG 2 false _ _ rfl rfl rfl rfl (fun _ _ h => h) rfl fun L ac w1 hJ hl hc ho hd => ?_
              have s5 : ac.eval (.tmp 5) = .pointer (some ⟨hb, 0, none⟩) := ho 5 rfl
              obtain ⟨_, _, hU⟩ := hJ
              exact ⟨_, x_load 50 (.tmp 5) rfl s5 (run_loadRow (cs := #[.int .u32 pp.tsn, .int .u16 pp.str, .int .u16 pp.seq, .bool pp.bg, .bool pp.en, .bool pp.un, .slice A9 N9 c9]) ((hU.block _ (lt_of_blk HHB.out)).trans HHB.out) Try.underlying50 rfl rfl), rfl⟩
            · refine opS_callUpG 2 false _ _ rfl rfl rfl rfl (fun _ _ h => h) rfl (fun k wa wb h hu => Up.trans h hu) (facts_keep HK) fun L ac w1 hJ hl hc ho hd => ?_
              have d3 : ac.eval (.tmp 41) = pcV pp (.slice A9 N9 c9) := hd 3 _ _ rfl rfl rfl
              refine ⟨53, _, x_fcall 53 [.tmp 41] _ rfl (by kernel_rfl), ?_⟩
              simp only [List.map_cons, List.map_nil, d3]
              exact (flg_any pp A9 N9 c9 w1).mono fun e w2 ⟨he, hu⟩ => ⟨_, he, hu.out, rfl⟩
            · refine opS_sameG 2 false _ _ rfl rfl rfl rfl (fun _ _ h => h) rfl fun L ac w1 hJ hl hc ho hd => ?_
              have s1 : ac.eval (.tmp 1) = .pointer (some ⟨w.heap.size, 0, none⟩) := ho 1 rfl
              exact ⟨_, x_field 41 (.tmp 1) 1 rfl s1 (fld411 _ _ _), rfl⟩
            · refine opS_sameG 2 false _ _ rfl rfl rfl rfl (fun _ _ h => h) rfl fun L ac w1 hJ hl hc ho hd => ?_
              have d5 : ac.eval (.tmp 43) = .pointer (some ⟨w.heap.size, 1, none⟩) := hd 5 _ _ rfl rfl rfl
              obtain ⟨_, _, hU⟩ := hJ
              exact ⟨_, x_load 5 (.tmp 43) rfl d5 (run_load1 agg5 (cell_of ((GG.out.next hU).kept _ List.mem_cons_self).1 (j := 1) rfl)), rfl⟩
            · refine opS_sameG 2 false _ _ rfl rfl rfl rfl (fun _ _ h => h) rfl fun L ac w1 hJ hl hc ho hd => ?_
              have d4 : ac.eval (.tmp 42) = .int .u8 (Ck.flg pp) := hd 4 _ _ rfl rfl rfl
              have d6 : ac.eval (.tmp 44) = .int .u8 fl := hd 6 _ _ rfl rfl rfl
              exact ⟨_, x_bin .neq 5 5 (.tmp 42) (.tmp 44) rfl d4 d6 (grd5 _ _ _ _ _) (run_neq5 _ _ _ HFL.out _), rfl⟩
            · refine opS_same rfl rfl fun L ac w1 hJ hl hc ho hd => ?_
              have d2 : ac.eval (.tmp 40) = .bool false := hd 2 _ _ rfl rfl rfl
              have d7 : ac.eval (.tmp 45) = .bool false := hd 7 _ _ rfl rfl rfl
              exact ⟨_, x_pick (.tmp 40) (.const (.bool true)) (.tmp 45) (X := .bool true) rfl d2 (fun h => by cases h) (fun _ => d7), rfl⟩
            · refine opS_same rfl rfl fun L ac w1 hJ hl hc ho hd => ?_
              have d8 : ac.eval (.tmp 46) = .bool false := hd 8 _ _ rfl rfl rfl
              exact ⟨_, x_move (.tmp 46) rfl d8, rfl⟩
            · refine opS_sameG 9 false _ _ rfl rfl rfl rfl (fun _ _ h => h) rfl fun L ac w1 hJ hl hc ho hd => ?_
              have s5 : ac.eval (.tmp 5) = .pointer (some ⟨hb, 0, none⟩) := ho 5 rfl
              obtain ⟨_, _, hU⟩ := hJ
              exact ⟨_, x_load 50 (.tmp 5) rfl s5 (run_loadRow (cs := #[.int .u32 pp.tsn, .int .u16 pp.str, .int .u16 pp.seq, .bool pp.bg, .bool pp.en, .bool pp.un, .slice A9 N9 c9]) ((hU.block _ (lt_of_blk HHB.out)).trans HHB.out) Try.underlying50 rfl rfl), rfl⟩
            · refine opS_callUpG 9 false _ _ rfl rfl rfl rfl (fun _ _ h => h) rfl (fun k wa wb h hu => Up.trans h hu) (facts_keep HK) fun L ac w1 hJ hl hc ho hd => ?_
              have d10 : ac.eval (.tmp 48) = pcV pp (.slice A9 N9 c9) := hd 10 _ _ rfl rfl rfl
              refine ⟨51, _, x_fcall 51 [.tmp 48] _ rfl (by kernel_rfl), ?_⟩
              simp only [List.map_cons, List.map_nil, d10]
              exact (chkP_any pp A9 N9 c9 w1 HNB.out).mono fun e w2 ⟨he, hu⟩ => ⟨_, he, hu.out, rfl⟩
            · refine opS_sameG 9 false _ _ rfl rfl rfl rfl (fun _ _ h => h) rfl fun L ac w1 hJ hl hc ho hd => ?_
              have d11 : ac.eval (.tmp 49) = .int .i64 (Ck.chkP pp) := hd 11 _ _ rfl rfl rfl
              exact ⟨_, x_bin .neq 24 24 (.tmp 49) (.const (.int .i64 0)) rfl d11 rfl (grd24 _ _ _ _ _) (run_neq24 _ _ _ HCK.out _), rfl⟩
            · refine opS_same rfl rfl fun L ac w1 hJ hl hc ho hd => ?_
              have d9 : ac.eval (.tmp 47) = .bool false := hd 9 _ _ rfl rfl rfl
              have d12 : ac.eval (.tmp 50) = .bool true := hd 12 _ _ rfl rfl rfl
              exact ⟨_, x_pick (.tmp 47) (.const (.bool true)) (.tmp 50) (X := .bool true) rfl d9 (fun h => by cases h) (fun _ => d12), rfl⟩
          · intro L a1 y1 hI hall
            obtain ⟨k, hk, hU⟩ := hI.done hall (by simp)
            have GH := Lib.hid (GG.out.next hU)
            have HU9 := Lib.hid hU
            have hq := Lib.hid (GH.out.kept _ (List.mem_cons_of_mem _ List.mem_cons_self)).1
            clear hk hU k HK
            have l0 : a1.tmps.getD 0 undef = chV 0 fl (.slice A m c) := hI.old 0 rfl
            have l1 : a1.tmps.getD 1 undef = .pointer (some ⟨w.heap.size, 0, none⟩) := hI.old 1 rfl
            have l2 : a1.tmps.getD 2 undef = .pointer (some ⟨w.heap.size + 1, 0, none⟩) := hI.old 2 rfl
            have l4 : a1.tmps.getD 4 undef = .pointer (some ⟨g, 0, none⟩) := hI.old 4 rfl
            have l5 : a1.tmps.getD 5 undef = .pointer (some ⟨hb, 0, none⟩) := hI.old 5 rfl
            have l51 : a1.tmps.getD 51 undef = .bool true := hI.get hall (i := 13) rfl rfl
            have hde : a1.defers = [] := hI.defers
            have hal := act_lit a1 54 hI.size
            clear hI
            simp only [List.range, List.range.loop, List.map_cons, List.map_nil] at hal
            rw [l0, l1, l2, l4, l5, l51, hde] at hal
            generalize a1.tmps.getD 3 undef = tm3 at hal
            generalize a1.tmps.getD 6 undef = tm6 at hal
            generalize a1.tmps.getD 7 undef = tm7 at hal
            generalize a1.tmps.getD 8 undef = tm8 at hal
            generalize a1.tmps.getD 9 undef = tm9 at hal
            generalize a1.tmps.getD 10 undef = tm10 at hal
            generalize a1.tmps.getD 11 undef = tm11 at hal
            generalize a1.tmps.getD 12 undef = tm12 at hal
            generalize a1.tmps.getD 13 undef = tm13 at hal
            generalize a1.tmps.getD 14 undef = tm14 at hal
            generalize a1.tmps.getD 15 undef = tm15 at hal
            generalize a1.tmps.getD 16 undef = tm16 at hal
            generalize a1.tmps.getD 17 undef = tm17 at hal
            generalize a1.tmps.getD 18 undef = tm18 at hal
            generalize a1.tmps.getD 19 undef = tm19 at hal
            generalize a1.tmps.getD 20 undef = tm20 at hal
            generalize a1.tmps.getD 21 undef = tm21 at hal
            generalize a1.tmps.getD 22 undef = tm22 at hal
            generalize a1.tmps.getD 23 undef = tm23 at hal
            generalize a1.tmps.getD 24 undef = tm24 at hal
            generalize a1.tmps.getD 25 undef = tm25 at hal
            generalize a1.tmps.getD 26 undef = tm26 at hal
            generalize a1.tmps.getD 27 undef = tm27 at hal
            generalize a1.tmps.getD 28 undef = tm28 at hal
            generalize a1.tmps.getD 29 undef = tm29 at hal
            generalize a1.tmps.getD 30 undef = tm30 at hal
            generalize a1.tmps.getD 31 undef = tm31 at hal
            generalize a1.tmps.getD 32 undef = tm32 at hal
            generalize a1.tmps.getD 33 undef = tm33 at hal
            generalize a1.tmps.getD 34 undef = tm34 at hal
            generalize a1.tmps.getD 35 undef = tm35 at hal
            generalize a1.tmps.getD 36 undef = tm36 at hal
            generalize a1.tmps.getD 37 undef = tm37 at hal
            generalize a1.tmps.getD 38 undef = tm38 at hal
            generalize a1.tmps.getD 39 undef = tm39 at hal
            generalize a1.tmps.getD 40 undef = tm40 at hal
            generalize a1.tmps.getD 41 undef = tm41 at hal
            generalize a1.tmps.getD 42 undef = tm42 at hal
            generalize a1.tmps.getD 43 undef = tm43 at hal
            generalize a1.tmps.getD 44 undef = tm44 at hal
            generalize a1.tmps.getD 45 undef = tm45 at hal
            generalize a1.tmps.getD 46 undef = tm46 at hal
            generalize a1.tmps.getD 47 undef = tm47 at hal
            generalize a1.tmps.getD 48 undef = tm48 at hal
            generalize a1.tmps.getD 49 undef = tm49 at hal
            generalize a1.tmps.getD 50 undef = tm50 at hal
            generalize a1.tmps.getD 52 undef = tm52 at hal
            generalize a1.tmps.getD 53 undef = tm53 at hal
            clear l0 l1 l2 l4 l5 l51 hde
            subst hal
            have e0 := cell_of hq.out (j := 0) rfl
            have f0 := frozen_at (j := 0) hq.out
            have e1 := cell_of hq.out (j := 1) rfl
            have f1 := frozen_at (j := 1) hq.out
            have e2 := cell_of hq.out (j := 2) rfl
            have f2 := frozen_at (j := 2) hq.out
            have e3 := cell_of hq.out (j := 3) rfl
            have f3 := frozen_at (j := 3) hq.out
            have e4 := cell_of hq.out (j := 4) rfl
            have f4 := frozen_at (j := 4) hq.out
            have e5 := cell_of hq.out (j := 5) rfl
            have f5 := frozen_at (j := 5) hq.out
            have e6 := cell_of hq.out (j := 6) rfl
            have f6 := frozen_at (j := 6) hq.out
            go_wp2_with fail
            have hs := set7 (a := .int .u32 0) (b := .int .u16 0) (c := .int .u16 0) (d := .bool false) (e := .bool false) (f := .bool false) (g := .slice none 0 0) hq.out rfl
            exact bodyPost_ret (results_row_tmp (fn := Try.f25) (p := 2) (u := 3) (ty := 50) rfl _ _ (w.heap.size + 1) 50 _ (0, 0) _ rfl hs.1 Try.underlying50 rfl rfl) rfl (PNo.post ⟨rfl, Lib.hid (Below.out GH.out.up hs.2 (fun k hk => by rw [hk]; omega) GH.out.up.size)⟩ HNO.out)
      · have HFL := Lib.hid (show (Ck.flg pp != fl) = true by simp [hf])
        have HNO := Lib.hid (show ∀ p', ¬ PieceOK 0 fl xs p' from fun p' hp => hf (HCH.out.2 p' hp).2.1)
        clear he hf
        have HK : ∀ φ ∈ [Is (.bool true), Is (.bool false), Is (.bool false), Is (pcV pp (.slice A9 N9 c9)), Is (.int .u8 (Ck.flg pp)), Is (.pointer (some ⟨w.heap.size, 1, none⟩)), Is (.int .u8 fl), Is (.bool true), Is (.bool true), Is (.bool true), Tru, Tru, Tru, Is (.bool true)], Keeps φ := by
          intro φ hφ
          simp only [List.mem_cons, List.mem_nil_iff, or_false] at hφ
          rcases hφ with rfl | rfl | rfl | rfl | rfl | rfl | rfl | rfl | rfl | rfl | rfl | rfl | rfl | rfl <;> first | exact keeps_is _ | exact fun _ _ _ _ _ => trivial
        refine staged_lit (by kernel_rfl) (facts [Is (.bool true), Is (.bool false), Is (.bool false), Is (pcV pp (.slice A9 N9 c9)), Is (.int .u8 (Ck.flg pp)), Is (.pointer (some ⟨w.heap.size, 1, none⟩)), Is (.int .u8 fl), Is (.bool true), Is (.bool true), Is (.bool true), Tru, Tru, Tru, Is (.bool true)]) (Stg [] (fun _ wx => Up y0 wx)) 54 rfl (by decide +kernel) (by decide +kernel) (Stg.start (Up.drew y0)) ?_ ?_
        · refine ⟨?_, ?_, ?_, ?_, ?_, ?_, ?_, ?_, ?_, ?_, ?_, ?_, ?_, ?_, trivial⟩
          · refine opS_callUp rfl rfl (fun k wa wb h hu => Up.trans h hu) (facts_keep HK) fun L ac w1 hJ hl hc ho hd => ?_
            have s4 : ac.eval (.tmp 4) = .pointer (some ⟨g, 0, none⟩) := ho 4 rfl
            obtain ⟨_, _, hU⟩ := hJ
            refine ⟨50, _, x_fcall 50 [.tmp 4] _ rfl (by kernel_rfl), ?_⟩
            simp only [List.map_cons, List.map_nil, s4]
            exact (rwhole_d true w1 (GG.out.next hU).isR HWB.out).mono fun e w2 ⟨he, hu⟩ => ⟨_, he, hu, rfl⟩
          · refine opS_same rfl rfl fun L ac w1 hJ hl hc ho hd => ?_
            have d0 : ac.eval (.tmp 38) = .bool true := hd 0 _ _ rfl rfl rfl
            exact ⟨_, x_not 4 (.tmp 38) rfl d0, rfl⟩
          · refine opS_same rfl rfl fun L ac w1 hJ hl hc ho hd => ?_
            have d1 : ac.eval (.tmp 39) = .bool false := hd 1 _ _ rfl rfl rfl
            exact ⟨_, x_move (.tmp 39) rfl d1, rfl⟩
          · refine opS_sameG 2 false _ _ rfl rfl rfl rfl (fun _ _ h => h) rfl fun L ac w1 hJ hl hc ho hd => ?_
            have s5 : ac.eval (.tmp 5) = .pointer (some ⟨hb, 0, none⟩) := ho 5 rfl
            obtain ⟨_, _, hU⟩ := hJ
            exact ⟨_, x_load 50 (.tmp 5) rfl s5 (run_loadRow (cs := #[.int .u32 pp.tsn, .int .u16 pp.str, .int .u16 pp.seq, .bool pp.bg, .bool pp.en, .bool pp.un, .slice A9 N9 c9]) ((hU.block _ (lt_of_blk HHB.out)).trans HHB.out) Try.underlying50 rfl rfl), rfl⟩
          · refine opS_callUpG 2 false _ _ rfl rfl rfl rfl (fun _ _ h => h) rfl (fun k wa wb h hu => Up.trans h hu) (facts_keep HK) fun L ac w1 hJ hl hc ho hd => ?_
            have d3 : ac.eval (.tmp 41) = pcV pp (.slice A9 N9 c9) := hd 3 _ _ rfl rfl rfl
            refine ⟨53, _, x_fcall 53 [.tmp 41] _ rfl (by kernel_rfl), ?_⟩
            simp only [List.map_cons, List.map_nil, d3]
            exact (flg_any pp A9 N9 c9 w1).mono fun e w2 ⟨he, hu⟩ => ⟨_, he, hu.out, rfl⟩
          · refine opS_sameG 2 false _ _ rfl rfl rfl rfl (fun _ _ h => h) rfl fun L ac w1 hJ hl hc ho hd => ?_
            have s1 : ac.eval (.tmp 1) = .pointer (some ⟨w.heap.size, 0, none⟩) := ho 1 rfl
            exact ⟨_, x_field 41 (.tmp 1) 1 rfl s1 (fld411 _ _ _), rfl⟩
          · refine opS_sameG 2 false _ _ rfl rfl rfl rfl (fun _ _ h => h) rfl fun L ac w1 hJ hl hc ho hd => ?_
            have d5 : ac.eval (.tmp 43) = .pointer (some ⟨w.heap.size, 1, none⟩) := hd 5 _ _ rfl rfl rfl
            obtain ⟨_, _, hU⟩ := hJ
            exact ⟨_, x_load 5 (.tmp 43) rfl d5 (run_load1 agg5 (cell_of ((GG.out.next hU).kept _ List.mem_cons_self).1 (j := 1) rfl)), rfl⟩
          · refine opS_sameG 2 false _ _ rfl rfl rfl rfl (fun _ _ h => h) rfl fun L ac w1 hJ hl hc ho hd => ?_
            have d4 : ac.eval (.tmp 42) = .int .u8 (Ck.flg pp) := hd 4 _ _ rfl rfl rfl
            have d6 : ac.eval (.tmp 44) = .int .u8 fl := hd 6 _ _ rfl rfl rfl
            exact ⟨_, x_bin .neq 5 5 (.tmp 42) (.tmp 44) rfl d4 d6 (grd5 _ _ _ _ _) (run_neq5 _ _ _ HFL.out _), rfl⟩
          · refine opS_same rfl rfl fun L ac w1 hJ hl hc ho hd => ?_
            have d2 : ac.eval (.tmp 40) = .bool false := hd 2 _ _ rfl rfl rfl
            have d7 : ac.eval (.tmp 45) = .bool true := hd 7 _ _ rfl rfl rfl
            exact ⟨_, x_pick (.tmp 40) (.const (.bool true)) (.tmp 45) (X := .bool true) rfl d2 (fun h => by cases h) (fun _ => d7), rfl⟩
          · refine opS_same rfl rfl fun L ac w1 hJ hl hc ho hd => ?_
            have d8 : ac.eval (.tmp 46) = .bool true := hd 8 _ _ rfl rfl rfl
            exact ⟨_, x_move (.tmp 46) rfl d8, rfl⟩
          · exact opS_skip 9 false true (by decide) _ _ rfl rfl rfl rfl (fun _ _ h => h) rfl (fun _ => trivial)
          · exact opS_skip 9 false true (by decide) _ _ rfl rfl rfl rfl (fun _ _ h => h) rfl (fun _ => trivial)
          · exact opS_skip 9 false true (by decide) _ _ rfl rfl rfl rfl (fun _ _ h => h) rfl (fun _ => trivial)
          · refine opS_same rfl rfl fun L ac w1 hJ hl hc ho hd => ?_
            have d9 : ac.eval (.tmp 47) = .bool true := hd 9 _ _ rfl rfl rfl
            have d12 := hd 12 _ _ rfl rfl rfl
            exact ⟨_, x_pick (.tmp 47) (.const (.bool true)) (.tmp 50) (Y := .bool true) rfl d9 (fun _ => rfl) (fun h => by cases h), rfl⟩
        · intro L a1 y1 hI hall
          obtain ⟨k, hk, hU⟩ := hI.done hall (by simp)
          have GH := Lib.hid (GG.out.next hU)
          have HU9 := Lib.hid hU
          have hq := Lib.hid (GH.out.kept _ (List.mem_cons_of_mem _ List.mem_cons_self)).1
          clear hk hU k HK
          have l0 : a1.tmps.getD 0 undef = chV 0 fl (.slice A m c) := hI.old 0 rfl
          have l1 : a1.tmps.getD 1 undef = .pointer (some ⟨w.heap.size, 0, none⟩) := hI.old 1 rfl
          have l2 : a1.tmps.getD 2 undef = .pointer (some ⟨w.heap.size + 1, 0, none⟩) := hI.old 2 rfl
          have l4 : a1.tmps.getD 4 undef = .pointer (some ⟨g, 0, none⟩) := hI.old 4 rfl
          have l5 : a1.tmps.getD 5 undef = .pointer (some ⟨hb, 0, none⟩) := hI.old 5 rfl
          have l51 : a1.tmps.getD 51 undef = .bool true := hI.get hall (i := 13) rfl rfl
          have hde : a1.defers = [] := hI.defers
          have hal := act_lit a1 54 hI.size
          clear hI
          simp only [List.range, List.range.loop, List.map_cons, List.map_nil] at hal
          rw [l0, l1, l2, l4, l5, l51, hde] at hal
          generalize a1.tmps.getD 3 undef = tm3 at hal
          generalize a1.tmps.getD 6 undef = tm6 at hal
          generalize a1.tmps.getD 7 undef = tm7 at hal
          generalize a1.tmps.getD 8 undef = tm8 at hal
          generalize a1.tmps.getD 9 undef = tm9 at hal
          generalize a1.tmps.getD 10 undef = tm10 at hal
          generalize a1.tmps.getD 11 undef = tm11 at hal
          generalize a1.tmps.getD 12 undef = tm12 at hal
          generalize a1.tmps.getD 13 undef = tm13 at hal
          generalize a1.tmps.getD 14 undef = tm14 at hal
          generalize a1.tmps.getD 15 undef = tm15 at hal
          generalize a1.tmps.getD 16 undef = tm16 at hal
          generalize a1.tmps.getD 17 undef = tm17 at hal
          generalize a1.tmps.getD 18 undef = tm18 at hal
          generalize a1.tmps.getD 19 undef = tm19 at hal
          generalize a1.tmps.getD 20 undef = tm20 at hal
          generalize a1.tmps.getD 21 undef = tm21 at hal
          generalize a1.tmps.getD 22 undef = tm22 at hal
          generalize a1.tmps.getD 23 undef = tm23 at hal
          generalize a1.tmps.getD 24 undef = tm24 at hal
          generalize a1.tmps.getD 25 undef = tm25 at hal
          generalize a1.tmps.getD 26 undef = tm26 at hal
          generalize a1.tmps.getD 27 undef = tm27 at hal
          generalize a1.tmps.getD 28 undef = tm28 at hal
          generalize a1.tmps.getD 29 undef = tm29 at hal
          generalize a1.tmps.getD 30 undef = tm30 at hal
          generalize a1.tmps.getD 31 undef = tm31 at hal
          generalize a1.tmps.getD 32 undef = tm32 at hal
          generalize a1.tmps.getD 33 undef = tm33 at hal
          generalize a1.tmps.getD 34 undef = tm34 at hal
          generalize a1.tmps.getD 35 undef = tm35 at hal
          generalize a1.tmps.getD 36 undef = tm36 at hal
          generalize a1.tmps.getD 37 undef = tm37 at hal
          generalize a1.tmps.getD 38 undef = tm38 at hal
          generalize a1.tmps.getD 39 undef = tm39 at hal
          generalize a1.tmps.getD 40 undef = tm40 at hal
          generalize a1.tmps.getD 41 undef = tm41 at hal
          generalize a1.tmps.getD 42 undef = tm42 at hal
          generalize a1.tmps.getD 43 undef = tm43 at hal
          generalize a1.tmps.getD 44 undef = tm44 at hal
          generalize a1.tmps.getD 45 undef = tm45 at hal
          generalize a1.tmps.getD 46 undef = tm46 at hal
          generalize a1.tmps.getD 47 undef = tm47 at hal
          generalize a1.tmps.getD 48 undef = tm48 at hal
          generalize a1.tmps.getD 49 undef = tm49 at hal
          generalize a1.tmps.getD 50 undef = tm50 at hal
          generalize a1.tmps.getD 52 undef = tm52 at hal
          generalize a1.tmps.getD 53 undef = tm53 at hal
          clear l0 l1 l2 l4 l5 l51 hde
          subst hal
          have e0 := cell_of hq.out (j := 0) rfl
          have f0 := frozen_at (j := 0) hq.out
          have e1 := cell_of hq.out (j := 1) rfl
          have f1 := frozen_at (j := 1) hq.out
          have e2 := cell_of hq.out (j := 2) rfl
          have f2 := frozen_at (j := 2) hq.out
          have e3 := cell_of hq.out (j := 3) rfl
          have f3 := frozen_at (j := 3) hq.out
          have e4 := cell_of hq.out (j := 4) rfl
          have f4 := frozen_at (j := 4) hq.out
          have e5 := cell_of hq.out (j := 5) rfl
          have f5 := frozen_at (j := 5) hq.out
          have e6 := cell_of hq.out (j := 6) rfl
          have f6 := frozen_at (j := 6) hq.out
          go_wp2_with fail
          have hs := set7 (a := .int .u32 0) (b := .int .u16 0) (c := .int .u16 0) (d := .bool false) (e := .bool false) (f := .bool false) (g := .slice none 0 0) hq.out rfl
          exact bodyPost_ret (results_row_tmp (fn := Try.f25) (p := 2) (u := 3) (ty := 50) rfl _ _ (w.heap.size + 1) 50 _ (0, 0) _ rfl hs.1 Try.underlying50 rfl rfl) rfl (PNo.post ⟨rfl, Lib.hid (Below.out GH.out.up hs.2 (fun k hk => by rw [hk]; omega) GH.out.up.size)⟩ HNO.out)
    · have HWB := Lib.hid (show false = true ↔ rF.e = 0 ∧ rF.at_ = xs.length from ⟨fun h => (by cases h), fun h => absurd h.1 he⟩)
      have HNO := Lib.hid (show ∀ p', ¬ PieceOK 0 fl xs p' from fun p' hp => he (HCH.out.2 p' hp).1)
      clear he
      have HK : ∀ φ ∈ [Is (.bool false), Is (.bool true), Is (.bool true), Tru, Tru, Tru, Tru, Tru, Is (.bool true), Is (.bool true), Tru, Tru, Tru, Is (.bool true)], Keeps φ := by
        intro φ hφ
        simp only [List.mem_cons, List.mem_nil_iff, or_false] at hφ
        rcases hφ with rfl | rfl | rfl | rfl | rfl | rfl | rfl | rfl | rfl | rfl | rfl | rfl | rfl | rfl <;> first | exact keeps_is _ | exact fun _ _ _ _ _ => trivial
      refine staged_lit (by kernel_rfl) (facts [Is (.bool false), Is (.bool true), Is (.bool true), Tru, Tru, Tru, Tru, Tru, Is (.bool true), Is (.bool true), Tru, Tru, Tru, Is (.bool true)]) (Stg [] (fun _ wx => Up y0 wx)) 54 rfl (by decide +kernel) (by decide +kernel) (Stg.start (Up.drew y0)) ?_ ?_
      · refine ⟨?_, ?_, ?_, ?_, ?_, ?_, ?_, ?_, ?_, ?_, ?_, ?_, ?_, ?_, trivial⟩
        · refine opS_callUp rfl rfl (fun k wa wb h hu => Up.trans h hu) (facts_keep HK) fun L ac w1 hJ hl hc ho hd => ?_
          have s4 : ac.eval (.tmp 4) = .pointer (some ⟨g, 0, none⟩) := ho 4 rfl
          obtain ⟨_, _, hU⟩ := hJ
          refine ⟨50, _, x_fcall 50 [.tmp 4] _ rfl (by kernel_rfl), ?_⟩
          simp only [List.map_cons, List.map_nil, s4]
          exact (rwhole_d false w1 (GG.out.next hU).isR HWB.out).mono fun e w2 ⟨he, hu⟩ => ⟨_, he, hu, rfl⟩
        · refine opS_same rfl rfl fun L ac w1 hJ hl hc ho hd => ?_
          have d0 : ac.eval (.tmp 38) = .bool false := hd 0 _ _ rfl rfl rfl
          exact ⟨_, x_not 4 (.tmp 38) rfl d0, rfl⟩
        · refine opS_same rfl rfl fun L ac w1 hJ hl hc ho hd => ?_
          have d1 : ac.eval (.tmp 39) = .bool true := hd 1 _ _ rfl rfl rfl
          exact ⟨_, x_move (.tmp 39) rfl d1, rfl⟩
        · exact opS_skip 2 false true (by decide) _ _ rfl rfl rfl rfl (fun _ _ h => h) rfl (fun _ => trivial)
        · exact opS_skip 2 false true (by decide) _ _ rfl rfl rfl rfl (fun _ _ h => h) rfl (fun _ => trivial)
        · exact opS_skip 2 false true (by decide) _ _ rfl rfl rfl rfl (fun _ _ h => h) rfl (fun _ => trivial)
        · exact opS_skip 2 false true (by decide) _ _ rfl rfl rfl rfl (fun _ _ h => h) rfl (fun _ => trivial)
        · exact opS_skip 2 false true (by decide) _ _ rfl rfl rfl rfl (fun _ _ h => h) rfl (fun _ => trivial)
        · refine opS_same rfl rfl fun L ac w1 hJ hl hc ho hd => ?_
          have d2 : ac.eval (.tmp 40) = .bool true := hd 2 _ _ rfl rfl rfl
          have d7 := hd 7 _ _ rfl rfl rfl
          exact ⟨_, x_pick (.tmp 40) (.const (.bool true)) (.tmp 45) (Y := .bool true) rfl d2 (fun _ => rfl) (fun h => by cases h), rfl⟩
        · refine opS_same rfl rfl fun L ac w1 hJ hl hc ho hd => ?_
          have d8 : ac.eval (.tmp 46) = .bool true := hd 8 _ _ rfl rfl rfl
          exact ⟨_, x_move (.tmp 46) rfl d8, rfl⟩
        · exact opS_skip 9 false true (by decide) _ _ rfl rfl rfl rfl (fun _ _ h => h) rfl (fun _ => trivial)
        · exact opS_skip 9 false true (by decide) _ _ rfl rfl rfl rfl (fun _ _ h => h) rfl (fun _ => trivial)
        · exact opS_skip 9 false true (by decide) _ _ rfl rfl rfl rfl (fun _ _ h => h) rfl (fun _ => trivial)
        · refine opS_same rfl rfl fun L ac w1 hJ hl hc ho hd => ?_
          have d9 : ac.eval (.tmp 47) = .bool true := hd 9 _ _ rfl rfl rfl
          have d12 := hd 12 _ _ rfl rfl rfl
          exact ⟨_, x_pick (.tmp 47) (.const (.bool true)) (.tmp 50) (Y := .bool true) rfl d9 (fun _ => rfl) (fun h => by cases h), rfl⟩
      · intro L a1 y1 hI hall
        obtain ⟨k, hk, hU⟩ := hI.done hall (by simp)
        have GH := Lib.hid (GG.out.next hU)
        have HU9 := Lib.hid hU
        have hq := Lib.hid (GH.out.kept _ (List.mem_cons_of_mem _ List.mem_cons_self)).1
        clear hk hU k HK
        have l0 : a1.tmps.getD 0 undef = chV 0 fl (.slice A m c) := hI.old 0 rfl
        have l1 : a1.tmps.getD 1 undef = .pointer (some ⟨w.heap.size, 0, none⟩) := hI.old 1 rfl
        have l2 : a1.tmps.getD 2 undef = .pointer (some ⟨w.heap.size + 1, 0, none⟩) := hI.old 2 rfl
        have l4 : a1.tmps.getD 4 undef = .pointer (some ⟨g, 0, none⟩) := hI.old 4 rfl
        have l5 : a1.tmps.getD 5 undef = .pointer (some ⟨hb, 0, none⟩) := hI.old 5 rfl
        have l51 : a1.tmps.getD 51 undef = .bool true := hI.get hall (i := 13) rfl rfl
        have hde : a1.defers = [] := hI.defers
        have hal := act_lit a1 54 hI.size
        clear hI
        simp only [List.range, List.range.loop, List.map_cons, List.map_nil] at hal
        rw [l0, l1, l2, l4, l5, l51, hde] at hal
        generalize a1.tmps.getD 3 undef = tm3 at hal
        generalize a1.tmps.getD 6 undef = tm6 at hal
        generalize a1.tmps.getD 7 undef = tm7 at hal
        generalize a1.tmps.getD 8 undef = tm8 at hal
        generalize a1.tmps.getD 9 undef = tm9 at hal
        generalize a1.tmps.getD 10 undef = tm10 at hal
        generalize a1.tmps.getD 11 undef = tm11 at hal
        generalize a1.tmps.getD 12 undef = tm12 at hal
        generalize a1.tmps.getD 13 undef = tm13 at hal
        generalize a1.tmps.getD 14 undef = tm14 at hal
        generalize a1.tmps.getD 15 undef = tm15 at hal
        generalize a1.tmps.getD 16 undef = tm16 at hal
        generalize a1.tmps.getD 17 undef = tm17 at hal
        generalize a1.tmps.getD 18 undef = tm18 at hal
        generalize a1.tmps.getD 19 undef = tm19 at hal
        generalize a1.tmps.getD 20 undef = tm20 at hal
        generalize a1.tmps.getD 21 undef = tm21 at hal
        generalize a1.tmps.getD 22 undef = tm22 at hal
        generalize a1.tmps.getD 23 undef = tm23 at hal
        generalize a1.tmps.getD 24 undef = tm24 at hal
        generalize a1.tmps.getD 25 undef = tm25 at hal
        generalize a1.tmps.getD 26 undef = tm26 at hal
        generalize a1.tmps.getD 27 undef = tm27 at hal
        generalize a1.tmps.getD 28 undef = tm28 at hal
        generalize a1.tmps.getD 29 undef = tm29 at hal
        generalize a1.tmps.getD 30 undef = tm30 at hal
        generalize a1.tmps.getD 31 undef = tm31 at hal
        generalize a1.tmps.getD 32 undef = tm32 at hal
        generalize a1.tmps.getD 33 undef = tm33 at hal
        generalize a1.tmps.getD 34 undef = tm34 at hal
        generalize a1.tmps.getD 35 undef = tm35 at hal
        generalize a1.tmps.getD 36 undef = tm36 at hal
        generalize a1.tmps.getD 37 undef = tm37 at hal
        generalize a1.tmps.getD 38 undef = tm38 at hal
        generalize a1.tmps.getD 39 undef = tm39 at hal
        generalize a1.tmps.getD 40 undef = tm40 at hal
        generalize a1.tmps.getD 41 undef = tm41 at hal
        generalize a1.tmps.getD 42 undef = tm42 at hal
        generalize a1.tmps.getD 43 undef = tm43 at hal
        generalize a1.tmps.getD 44 undef = tm44 at hal
        generalize a1.tmps.getD 45 undef = tm45 at hal
        generalize a1.tmps.getD 46 undef = tm46 at hal
        generalize a1.tmps.getD 47 undef = tm47 at hal
        generalize a1.tmps.getD 48 undef = tm48 at hal
        generalize a1.tmps.getD 49 undef = tm49 at hal
        generalize a1.tmps.getD 50 undef = tm50 at hal
        generalize a1.tmps.getD 52 undef = tm52 at hal
        generalize a1.tmps.getD 53 undef = tm53 at hal
        clear l0 l1 l2 l4 l5 l51 hde
        subst hal
        have e0 := cell_of hq.out (j := 0) rfl
        have f0 := frozen_at (j := 0) hq.out
        have e1 := cell_of hq.out (j := 1) rfl
        have f1 := frozen_at (j := 1) hq.out
        have e2 := cell_of hq.out (j := 2) rfl
        have f2 := frozen_at (j := 2) hq.out
        have e3 := cell_of hq.out (j := 3) rfl
        have f3 := frozen_at (j := 3) hq.out
        have e4 := cell_of hq.out (j := 4) rfl
        have f4 := frozen_at (j := 4) hq.out
        have e5 := cell_of hq.out (j := 5) rfl
        have f5 := frozen_at (j := 5) hq.out
        have e6 := cell_of hq.out (j := 6) rfl
        have f6 := frozen_at (j := 6) hq.out
        go_wp2_with fail
        have hs := set7 (a := .int .u32 0) (b := .int .u16 0) (c := .int .u16 0) (d := .bool false) (e := .bool false) (f := .bool false) (g := .slice none 0 0) hq.out rfl
        exact bodyPost_ret (results_row_tmp (fn := Try.f25) (p := 2) (u := 3) (ty := 50) rfl _ _ (w.heap.size + 1) 50 _ (0, 0) _ rfl hs.1 Try.underlying50 rfl rfl) rfl (PNo.post ⟨rfl, Lib.hid (Below.out GH.out.up hs.2 (fun k hk => by rw [hk]; omega) GH.out.up.size)⟩ HNO.out)
theorem toP_any (A : Option Addr) (m c : Nat) (ty fl : Int) (xs : List Int) (w : World) (hin : InB w A m c xs) (hm : m ≤ 140737488351232) : Calls Try.prog 25 #[chV ty fl (.slice A m c)] w (ToPPost ty fl xs w) := by
  by_cases h : ty = 0
  · subst h; exact toP_read A m c fl xs w hin hm
  · exact (toP_e1 A m c ty fl w (by simpa using h)).mono fun e w' hh => hh.post fun p' hp => h hp.1
end Go.Proofs.Ytgikgcepeniekaa
