import Derived.Test.YthncpkjnalmpkaaAvG0
import Derived.Test.YthncpkjnalmpkaaStaged
import Derived.Test.YthncpkjnalmpkaaSteady
namespace Go.Proofs.Ythncpkjnalmpkaa
open Go Go.RowKit
set_option linter.unusedVariables false
set_option linter.unusedSimpArgs false
/-! The program's first: what is found. -/
theorem set5 {w : World} {q : Nat} {cs : Array Value} {a b c d e : Value} {T : TypeId} (h : w.heap[q]? = some (.cells cs T (0, 0))) (hs : cs.size = 5) :
    (((((w.setCell ⟨q, 0, none⟩ a).setCell ⟨q, 1, none⟩ b).setCell ⟨q, 2, none⟩ c).setCell ⟨q, 3, none⟩ d).setCell ⟨q, 4, none⟩ e).heap[q]? = some (.cells #[a, b, c, d, e] T (0, 0)) ∧ Out (fun k => k = q) w (((((w.setCell ⟨q, 0, none⟩ a).setCell ⟨q, 1, none⟩ b).setCell ⟨q, 2, none⟩ c).setCell ⟨q, 3, none⟩ d).setCell ⟨q, 4, none⟩ e) := by
  refine ⟨?_, ((((setCell_out _ _ _ _).trans (setCell_out _ _ _ _) (Sub.refl _ _)).trans (setCell_out _ _ _ _) (Sub.refl _ _)).trans (setCell_out _ _ _ _) (Sub.refl _ _)).trans (setCell_out _ _ _ _) (Sub.refl _ _)⟩
  rw [setCell_at _ (setCell_at _ (setCell_at _ (setCell_at _ (setCell_at _ h))))]
  obtain ⟨l⟩ := cs
  match l, hs with
  | [x, y, z, u, v], _ => rfl
set_option maxRecDepth 100000 in
set_option maxHeartbeats 2000000 in
theorem first_v0 (A : Option Addr) (m c : Nat) (xs : List Int) (w : World) (hin : InB w A m c xs) (hm : m ≤ 4096) (C B : Int) (N : Nat) (hC : numS xs 0 4 = C) (hB : numS xs 4 1 = B) (hN : numS xs 5 3 = (N : Int)) (hN2 : N < 16777216)
    (hv : (bits .and .u32 B 128 != 0) = true) (h1 : 12 ≤ m) (h2 : 12 ≤ N) (h3 : N + padN N ≤ m) (M P : Bool) (hM : (bits .and .u32 B 64 != 0) = M) (hP : (bits .and .u32 B 32 != 0) = P) (hC2 : 0 ≤ C ∧ C < 4294967296) (hV : numS xs 8 4 = 0) : Calls Try.prog 53 #[.slice A m c] w (FErr 2 w) := by
  have HI := Lib.hid hin
  have HU := Lib.hid (up_alloc w (.cells #[.int .u32 0, .int .u32 0, .bool false, .bool false, .slice none 0 0] 56))
  have HQ := Lib.hid (new_at w (.cells #[.int .u32 0, .int .u32 0, .bool false, .bool false, .slice none 0 0] 56))
  have HCe := Lib.hid hC
  have HBe := Lib.hid hB
  have HNe := Lib.hid hN
  have HW := Lib.hid (Nat.le_refl w.heap.size)
  clear hin hC hB hN
  have d1 : decide ((m : Int) < 12) = false := by simp; omega
  have d2 : decide ((N : Int) < 12) = false := by simp; omega
  have d3 : decide ((m : Int) < (N : Int) + (padN N : Int)) = false := by simp; omega
  have hp := padN_lt N
  have HVe := Lib.hid hV
  clear hV
  go_enter Try.func53, Try.ntmps53
  go_upto_region 1 with (fail)
  generalize w.alloc (.cells #[.int .u32 0, .int .u32 0, .bool false, .bool false, .slice none 0 0] 56) = wa at HU HQ ⊢
  generalize hqq : w.heap.size = q at HQ HW ⊢
  have HQE := Lib.hid hqq
  clear hqq HW
  have HIa := Lib.hid (HI.out.up HU.out)
  go_wp2_with fail
  refine (number_any A m c 0 4 xs wa HIa.out (by omega) (by omega) (by omega) (by omega)).mono ?_
  rw [HCe.out]
  rintro e w' ⟨rfl, hw⟩
  obtain rfl := hw.symm
  go_wp2_with fail
  refine (number_any A m c 4 1 xs wa HIa.out (by omega) (by omega) (by omega) (by omega)).mono ?_
  rw [HBe.out]
  rintro e w' ⟨rfl, hw⟩
  obtain rfl := hw.symm
  go_wp2_with fail
  refine (number_any A m c 5 3 xs wa HIa.out (by omega) (by omega) (by omega) (by omega)).mono ?_
  rw [HNe.out]
  rintro e w' ⟨rfl, hw⟩
  obtain rfl := hw.symm
  go_wp2_with fail
  refine (head_any true wa).mono ?_
  rintro e w' ⟨rfl, hw⟩
  obtain rfl := hw.symm
  go_wp2_with fail
  refine (pad_any N wa (by omega)).mono ?_
  rintro e w' ⟨rfl, rfl⟩
  have HUb := Lib.hid (up_alloc wa (.cells #[.int .u32 C, .int .u32 0, .bool M, .bool P, .slice none 0 0] 56))
  have HPb := Lib.hid (new_at wa (.cells #[.int .u32 C, .int .u32 0, .bool M, .bool P, .slice none 0 0] 56))
  go_upto_region 10 with (fail)
  generalize wa.alloc (.cells #[.int .u32 C, .int .u32 0, .bool M, .bool P, .slice none 0 0] 56) = wb at HUb HPb ⊢
  generalize hpp : wa.heap.size = pb at HPb ⊢
  have HPW := Lib.hid (show w.heap.size ≤ pb by rw [← hpp]; exact HU.out.size)
  have HQb := Lib.hid (blk_up HQ.out HUb.out)
  have HPQ := Lib.hid (show pb ≠ q by have := lt_of_blk HQ.out; omega)
  have Ub := Lib.hid (HU.out.trans HUb.out)
  clear hpp HQ HU HUb
  have HIb := Lib.hid (HI.out.up Ub.out)
  go_wp2_with fail
  refine (number_any A m c 8 4 xs wb HIb.out (by omega) (by omega) (by omega) (by omega)).mono ?_
  rw [HVe.out]
  rintro e w' ⟨rfl, hw⟩
  obtain rfl := hw.symm
  have z1 := cell_of HPb.out (j := 1) rfl
  have y1 := frozen_at (j := 1) HPb.out
  have HO1 := Lib.hid (setCell_out wb pb 1 (.int .u32 0))
  have HP1 := Lib.hid (show (wb.setCell ⟨pb, 1, none⟩ (.int .u32 0)).heap[pb]? = some (.cells #[.int .u32 C, .int .u32 0, .bool M, .bool P, .slice none 0 0] 56 (0, 0)) from (setCell_at (j := 1) (.int .u32 0) HPb.out).trans rfl)
  have HQ1 := Lib.hid (HO1.out.blk HQb.out (fun e => HPQ.out e.symm))
  have U1 := Lib.hid (show Up w (wb.setCell ⟨pb, 1, none⟩ (.int .u32 0)) from Below.out Ub.out HO1.out (fun k hk => by rw [hk]; exact HPW.out) Ub.out.size)
  go_upto_region 12 with (fail)
  clear z1 y1
  generalize wb.setCell ⟨pb, 1, none⟩ (.int .u32 0) = wc at HO1 HP1 HQ1 U1 ⊢
  have z1 := cell_of HP1.out (j := 1) rfl
  go_wp2_with (with_reducible refine wpList_store_row rfl 56 _ _ rfl q #[.int .u32 0, .int .u32 0, .bool false, .bool false, .slice none 0 0] rfl rfl 56 _ HQ1.out (by kernel_rfl) rfl (by simp [Value.oneCell']) ?_)
  refine bodyPost_ret (results_row_tmp2 (fn := Try.f53) (p := 2) (u := 3) (u' := 4) (ty := 56) rfl _ _ q 56 _ (0, 0) _ rfl (setRow_heap _ _ _ _ _ _ HQ1.out) Try.underlying56 rfl (by kernel_rfl)) rfl ?_
  exact ⟨rfl, Lib.hid (below_setRow U1.out (by rw [HQE.out]; exact Nat.le_refl _) _)⟩
set_option maxRecDepth 100000 in
set_option maxHeartbeats 2000000 in
theorem first_okv (A : Option Addr) (m c : Nat) (xs : List Int) (w : World) (hin : InB w A m c xs) (hm : m ≤ 4096) (C B : Int) (N : Nat) (hC : numS xs 0 4 = C) (hB : numS xs 4 1 = B) (hN : numS xs 5 3 = (N : Int)) (hN2 : N < 16777216)
    (hv : (bits .and .u32 B 128 != 0) = true) (h1 : 12 ≤ m) (h2 : 12 ≤ N) (h3 : N + padN N ≤ m) (M P : Bool) (hM : (bits .and .u32 B 64 != 0) = M) (hP : (bits .and .u32 B 32 != 0) = P) (hC2 : 0 ≤ C ∧ C < 4294967296) (V : Int) (hV : numS xs 8 4 = V) (hV0 : V ≠ 0) : Calls Try.prog 53 #[.slice A m c] w (FOk C V M P ((xs.drop 12).take (N - 12)) (N + padN N) w) := by
  have HI := Lib.hid hin
  have HU := Lib.hid (up_alloc w (.cells #[.int .u32 0, .int .u32 0, .bool false, .bool false, .slice none 0 0] 56))
  have HQ := Lib.hid (new_at w (.cells #[.int .u32 0, .int .u32 0, .bool false, .bool false, .slice none 0 0] 56))
  have HCe := Lib.hid hC
  have HBe := Lib.hid hB
  have HNe := Lib.hid hN
  have HW := Lib.hid (Nat.le_refl w.heap.size)
  clear hin hC hB hN
  have d1 : decide ((m : Int) < 12) = false := by simp; omega
  have d2 : decide ((N : Int) < 12) = false := by simp; omega
  have d3 : decide ((m : Int) < (N : Int) + (padN N : Int)) = false := by simp; omega
  have hp := padN_lt N
  have HVe := Lib.hid hV
  have dv : (V == 0) = false := by rw [beq_eq_false_iff_ne]; exact hV0
  clear hV hV0
  go_enter Try.func53, Try.ntmps53
  go_upto_region 1 with (fail)
  generalize w.alloc (.cells #[.int .u32 0, .int .u32 0, .bool false, .bool false, .slice none 0 0] 56) = wa at HU HQ ⊢
  generalize hqq : w.heap.size = q at HQ HW ⊢
  have HQE := Lib.hid hqq
  clear hqq HW
  have HIa := Lib.hid (HI.out.up HU.out)
  go_wp2_with fail
  refine (number_any A m c 0 4 xs wa HIa.out (by omega) (by omega) (by omega) (by omega)).mono ?_
  rw [HCe.out]
  rintro e w' ⟨rfl, hw⟩
  obtain rfl := hw.symm
  go_wp2_with fail
  refine (number_any A m c 4 1 xs wa HIa.out (by omega) (by omega) (by omega) (by omega)).mono ?_
  rw [HBe.out]
  rintro e w' ⟨rfl, hw⟩
  obtain rfl := hw.symm
  go_wp2_with fail
  refine (number_any A m c 5 3 xs wa HIa.out (by omega) (by omega) (by omega) (by omega)).mono ?_
  rw [HNe.out]
  rintro e w' ⟨rfl, hw⟩
  obtain rfl := hw.symm
  go_wp2_with fail
  refine (head_any true wa).mono ?_
  rintro e w' ⟨rfl, hw⟩
  obtain rfl := hw.symm
  go_wp2_with fail
  refine (pad_any N wa (by omega)).mono ?_
  rintro e w' ⟨rfl, rfl⟩
  have HUb := Lib.hid (up_alloc wa (.cells #[.int .u32 C, .int .u32 0, .bool M, .bool P, .slice none 0 0] 56))
  have HPb := Lib.hid (new_at wa (.cells #[.int .u32 C, .int .u32 0, .bool M, .bool P, .slice none 0 0] 56))
  go_upto_region 10 with (fail)
  generalize wa.alloc (.cells #[.int .u32 C, .int .u32 0, .bool M, .bool P, .slice none 0 0] 56) = wb at HUb HPb ⊢
  generalize hpp : wa.heap.size = pb at HPb ⊢
  have HPW := Lib.hid (show w.heap.size ≤ pb by rw [← hpp]; exact HU.out.size)
  have HQb := Lib.hid (blk_up HQ.out HUb.out)
  have HPQ := Lib.hid (show pb ≠ q by have := lt_of_blk HQ.out; omega)
  have Ub := Lib.hid (HU.out.trans HUb.out)
  clear hpp HQ HU HUb
  have HIb := Lib.hid (HI.out.up Ub.out)
  go_wp2_with fail
  refine (number_any A m c 8 4 xs wb HIb.out (by omega) (by omega) (by omega) (by omega)).mono ?_
  rw [HVe.out]
  rintro e w' ⟨rfl, hw⟩
  obtain rfl := hw.symm
  have z1 := cell_of HPb.out (j := 1) rfl
  have y1 := frozen_at (j := 1) HPb.out
  have HO1 := Lib.hid (setCell_out wb pb 1 (.int .u32 V))
  have HP1 := Lib.hid (show (wb.setCell ⟨pb, 1, none⟩ (.int .u32 V)).heap[pb]? = some (.cells #[.int .u32 C, .int .u32 V, .bool M, .bool P, .slice none 0 0] 56 (0, 0)) from (setCell_at (j := 1) (.int .u32 V) HPb.out).trans rfl)
  have HQ1 := Lib.hid (HO1.out.blk HQb.out (fun e => HPQ.out e.symm))
  have U1 := Lib.hid (show Up w (wb.setCell ⟨pb, 1, none⟩ (.int .u32 V)) from Below.out Ub.out HO1.out (fun k hk => by rw [hk]; exact HPW.out) Ub.out.size)
  go_upto_region 12 with (fail)
  clear z1 y1
  generalize wb.setCell ⟨pb, 1, none⟩ (.int .u32 V) = wc at HO1 HP1 HQ1 U1 ⊢
  have z1 := cell_of HP1.out (j := 1) rfl
  have HIc := Lib.hid (HI.out.up U1.out)
  have e5 : ((N : Int) - 12) = ((N - 12 : Nat) : Int) := by omega
  go_wp2_with fail
  refine (part_any A m c 12 (N - 12) xs wc HIc.out (by omega) (by omega)).mono ?_
  rintro e wd ⟨A5, n5, k5, rfl, hn5, ho5, hu5⟩
  have HPd := Lib.hid (blk_up HP1.out hu5.out)
  have HQd := Lib.hid (blk_up HQ1.out hu5.out)
  have Ud := Lib.hid (U1.out.trans hu5.out)
  have HOd := Lib.hid (ho5.out.base (B' := w.heap.size) U1.out.size)
  have HNd := Lib.hid (show n5 = ((xs.drop 12).take (N - 12)).length by rw [hn5.out, List.length_take, List.length_drop, HI.out.len]; omega)
  have HA5 := Lib.hid (show ∀ k, blk? A5 = some k → k ≠ pb ∧ k ≠ q from fun k hk => by
    have h1 := (row_lt ho5.out hk).1
    have h2 := lt_of_blk HP1.out
    have h3 := lt_of_blk HQ1.out
    omega)
  clear hn5 ho5 hu5 HP1 HQ1 U1 z1
  have z4 := cell_of HPd.out (j := 4) rfl
  have y4 := frozen_at (j := 4) HPd.out
  have HO2 := Lib.hid (setCell_out wd pb 4 (.slice A5 n5 k5))
  have HP2 := Lib.hid (show (wd.setCell ⟨pb, 4, none⟩ (.slice A5 n5 k5)).heap[pb]? = some (.cells #[.int .u32 C, .int .u32 V, .bool M, .bool P, .slice A5 n5 k5] 56 (0, 0)) from (setCell_at (j := 4) (.slice A5 n5 k5) HPd.out).trans rfl)
  have HQ2 := Lib.hid (HO2.out.blk HQd.out (fun e => HPQ.out e.symm))
  have U2 := Lib.hid (show Up w (wd.setCell ⟨pb, 4, none⟩ (.slice A5 n5 k5)) from Below.out Ud.out HO2.out (fun k hk => by rw [hk]; exact HPW.out) Ud.out.size)
  have HOe := Lib.hid (show OwnI .u8 5 w.heap.size (wd.setCell ⟨pb, 4, none⟩ (.slice A5 n5 k5)) A5 n5 k5 ((xs.drop 12).take (N - 12)) from HO2.out.own HOd.out (fun g hg e => (HA5.out g (by rwa [ownBlock_slice] at hg)).1 e))
  go_upto_region 15 with (fail)
  clear z4 y4
  generalize wd.setCell ⟨pb, 4, none⟩ (.slice A5 n5 k5) = we at HO2 HP2 HQ2 U2 HOe ⊢
  have w0 := cell_of HP2.out (j := 0) rfl
  have w1 := cell_of HP2.out (j := 1) rfl
  have w2 := cell_of HP2.out (j := 2) rfl
  have w3 := cell_of HP2.out (j := 3) rfl
  have w4 := cell_of HP2.out (j := 4) rfl
  have v0 := cell_of HQ2.out (j := 0) rfl
  have v1 := cell_of HQ2.out (j := 1) rfl
  have v2 := cell_of HQ2.out (j := 2) rfl
  have v3 := cell_of HQ2.out (j := 3) rfl
  have v4 := cell_of HQ2.out (j := 4) rfl
  have f0 := fun j => frozen_at (j := j) HQ2.out
  have S5 := set5 (a := .int .u32 C) (b := .int .u32 V) (c := .bool M) (d := .bool P) (e := .slice A5 n5 k5) HQ2.out rfl
  have HS5 := Lib.hid S5.1
  have HT5 := Lib.hid S5.2
  clear S5
  have HWR := Lib.hid (show IntKind.i64.wrap ((N : Int) + (padN N : Int)) = ((N + padN N : Nat) : Int) by rw [IntKind.wrap_i64]; omega)
  go_region_with (go_at_call 37; refine (pad_any N _ (by omega)).mono ?_; rintro e w' ⟨rfl, rfl⟩)
  all_goals
    have HX := Lib.hid (show _ from (Up.drew _).block _ (lt_of_blk HS5.out))
    have HY := Lib.hid (Up.trans (show Up w _ from Below.out U2.out HT5.out (fun k hk => by rw [hk, ← HQE.out]; exact Nat.le_refl _) U2.out.size) (Up.drew _))
    have HZ := Lib.hid (own_up (HT5.out.own HOe.out (fun g hg e => (HA5.out g (by rwa [ownBlock_slice] at hg)).2 e)) (Up.drew _))
    generalize World.drew _ = wf at HX HY HZ ⊢
    have HXX := Lib.hid (HX.out.trans HS5.out)
    go_wp2_with fail
    refine bodyPost_ret (results_row_tmp2 (fn := Try.f53) (p := 2) (u := 3) (u' := 4) (ty := 56) rfl _ _ q 56 _ (0, 0) _ rfl HXX.out Try.underlying56 rfl (by kernel_rfl)) rfl ?_
    exact ⟨A5, n5, k5, by show Ending.returned (.tuple #[_, .int .i64 (IntKind.i64.wrap ((N : Int) + (padN N : Int))), .int .i64 0]) = _; rw [HWR.out], HNd, HZ, HY⟩
set_option maxRecDepth 100000 in
set_option maxHeartbeats 2000000 in
theorem first_okn (A : Option Addr) (m c : Nat) (xs : List Int) (w : World) (hin : InB w A m c xs) (hm : m ≤ 4096) (C B : Int) (N : Nat) (hC : numS xs 0 4 = C) (hB : numS xs 4 1 = B) (hN : numS xs 5 3 = (N : Int)) (hN2 : N < 16777216)
    (hv : (bits .and .u32 B 128 != 0) = false) (h1 : 8 ≤ m) (h2 : 8 ≤ N) (h3 : N + padN N ≤ m) (M P : Bool) (hM : (bits .and .u32 B 64 != 0) = M) (hP : (bits .and .u32 B 32 != 0) = P) (hC2 : 0 ≤ C ∧ C < 4294967296) : Calls Try.prog 53 #[.slice A m c] w (FOk C 0 M P ((xs.drop 8).take (N - 8)) (N + padN N) w) := by
  have HI := Lib.hid hin
  have HU := Lib.hid (up_alloc w (.cells #[.int .u32 0, .int .u32 0, .bool false, .bool false, .slice none 0 0] 56))
  have HQ := Lib.hid (new_at w (.cells #[.int .u32 0, .int .u32 0, .bool false, .bool false, .slice none 0 0] 56))
  have HCe := Lib.hid hC
  have HBe := Lib.hid hB
  have HNe := Lib.hid hN
  have HW := Lib.hid (Nat.le_refl w.heap.size)
  clear hin hC hB hN
  have d1 : decide ((m : Int) < 8) = false := by simp; omega
  have d2 : decide ((N : Int) < 8) = false := by simp; omega
  have d3 : decide ((m : Int) < (N : Int) + (padN N : Int)) = false := by simp; omega
  have hp := padN_lt N
  go_enter Try.func53, Try.ntmps53
  go_upto_region 1 with (fail)
  generalize w.alloc (.cells #[.int .u32 0, .int .u32 0, .bool false, .bool false, .slice none 0 0] 56) = wa at HU HQ ⊢
  generalize hqq : w.heap.size = q at HQ HW ⊢
  have HQE := Lib.hid hqq
  clear hqq HW
  have HIa := Lib.hid (HI.out.up HU.out)
  go_wp2_with fail
  refine (number_any A m c 0 4 xs wa HIa.out (by omega) (by omega) (by omega) (by omega)).mono ?_
  rw [HCe.out]
  rintro e w' ⟨rfl, hw⟩
  obtain rfl := hw.symm
  go_wp2_with fail
  refine (number_any A m c 4 1 xs wa HIa.out (by omega) (by omega) (by omega) (by omega)).mono ?_
  rw [HBe.out]
  rintro e w' ⟨rfl, hw⟩
  obtain rfl := hw.symm
  go_wp2_with fail
  refine (number_any A m c 5 3 xs wa HIa.out (by omega) (by omega) (by omega) (by omega)).mono ?_
  rw [HNe.out]
  rintro e w' ⟨rfl, hw⟩
  obtain rfl := hw.symm
  go_wp2_with fail
  refine (head_any false wa).mono ?_
  rintro e w' ⟨rfl, hw⟩
  obtain rfl := hw.symm
  go_wp2_with fail
  refine (pad_any N wa (by omega)).mono ?_
  rintro e w' ⟨rfl, rfl⟩
  have HUb := Lib.hid (up_alloc wa (.cells #[.int .u32 C, .int .u32 0, .bool M, .bool P, .slice none 0 0] 56))
  have HPb := Lib.hid (new_at wa (.cells #[.int .u32 C, .int .u32 0, .bool M, .bool P, .slice none 0 0] 56))
  go_upto_region 10 with (fail)
  generalize wa.alloc (.cells #[.int .u32 C, .int .u32 0, .bool M, .bool P, .slice none 0 0] 56) = wb at HUb HPb ⊢
  generalize hpp : wa.heap.size = pb at HPb ⊢
  have HPW := Lib.hid (show w.heap.size ≤ pb by rw [← hpp]; exact HU.out.size)
  have HQb := Lib.hid (blk_up HQ.out HUb.out)
  have HPQ := Lib.hid (show pb ≠ q by have := lt_of_blk HQ.out; omega)
  have Ub := Lib.hid (HU.out.trans HUb.out)
  clear hpp HQ HU HUb
  have HP1 := HPb
  have HQ1 := HQb
  have U1 := Ub
  clear HPb HQb Ub
  generalize wb = wc at HP1 HQ1 U1 ⊢
  have HIc := Lib.hid (HI.out.up U1.out)
  have e5 : ((N : Int) - 8) = ((N - 8 : Nat) : Int) := by omega
  go_wp2_with fail
  refine (part_any A m c 8 (N - 8) xs wc HIc.out (by omega) (by omega)).mono ?_
  rintro e wd ⟨A5, n5, k5, rfl, hn5, ho5, hu5⟩
  have HPd := Lib.hid (blk_up HP1.out hu5.out)
  have HQd := Lib.hid (blk_up HQ1.out hu5.out)
  have Ud := Lib.hid (U1.out.trans hu5.out)
  have HOd := Lib.hid (ho5.out.base (B' := w.heap.size) U1.out.size)
  have HNd := Lib.hid (show n5 = ((xs.drop 8).take (N - 8)).length by rw [hn5.out, List.length_take, List.length_drop, HI.out.len]; omega)
  have HA5 := Lib.hid (show ∀ k, blk? A5 = some k → k ≠ pb ∧ k ≠ q from fun k hk => by
    have h1 := (row_lt ho5.out hk).1
    have h2 := lt_of_blk HP1.out
    have h3 := lt_of_blk HQ1.out
    omega)
  clear hn5 ho5 hu5 HP1 HQ1 U1
  have z4 := cell_of HPd.out (j := 4) rfl
  have y4 := frozen_at (j := 4) HPd.out
  have HO2 := Lib.hid (setCell_out wd pb 4 (.slice A5 n5 k5))
  have HP2 := Lib.hid (show (wd.setCell ⟨pb, 4, none⟩ (.slice A5 n5 k5)).heap[pb]? = some (.cells #[.int .u32 C, .int .u32 0, .bool M, .bool P, .slice A5 n5 k5] 56 (0, 0)) from (setCell_at (j := 4) (.slice A5 n5 k5) HPd.out).trans rfl)
  have HQ2 := Lib.hid (HO2.out.blk HQd.out (fun e => HPQ.out e.symm))
  have U2 := Lib.hid (show Up w (wd.setCell ⟨pb, 4, none⟩ (.slice A5 n5 k5)) from Below.out Ud.out HO2.out (fun k hk => by rw [hk]; exact HPW.out) Ud.out.size)
  have HOe := Lib.hid (show OwnI .u8 5 w.heap.size (wd.setCell ⟨pb, 4, none⟩ (.slice A5 n5 k5)) A5 n5 k5 ((xs.drop 8).take (N - 8)) from HO2.out.own HOd.out (fun g hg e => (HA5.out g (by rwa [ownBlock_slice] at hg)).1 e))
  go_upto_region 15 with (fail)
  clear z4 y4
  generalize wd.setCell ⟨pb, 4, none⟩ (.slice A5 n5 k5) = we at HO2 HP2 HQ2 U2 HOe ⊢
  have w0 := cell_of HP2.out (j := 0) rfl
  have w1 := cell_of HP2.out (j := 1) rfl
  have w2 := cell_of HP2.out (j := 2) rfl
  have w3 := cell_of HP2.out (j := 3) rfl
  have w4 := cell_of HP2.out (j := 4) rfl
  have v0 := cell_of HQ2.out (j := 0) rfl
  have v1 := cell_of HQ2.out (j := 1) rfl
  have v2 := cell_of HQ2.out (j := 2) rfl
  have v3 := cell_of HQ2.out (j := 3) rfl
  have v4 := cell_of HQ2.out (j := 4) rfl
  have f0 := fun j => frozen_at (j := j) HQ2.out
  have S5 := set5 (a := .int .u32 C) (b := .int .u32 0) (c := .bool M) (d := .bool P) (e := .slice A5 n5 k5) HQ2.out rfl
  have HS5 := Lib.hid S5.1
  have HT5 := Lib.hid S5.2
  clear S5
  have HWR := Lib.hid (show IntKind.i64.wrap ((N : Int) + (padN N : Int)) = ((N + padN N : Nat) : Int) by rw [IntKind.wrap_i64]; omega)
  go_region_with (go_at_call 37; refine (pad_any N _ (by omega)).mono ?_; rintro e w' ⟨rfl, rfl⟩)
  all_goals
    have HX := Lib.hid (show _ from (Up.drew _).block _ (lt_of_blk HS5.out))
    have HY := Lib.hid (Up.trans (show Up w _ from Below.out U2.out HT5.out (fun k hk => by rw [hk, ← HQE.out]; exact Nat.le_refl _) U2.out.size) (Up.drew _))
    have HZ := Lib.hid (own_up (HT5.out.own HOe.out (fun g hg e => (HA5.out g (by rwa [ownBlock_slice] at hg)).2 e)) (Up.drew _))
    generalize World.drew _ = wf at HX HY HZ ⊢
    have HXX := Lib.hid (HX.out.trans HS5.out)
    go_wp2_with fail
    refine bodyPost_ret (results_row_tmp2 (fn := Try.f53) (p := 2) (u := 3) (u' := 4) (ty := 56) rfl _ _ q 56 _ (0, 0) _ rfl HXX.out Try.underlying56 rfl (by kernel_rfl)) rfl ?_
    exact ⟨A5, n5, k5, by show Ending.returned (.tuple #[_, .int .i64 (IntKind.i64.wrap ((N : Int) + (padN N : Int))), .int .i64 0]) = _; rw [HWR.out], HNd, HZ, HY⟩
end Go.Proofs.Ythncpkjnalmpkaa
