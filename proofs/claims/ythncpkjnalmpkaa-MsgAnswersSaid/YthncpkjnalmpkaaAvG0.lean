import Derived.Test.YthncpkjnalmpkaaAvP2
import Derived.Laws.Tables
namespace Go.Proofs.Ythncpkjnalmpkaa
open Go Go.RowKit
set_option linter.unusedVariables false
set_option linter.unusedSimpArgs false
/-! The program's first. -/
theorem and_flag (k : Nat) (hk : k = 128 ∨ k = 64 ∨ k = 32) (n : Nat) (h : n < 256) : (bits .and .u32 (n : Int) (k : Int) != 0) = decide (n / k % 2 = 1) := by
  rcases hk with rfl | rfl | rfl
  · have : ∀ n : Fin 256, (bits .and .u32 (n.val : Int) ((128 : Nat) : Int) != 0) = decide (n.val / 128 % 2 = 1) := by decide +kernel
    exact this ⟨n, h⟩
  · have : ∀ n : Fin 256, (bits .and .u32 (n.val : Int) ((64 : Nat) : Int) != 0) = decide (n.val / 64 % 2 = 1) := by decide +kernel
    exact this ⟨n, h⟩
  · have : ∀ n : Fin 256, (bits .and .u32 (n.val : Int) ((32 : Nat) : Int) != 0) = decide (n.val / 32 % 2 = 1) := by decide +kernel
    exact this ⟨n, h⟩
theorem results_row_tmp2 {P : Program} {fn : Func} {p u u' : Tmp} {ty : TypeId} (h : fn.results = #[.cell p ty, .tmp u, .tmp u']) (tmps : Array Value) (w : World) (g : Nat) (t : TypeId) (cs : Array Value) (fr : Nat × Nat) (d : TypeDesc)
    (hp : tmps.getD p undef = .pointer (some ⟨g, 0, none⟩)) (hg : w.heap[g]? = some (.cells cs t fr))
    (hu : P.underlying ty = some d) (hd : (match d with | .struct _ | .array _ _ => true | _ => false) = true) (hi : (P.info? ty).map (·.size) = some cs.size) :
    (results fn tmps).run P w = .ok (.tuple #[.agg cs, tmps.getD u undef, tmps.getD u' undef]) w := by
  have hp' : tmps[p]?.getD undef = .pointer (some ⟨g, 0, none⟩) := by simpa using hp
  simp [results, h, hp', asAddr, run_loadVar_row w g t ty cs fr d hg hu hd hi, Result.andThen]
/-- An error of the program's first. -/
def FErr (k : Int) (w : World) (e : Ending) (w' : World) : Prop := e = .returned (.tuple #[.agg #[.int .u32 0, .int .u32 0, .bool false, .bool false, .slice none 0 0], .int .i64 0, .int .i64 k]) ∧ Hid (Up w w')
/-- An attribute, and how many bytes. -/
def FOk (C V : Int) (M P : Bool) (bs : List Int) (s : Nat) (w : World) (e : Ending) (w' : World) : Prop := ∃ A n c, e = .returned (.tuple #[.agg #[.int .u32 C, .int .u32 V, .bool M, .bool P, .slice A n c], .int .i64 (s : Int), .int .i64 0]) ∧ Hid (n = bs.length) ∧ Hid (OwnI .u8 5 w.heap.size w' A n c bs) ∧ Hid (Up w w')
set_option maxRecDepth 100000 in
set_option maxHeartbeats 2000000 in
theorem first_short_v (A : Option Addr) (m c : Nat) (xs : List Int) (w : World) (hin : InB w A m c xs) (hm : m ≤ 4096) (C B : Int) (N : Nat) (hC : numS xs 0 4 = C) (hB : numS xs 4 1 = B) (hN : numS xs 5 3 = (N : Int)) (hN2 : N < 16777216)
    (hv : (bits .and .u32 B 128 != 0) = true) (h1 : m < 12) : Calls Try.prog 53 #[.slice A m c] w (FErr 3 w) := by
  have HI := Lib.hid hin
  have HU := Lib.hid (up_alloc w (.cells #[.int .u32 0, .int .u32 0, .bool false, .bool false, .slice none 0 0] 56))
  have HQ := Lib.hid (new_at w (.cells #[.int .u32 0, .int .u32 0, .bool false, .bool false, .slice none 0 0] 56))
  have HCe := Lib.hid hC
  have HBe := Lib.hid hB
  have HNe := Lib.hid hN
  have HW := Lib.hid (Nat.le_refl w.heap.size)
  clear hin hC hB hN
  have d1 : decide ((m : Int) < 12) = true := by simp; omega
  go_enter Try.func53, Try.ntmps53
  go_upto_region 1 with (fail)
  generalize w.alloc (.cells #[.int .u32 0, .int .u32 0, .bool false, .bool false, .slice none 0 0] 56) = wa at HU HQ ⊢
  generalize hqq : w.heap.size = q at HQ HW ⊢
  have HQE := Lib.hid hqq
  clear hqq HW
  have HIa := Lib.hid (HI.out.up HU.out)
  go_wp2_with fail
  refine (number_any A m c 0 4 xs wa HIa.out (by omega) (by omega) (by omega) (by omega)).mono ?_
  rw [HCe.out]
  rintro e w' ⟨rfl, hw⟩
  obtain rfl := hw.symm
  go_wp2_with fail
  refine (number_any A m c 4 1 xs wa HIa.out (by omega) (by omega) (by omega) (by omega)).mono ?_
  rw [HBe.out]
  rintro e w' ⟨rfl, hw⟩
  obtain rfl := hw.symm
  go_wp2_with fail
  refine (number_any A m c 5 3 xs wa HIa.out (by omega) (by omega) (by omega) (by omega)).mono ?_
  rw [HNe.out]
  rintro e w' ⟨rfl, hw⟩
  obtain rfl := hw.symm
  go_wp2_with fail
  refine (head_any true wa).mono ?_
  rintro e w' ⟨rfl, hw⟩
  obtain rfl := hw.symm
  go_wp2_with (with_reducible refine wpList_store_row rfl 56 _ _ rfl q #[.int .u32 0, .int .u32 0, .bool false, .bool false, .slice none 0 0] rfl rfl 56 _ HQ.out (by kernel_rfl) rfl (by simp [Value.oneCell']) ?_)
  refine bodyPost_ret (results_row_tmp2 (fn := Try.f53) (p := 2) (u := 3) (u' := 4) (ty := 56) rfl _ _ q 56 _ (0, 0) _ rfl (setRow_heap _ _ _ _ _ _ HQ.out) Try.underlying56 rfl (by kernel_rfl)) rfl ?_
  exact ⟨rfl, Lib.hid (below_setRow HU.out (by rw [HQE.out]; exact Nat.le_refl _) _)⟩
set_option maxRecDepth 100000 in
set_option maxHeartbeats 2000000 in
theorem first_form_v (A : Option Addr) (m c : Nat) (xs : List Int) (w : World) (hin : InB w A m c xs) (hm : m ≤ 4096) (C B : Int) (N : Nat) (hC : numS xs 0 4 = C) (hB : numS xs 4 1 = B) (hN : numS xs 5 3 = (N : Int)) (hN2 : N < 16777216)
    (hv : (bits .and .u32 B 128 != 0) = true) (h1 : 12 ≤ m) (h2 : N < 12) : Calls Try.prog 53 #[.slice A m c] w (FErr 2 w) := by
  have HI := Lib.hid hin
  have HU := Lib.hid (up_alloc w (.cells #[.int .u32 0, .int .u32 0, .bool false, .bool false, .slice none 0 0] 56))
  have HQ := Lib.hid (new_at w (.cells #[.int .u32 0, .int .u32 0, .bool false, .bool false, .slice none 0 0] 56))
  have HCe := Lib.hid hC
  have HBe := Lib.hid hB
  have HNe := Lib.hid hN
  have HW := Lib.hid (Nat.le_refl w.heap.size)
  clear hin hC hB hN
  have d1 : decide ((m : Int) < 12) = false := by simp; omega
  have d2 : decide ((N : Int) < 12) = true := by simp; omega
  go_enter Try.func53, Try.ntmps53
  go_upto_region 1 with (fail)
  generalize w.alloc (.cells #[.int .u32 0, .int .u32 0, .bool false, .bool false, .slice none 0 0] 56) = wa at HU HQ ⊢
  generalize hqq : w.heap.size = q at HQ HW ⊢
  have HQE := Lib.hid hqq
  clear hqq HW
  have HIa := Lib.hid (HI.out.up HU.out)
  go_wp2_with fail
  refine (number_any A m c 0 4 xs wa HIa.out (by omega) (by omega) (by omega) (by omega)).mono ?_
  rw [HCe.out]
  rintro e w' ⟨rfl, hw⟩
  obtain rfl := hw.symm
  go_wp2_with fail
  refine (number_any A m c 4 1 xs wa HIa.out (by omega) (by omega) (by omega) (by omega)).mono ?_
  rw [HBe.out]
  rintro e w' ⟨rfl, hw⟩
  obtain rfl := hw.symm
  go_wp2_with fail
  refine (number_any A m c 5 3 xs wa HIa.out (by omega) (by omega) (by omega) (by omega)).mono ?_
  rw [HNe.out]
  rintro e w' ⟨rfl, hw⟩
  obtain rfl := hw.symm
  go_wp2_with fail
  refine (head_any true wa).mono ?_
  rintro e w' ⟨rfl, hw⟩
  obtain rfl := hw.symm
  go_wp2_with (with_reducible refine wpList_store_row rfl 56 _ _ rfl q #[.int .u32 0, .int .u32 0, .bool false, .bool false, .slice none 0 0] rfl rfl 56 _ HQ.out (by kernel_rfl) rfl (by simp [Value.oneCell']) ?_)
  refine bodyPost_ret (results_row_tmp2 (fn := Try.f53) (p := 2) (u := 3) (u' := 4) (ty := 56) rfl _ _ q 56 _ (0, 0) _ rfl (setRow_heap _ _ _ _ _ _ HQ.out) Try.underlying56 rfl (by kernel_rfl)) rfl ?_
  exact ⟨rfl, Lib.hid (below_setRow HU.out (by rw [HQE.out]; exact Nat.le_refl _) _)⟩
set_option maxRecDepth 100000 in
set_option maxHeartbeats 2000000 in
theorem first_cut_v (A : Option Addr) (m c : Nat) (xs : List Int) (w : World) (hin : InB w A m c xs) (hm : m ≤ 4096) (C B : Int) (N : Nat) (hC : numS xs 0 4 = C) (hB : numS xs 4 1 = B) (hN : numS xs 5 3 = (N : Int)) (hN2 : N < 16777216)
    (hv : (bits .and .u32 B 128 != 0) = true) (h1 : 12 ≤ m) (h2 : 12 ≤ N) (h3 : m < N + padN N) : Calls Try.prog 53 #[.slice A m c] w (FErr 3 w) := by
  have HI := Lib.hid hin
  have HU := Lib.hid (up_alloc w (.cells #[.int .u32 0, .int .u32 0, .bool false, .bool false, .slice none 0 0] 56))
  have HQ := Lib.hid (new_at w (.cells #[.int .u32 0, .int .u32 0, .bool false, .bool false, .slice none 0 0] 56))
  have HCe := Lib.hid hC
  have HBe := Lib.hid hB
  have HNe := Lib.hid hN
  have HW := Lib.hid (Nat.le_refl w.heap.size)
  clear hin hC hB hN
  have d1 : decide ((m : Int) < 12) = false := by simp; omega
  have d2 : decide ((N : Int) < 12) = false := by simp; omega
  have d3 : decide ((m : Int) < (N : Int) + (padN N : Int)) = true := by simp; omega
  have hp := padN_lt N
  go_enter Try.func53, Try.ntmps53
  go_upto_region 1 with (fail)
  generalize w.alloc (.cells #[.int .u32 0, .int .u32 0, .bool false, .bool false, .slice none 0 0] 56) = wa at HU HQ ⊢
  generalize hqq : w.heap.size = q at HQ HW ⊢
  have HQE := Lib.hid hqq
  clear hqq HW
  have HIa := Lib.hid (HI.out.up HU.out)
  go_wp2_with fail
  refine (number_any A m c 0 4 xs wa HIa.out (by omega) (by omega) (by omega) (by omega)).mono ?_
  rw [HCe.out]
  rintro e w' ⟨rfl, hw⟩
  obtain rfl := hw.symm
  go_wp2_with fail
  refine (number_any A m c 4 1 xs wa HIa.out (by omega) (by omega) (by omega) (by omega)).mono ?_
  rw [HBe.out]
  rintro e w' ⟨rfl, hw⟩
  obtain rfl := hw.symm
  go_wp2_with fail
  refine (number_any A m c 5 3 xs wa HIa.out (by omega) (by omega) (by omega) (by omega)).mono ?_
  rw [HNe.out]
  rintro e w' ⟨rfl, hw⟩
  obtain rfl := hw.symm
  go_wp2_with fail
  refine (head_any true wa).mono ?_
  rintro e w' ⟨rfl, hw⟩
  obtain rfl := hw.symm
  go_wp2_with fail
  refine (pad_any N wa (by omega)).mono ?_
  rintro e w' ⟨rfl, rfl⟩
  go_wp2_with (with_reducible refine wpList_store_row rfl 56 _ _ rfl q #[.int .u32 0, .int .u32 0, .bool false, .bool false, .slice none 0 0] rfl rfl 56 _ HQ.out (by kernel_rfl) rfl (by simp [Value.oneCell']) ?_)
  refine bodyPost_ret (results_row_tmp2 (fn := Try.f53) (p := 2) (u := 3) (u' := 4) (ty := 56) rfl _ _ q 56 _ (0, 0) _ rfl (setRow_heap _ _ _ _ _ _ HQ.out) Try.underlying56 rfl (by kernel_rfl)) rfl ?_
  exact ⟨rfl, Lib.hid (below_setRow HU.out (by rw [HQE.out]; exact Nat.le_refl _) _)⟩
set_option maxRecDepth 100000 in
set_option maxHeartbeats 2000000 in
theorem first_short_n (A : Option Addr) (m c : Nat) (xs : List Int) (w : World) (hin : InB w A m c xs) (hm : m ≤ 4096) (C B : Int) (N : Nat) (hC : numS xs 0 4 = C) (hB : numS xs 4 1 = B) (hN : numS xs 5 3 = (N : Int)) (hN2 : N < 16777216)
    (hv : (bits .and .u32 B 128 != 0) = false) (h1 : m < 8) : Calls Try.prog 53 #[.slice A m c] w (FErr 3 w) := by
  have HI := Lib.hid hin
  have HU := Lib.hid (up_alloc w (.cells #[.int .u32 0, .int .u32 0, .bool false, .bool false, .slice none 0 0] 56))
  have HQ := Lib.hid (new_at w (.cells #[.int .u32 0, .int .u32 0, .bool false, .bool false, .slice none 0 0] 56))
  have HCe := Lib.hid hC
  have HBe := Lib.hid hB
  have HNe := Lib.hid hN
  have HW := Lib.hid (Nat.le_refl w.heap.size)
  clear hin hC hB hN
  have d1 : decide ((m : Int) < 8) = true := by simp; omega
  go_enter Try.func53, Try.ntmps53
  go_upto_region 1 with (fail)
  generalize w.alloc (.cells #[.int .u32 0, .int .u32 0, .bool false, .bool false, .slice none 0 0] 56) = wa at HU HQ ⊢
  generalize hqq : w.heap.size = q at HQ HW ⊢
  have HQE := Lib.hid hqq
  clear hqq HW
  have HIa := Lib.hid (HI.out.up HU.out)
  go_wp2_with fail
  refine (number_any A m c 0 4 xs wa HIa.out (by omega) (by omega) (by omega) (by omega)).mono ?_
  rw [HCe.out]
  rintro e w' ⟨rfl, hw⟩
  obtain rfl := hw.symm
  go_wp2_with fail
  refine (number_any A m c 4 1 xs wa HIa.out (by omega) (by omega) (by omega) (by omega)).mono ?_
  rw [HBe.out]
  rintro e w' ⟨rfl, hw⟩
  obtain rfl := hw.symm
  go_wp2_with fail
  refine (number_any A m c 5 3 xs wa HIa.out (by omega) (by omega) (by omega) (by omega)).mono ?_
  rw [HNe.out]
  rintro e w' ⟨rfl, hw⟩
  obtain rfl := hw.symm
  go_wp2_with fail
  refine (head_any false wa).mono ?_
  rintro e w' ⟨rfl, hw⟩
  obtain rfl := hw.symm
  go_wp2_with (with_reducible refine wpList_store_row rfl 56 _ _ rfl q #[.int .u32 0, .int .u32 0, .bool false, .bool false, .slice none 0 0] rfl rfl 56 _ HQ.out (by kernel_rfl) rfl (by simp [Value.oneCell']) ?_)
  refine bodyPost_ret (results_row_tmp2 (fn := Try.f53) (p := 2) (u := 3) (u' := 4) (ty := 56) rfl _ _ q 56 _ (0, 0) _ rfl (setRow_heap _ _ _ _ _ _ HQ.out) Try.underlying56 rfl (by kernel_rfl)) rfl ?_
  exact ⟨rfl, Lib.hid (below_setRow HU.out (by rw [HQE.out]; exact Nat.le_refl _) _)⟩
set_option maxRecDepth 100000 in
set_option maxHeartbeats 2000000 in
theorem first_form_n (A : Option Addr) (m c : Nat) (xs : List Int) (w : World) (hin : InB w A m c xs) (hm : m ≤ 4096) (C B : Int) (N : Nat) (hC : numS xs 0 4 = C) (hB : numS xs 4 1 = B) (hN : numS xs 5 3 = (N : Int)) (hN2 : N < 16777216)
    (hv : (bits .and .u32 B 128 != 0) = false) (h1 : 8 ≤ m) (h2 : N < 8) : Calls Try.prog 53 #[.slice A m c] w (FErr 2 w) := by
  have HI := Lib.hid hin
  have HU := Lib.hid (up_alloc w (.cells #[.int .u32 0, .int .u32 0, .bool false, .bool false, .slice none 0 0] 56))
  have HQ := Lib.hid (new_at w (.cells #[.int .u32 0, .int .u32 0, .bool false, .bool false, .slice none 0 0] 56))
  have HCe := Lib.hid hC
  have HBe := Lib.hid hB
  have HNe := Lib.hid hN
  have HW := Lib.hid (Nat.le_refl w.heap.size)
  clear hin hC hB hN
  have d1 : decide ((m : Int) < 8) = false := by simp; omega
  have d2 : decide ((N : Int) < 8) = true := by simp; omega
  go_enter Try.func53, Try.ntmps53
  go_upto_region 1 with (fail)
  generalize w.alloc (.cells #[.int .u32 0, .int .u32 0, .bool false, .bool false, .slice none 0 0] 56) = wa at HU HQ ⊢
  generalize hqq : w.heap.size = q at HQ HW ⊢
  have HQE := Lib.hid hqq
  clear hqq HW
  have HIa := Lib.hid (HI.out.up HU.out)
  go_wp2_with fail
  refine (number_any A m c 0 4 xs wa HIa.out (by omega) (by omega) (by omega) (by omega)).mono ?_
  rw [HCe.out]
  rintro e w' ⟨rfl, hw⟩
  obtain rfl := hw.symm
  go_wp2_with fail
  refine (number_any A m c 4 1 xs wa HIa.out (by omega) (by omega) (by omega) (by omega)).mono ?_
  rw [HBe.out]
  rintro e w' ⟨rfl, hw⟩
  obtain rfl := hw.symm
  go_wp2_with fail
  refine (number_any A m c 5 3 xs wa HIa.out (by omega) (by omega) (by omega) (by omega)).mono ?_
  rw [HNe.out]
  rintro e w' ⟨rfl, hw⟩
  obtain rfl := hw.symm
  go_wp2_with fail
  refine (head_any false wa).mono ?_
  rintro e w' ⟨rfl, hw⟩
  obtain rfl := hw.symm
  go_wp2_with (with_reducible refine wpList_store_row rfl 56 _ _ rfl q #[.int .u32 0, .int .u32 0, .bool false, .bool false, .slice none 0 0] rfl rfl 56 _ HQ.out (by kernel_rfl) rfl (by simp [Value.oneCell']) ?_)
  refine bodyPost_ret (results_row_tmp2 (fn := Try.f53) (p := 2) (u := 3) (u' := 4) (ty := 56) rfl _ _ q 56 _ (0, 0) _ rfl (setRow_heap _ _ _ _ _ _ HQ.out) Try.underlying56 rfl (by kernel_rfl)) rfl ?_
  exact ⟨rfl, Lib.hid (below_setRow HU.out (by rw [HQE.out]; exact Nat.le_refl _) _)⟩
set_option maxRecDepth 100000 in
set_option maxHeartbeats 2000000 in
theorem first_cut_n (A : Option Addr) (m c : Nat) (xs : List Int) (w : World) (hin : InB w A m c xs) (hm : m ≤ 4096) (C B : Int) (N : Nat) (hC : numS xs 0 4 = C) (hB : numS xs 4 1 = B) (hN : numS xs 5 3 = (N : Int)) (hN2 : N < 16777216)
    (hv : (bits .and .u32 B 128 != 0) = false) (h1 : 8 ≤ m) (h2 : 8 ≤ N) (h3 : m < N + padN N) : Calls Try.prog 53 #[.slice A m c] w (FErr 3 w) := by
  have HI := Lib.hid hin
  have HU := Lib.hid (up_alloc w (.cells #[.int .u32 0, .int .u32 0, .bool false, .bool false, .slice none 0 0] 56))
  have HQ := Lib.hid (new_at w (.cells #[.int .u32 0, .int .u32 0, .bool false, .bool false, .slice none 0 0] 56))
  have HCe := Lib.hid hC
  have HBe := Lib.hid hB
  have HNe := Lib.hid hN
  have HW := Lib.hid (Nat.le_refl w.heap.size)
  clear hin hC hB hN
  have d1 : decide ((m : Int) < 8) = false := by simp; omega
  have d2 : decide ((N : Int) < 8) = false := by simp; omega
  have d3 : decide ((m : Int) < (N : Int) + (padN N : Int)) = true := by simp; omega
  have hp := padN_lt N
  go_enter Try.func53, Try.ntmps53
  go_upto_region 1 with (fail)
  generalize w.alloc (.cells #[.int .u32 0, .int .u32 0, .bool false, .bool false, .slice none 0 0] 56) = wa at HU HQ ⊢
  generalize hqq : w.heap.size = q at HQ HW ⊢
  have HQE := Lib.hid hqq
  clear hqq HW
  have HIa := Lib.hid (HI.out.up HU.out)
  go_wp2_with fail
  refine (number_any A m c 0 4 xs wa HIa.out (by omega) (by omega) (by omega) (by omega)).mono ?_
  rw [HCe.out]
  rintro e w' ⟨rfl, hw⟩
  obtain rfl := hw.symm
  go_wp2_with fail
  refine (number_any A m c 4 1 xs wa HIa.out (by omega) (by omega) (by omega) (by omega)).mono ?_
  rw [HBe.out]
  rintro e w' ⟨rfl, hw⟩
  obtain rfl := hw.symm
  go_wp2_with fail
  refine (number_any A m c 5 3 xs wa HIa.out (by omega) (by omega) (by omega) (by omega)).mono ?_
  rw [HNe.out]
  rintro e w' ⟨rfl, hw⟩
  obtain rfl := hw.symm
  go_wp2_with fail
  refine (head_any false wa).mono ?_
  rintro e w' ⟨rfl, hw⟩
  obtain rfl := hw.symm
  go_wp2_with fail
  refine (pad_any N wa (by omega)).mono ?_
  rintro e w' ⟨rfl, rfl⟩
  go_wp2_with (with_reducible refine wpList_store_row rfl 56 _ _ rfl q #[.int .u32 0, .int .u32 0, .bool false, .bool false, .slice none 0 0] rfl rfl 56 _ HQ.out (by kernel_rfl) rfl (by simp [Value.oneCell']) ?_)
  refine bodyPost_ret (results_row_tmp2 (fn := Try.f53) (p := 2) (u := 3) (u' := 4) (ty := 56) rfl _ _ q 56 _ (0, 0) _ rfl (setRow_heap _ _ _ _ _ _ HQ.out) Try.underlying56 rfl (by kernel_rfl)) rfl ?_
  exact ⟨rfl, Lib.hid (below_setRow HU.out (by rw [HQE.out]; exact Nat.le_refl _) _)⟩
end Go.Proofs.Ythncpkjnalmpkaa
