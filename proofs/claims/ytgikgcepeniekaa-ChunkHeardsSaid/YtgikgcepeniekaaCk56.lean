import Derived.Test.YtgikgcepeniekaaCk52
import Derived.Test.YtgikgcepeniekaaCk36
namespace Go.Proofs.Ytgikgcepeniekaa
open Go Go.RowKit
set_option linter.unusedVariables false
set_option linter.unusedSimpArgs false
/-! The reference's ToHeard: mathematics, and its first ways out. -/
def gN (xs : List Int) (a i : Nat) : Int × Int := (nmA xs (a + 4 * i) 2, nmA xs (a + 2 + 4 * i) 2)
def gapsN (xs : List Int) (k : Nat) : List (Int × Int) := (List.range k).map (gN xs 12)
def dupsN (xs : List Int) (a k : Nat) : List Int := (List.range k).map fun i => nmA xs (a + 4 * i) 4
theorem gapsN_step (xs : List Int) (k : Nat) : gapsN xs (k + 1) = gapsN xs k ++ [(nmA xs (12 + 4 * k) 2, nmA xs (14 + 4 * k) 2)] := by simp [gapsN, gN, List.range_succ]
theorem dupsN_step (xs : List Int) (a k : Nat) : dupsN xs a (k + 1) = dupsN xs a k ++ [nmA xs (a + 4 * k) 4] := by simp [dupsN, List.range_succ]
theorem gapsN_len (xs : List Int) (k : Nat) : (gapsN xs k).length = k := by simp [gapsN]
theorem dupsN_len (xs : List Int) (a k : Nat) : (dupsN xs a k).length = k := by simp [dupsN]
theorem gapsN_ok {xs : List Int} (hb : Byt xs) {k : Nat} (h : 12 + 4 * k ≤ xs.length) : GapOk (gapsN xs k) := by
  have p2 : (256 : Int) ^ 2 = 65536 := by decide
  intro g hg
  obtain ⟨i, hi, rfl⟩ := List.mem_map.1 hg
  have := List.mem_range.1 hi
  exact ⟨p2 ▸ nmA_bd hb (by omega), p2 ▸ nmA_bd hb (by omega)⟩
theorem dupsN_ok {xs : List Int} (hb : Byt xs) {a k : Nat} (h : a + 4 * k ≤ xs.length) : DupOk (dupsN xs a k) := by
  have p4 : (256 : Int) ^ 4 = 4294967296 := by decide
  intro d hd
  obtain ⟨i, hi, rfl⟩ := List.mem_map.1 hd
  have := List.mem_range.1 hi
  exact p4 ▸ nmA_bd hb (by omega)
theorem gaps_at {xs l : List Int} : ∀ (gs : List (Int × Int)) (a : Nat), GapOk gs → xs.drop a = encG gs ++ l → (List.range gs.length).map (gN xs a) = gs ∧ xs.drop (a + 4 * gs.length) = l := by
  have p2 : (256 : Int) ^ 2 = 65536 := by decide
  intro gs
  induction gs with
  | nil => intro a _ h; exact ⟨rfl, by simpa [encG] using h⟩
  | cons g gs ih =>
    intro a hok h
    have h1 : xs.drop a = be g.1 2 ++ (be g.2 2 ++ (encG gs ++ l)) := by rw [h]; simp [encG]
    have hg := hok g List.mem_cons_self
    obtain ⟨v1, d1⟩ := nmA_bwd h1 (by rw [p2]; exact hg.1)
    obtain ⟨v2, d2⟩ := nmA_bwd d1 (by rw [p2]; exact hg.2)
    obtain ⟨i1, i2⟩ := ih (a + 4) (fun x hx => hok x (List.mem_cons_of_mem _ hx)) d2
    have e1 : gN xs a 0 = g := by unfold gN; simp only [Nat.mul_zero, Nat.add_zero]; rw [v1, v2]
    have e2 : gN xs a ∘ Nat.succ = gN xs (a + 4) := by
      funext i
      simp only [Function.comp, gN]
      rw [show a + 4 * i.succ = a + 4 + 4 * i by omega, show a + 2 + 4 * i.succ = a + 4 + 2 + 4 * i by omega]
    refine ⟨?_, by rw [List.length_cons, show a + 4 * (gs.length + 1) = a + 4 + 4 * gs.length by omega]; exact i2⟩
    rw [List.length_cons, List.range_succ_eq_map, List.map_cons, List.map_map, e1, e2, i1]
theorem dups_at {xs l : List Int} : ∀ (ds : List Int) (a : Nat), DupOk ds → xs.drop a = encDs ds ++ l → dupsN xs a ds.length = ds ∧ xs.drop (a + 4 * ds.length) = l := by
  have p4 : (256 : Int) ^ 4 = 4294967296 := by decide
  intro ds
  induction ds with
  | nil => intro a _ h; exact ⟨rfl, by simpa [encDs] using h⟩
  | cons d ds ih =>
    intro a hok h
    have h1 : xs.drop a = be d 4 ++ (encDs ds ++ l) := by rw [h]; simp [encDs]
    obtain ⟨v1, d1⟩ := nmA_bwd h1 (by rw [p4]; exact hok d List.mem_cons_self)
    obtain ⟨i1, i2⟩ := ih (a + 4) (fun x hx => hok x (List.mem_cons_of_mem _ hx)) d1
    have e2 : (fun i => nmA xs (a + 4 * i) 4) ∘ Nat.succ = fun i => nmA xs (a + 4 + 4 * i) 4 := by
      funext i
      simp only [Function.comp]
      rw [show a + 4 * i.succ = a + 4 + 4 * i by omega]
    refine ⟨?_, by rw [List.length_cons, show a + 4 * (ds.length + 1) = a + 4 + 4 * ds.length by omega]; exact i2⟩
    unfold dupsN at i1 ⊢
    rw [List.length_cons, List.range_succ_eq_map, List.map_cons, List.map_map, e2, i1, Nat.mul_zero, Nat.add_zero, v1]
/-- What stands there, as a Sack says it. -/
def hrN (xs : List Int) (g d : Nat) : Ck.Hrd := ⟨nmA xs 0 4, nmA xs 4 4, gapsN xs g, dupsN xs (12 + 4 * g) d⟩
theorem rD_f {fl : Int} {xs : List Int} {h : Ck.Hrd} (ho : HeardOK 3 fl xs h) : fl = 0 ∧ 12 ≤ xs.length ∧ nmA xs 8 2 = (h.gaps.length : Int) ∧ nmA xs 10 2 = (h.dups.length : Int) ∧ h.gaps.length ≤ 64 ∧ h.dups.length ≤ 64 ∧ xs.length = 12 + 4 * h.gaps.length + 4 * h.dups.length ∧ h = hrN xs h.gaps.length h.dups.length := by
  obtain ⟨-, a2, a3, a4, a5⟩ := ho
  have p4 : (256 : Int) ^ 4 = 4294967296 := by decide
  have p2 : (256 : Int) ^ 2 = 65536 := by decide
  have hz := chkD_zero a3
  have hx0 : xs.drop 0 = be h.cum 4 ++ (be h.win 4 ++ (be (h.gaps.length : Int) 2 ++ (be (h.dups.length : Int) 2 ++ (encG h.gaps ++ (encDs h.dups ++ []))))) := by
    rw [List.drop_zero]
    conv => lhs; rw [a5]
    simp [encD]
  obtain ⟨v1, d1⟩ := nmA_bwd hx0 (by rw [p4]; exact a4.cum)
  obtain ⟨v2, d2⟩ := nmA_bwd d1 (by rw [p4]; exact a4.win)
  obtain ⟨v3, d3⟩ := nmA_bwd d2 (by rw [p2]; omega)
  obtain ⟨v4, d4⟩ := nmA_bwd d3 (by rw [p2]; omega)
  obtain ⟨g1, g2⟩ := gaps_at h.gaps 12 a4.gaps d4
  obtain ⟨k1, k2⟩ := dups_at h.dups _ a4.dups g2
  have hl := congrArg List.length hx0
  have el : ∀ (gs : List (Int × Int)), (encG gs).length = 4 * gs.length := fun gs => by
    induction gs with
    | nil => rfl
    | cons g gs ih => simp only [encG, List.flatMap_cons, List.length_append, be_length, List.length_cons] at ih ⊢; omega
  have ed : ∀ (ds : List Int), (encDs ds).length = 4 * ds.length := fun ds => by
    induction ds with
    | nil => rfl
    | cons g gs ih => simp only [encDs, List.flatMap_cons, List.length_append, be_length, List.length_cons] at ih ⊢; omega
  simp only [List.drop_zero, List.length_append, be_length, el, ed, List.length_nil] at hl
  refine ⟨a2, by omega, v3, v4, by omega, by omega, by omega, ?_⟩
  obtain ⟨t1, t2, t3, t4⟩ := h
  simp only at v1 v2 v3 v4 g1 k1 ⊢
  unfold hrN gapsN
  rw [v1, v2, g1, k1]
theorem hrN_ok {xs : List Int} (hb : Byt xs) {g d : Nat} (h : xs.length = 12 + 4 * g + 4 * d) : Ck.HrdOk (hrN xs g d) := by
  have p4 : (256 : Int) ^ 4 = 4294967296 := by decide
  exact ⟨p4 ▸ nmA_bd hb (by omega), p4 ▸ nmA_bd hb (by omega), gapsN_ok hb (by omega), dupsN_ok hb (by omega)⟩
theorem chkD_val (h : Ck.Hrd) : Ck.chkD h = 0 ∨ Ck.chkD h = 2 ∨ Ck.chkD h = 4 := by
  unfold Ck.chkD; split
  · exact .inr (.inl rfl)
  · split
    · exact .inr (.inr rfl)
    · exact .inl rfl
theorem byt_encD (h : Ck.Hrd) : Byt (encD h) := by
  have eg : ∀ (gs : List (Int × Int)), Byt (encG gs) := fun gs => by
    induction gs with
    | nil => exact byt_nil
    | cons g gs ih => simp only [encG, List.flatMap_cons] at ih ⊢; exact ((be_byt _ _).append (be_byt _ _)).append ih
  have ed : ∀ (ds : List Int), Byt (encDs ds) := fun ds => by
    induction ds with
    | nil => exact byt_nil
    | cons g gs ih => simp only [encDs, List.flatMap_cons] at ih ⊢; exact (be_byt _ _).append ih
  exact (((((be_byt _ _).append (be_byt _ _)).append (be_byt _ _)).append (be_byt _ _)).append (eg _)).append (ed _)
theorem run_mul4 (b : Nat) (h : b ≤ 100000) (w : World) : (binOp .mul 3 (.int .i64 4) (.int .i64 (b : Int))).run Try.prog w = .ok (.int .i64 ((4 * b : Nat) : Int)) w := by
  simp [go_sem, IntKind.wrap, IntKind.bits, IntKind.signed]; omega
theorem grd3m (x y : Operand) (a b : Int) (w : World) : (eqGuard .mul 3 x y (.int .i64 a) (.int .i64 b)).run Try.prog w = .ok () w := by kernel_rfl
set_option maxRecDepth 100000 in
theorem rtoD_e1 (A : Option Addr) (m c : Nat) (ty fl : Int) (w : World) (h1 : (ty != 3) = true) : Calls Try.prog 32 #[chV ty fl (.slice A m c)] w (DNo w) := by
  obtain ⟨W, hW⟩ : ∃ W, W = (w.alloc (.cells #[.int .u8 ty, .int .u8 fl, .slice A m c] 41)).alloc (.cells #[.int .u32 0, .int .u32 0, .slice none 0 0, .slice none 0 0] 59) := ⟨_, rfl⟩
  have u1 := up_alloc w (.cells #[.int .u8 ty, .int .u8 fl, .slice A m c] 41)
  have a1 := new_at w (.cells #[.int .u8 ty, .int .u8 fl, .slice A m c] 41)
  have u2 := up_alloc (w.alloc (.cells #[.int .u8 ty, .int .u8 fl, .slice A m c] 41)) (.cells #[.int .u32 0, .int .u32 0, .slice none 0 0, .slice none 0 0] 59)
  have a2 := new_at (w.alloc (.cells #[.int .u8 ty, .int .u8 fl, .slice A m c] 41)) (.cells #[.int .u32 0, .int .u32 0, .slice none 0 0, .slice none 0 0] 59)
  have b1 := (u2.block _ (lt_of_blk a1)).trans a1
  have s1 : (w.alloc (.cells #[.int .u8 ty, .int .u8 fl, .slice A m c] 41)).heap.size = w.heap.size + 1 := by simp
  rw [s1] at a2
  have HS := Lib.hid (show ((w.alloc (.cells #[.int .u8 ty, .int .u8 fl, .slice A m c] 41)).alloc (.cells #[.int .u32 0, .int .u32 0, .slice none 0 0, .slice none 0 0] 59)).heap.size = w.heap.size + 1 + 1 by simp)
  have HU := Lib.hid (u1.trans u2)
  rw [← hW] at a2 b1 HU HS
  have HW := Lib.hid hW
  have HQ := Lib.hid a2
  have HB := Lib.hid b1
  have c0 := cell_of b1 (j := 0) rfl
  have c1 := cell_of b1 (j := 1) rfl
  have c2 := cell_of b1 (j := 2) rfl
  clear u1 a1 u2 a2 b1 s1 hW
  unfold chV
  go_enter Try.func32, Try.ntmps32
  go_upto_region 1 with (fail)
  rw [← HW.out]
  have e0 := cell_of HQ.out (j := 0) rfl
  have f0 := frozen_at (j := 0) HQ.out
  have e1 := cell_of HQ.out (j := 1) rfl
  have f1 := frozen_at (j := 1) HQ.out
  have e2 := cell_of HQ.out (j := 2) rfl
  have f2 := frozen_at (j := 2) HQ.out
  have e3 := cell_of HQ.out (j := 3) rfl
  have f3 := frozen_at (j := 3) HQ.out
  go_wp2_with fail
  have hs := set4 (a := .int .u32 0) (b := .int .u32 0) (c := .slice none 0 0) (d := .slice none 0 0) HQ.out rfl
  refine bodyPost_ret (results_row_tmp (fn := Try.f32) (p := 2) (u := 3) (ty := 59) rfl _ _ (w.heap.size + 1) 59 _ (0, 0) _ rfl hs.1 Try.underlying59 rfl rfl) rfl ⟨rfl, Lib.hid (Below.out HU.out hs.2 (fun k hk => by rw [hk]; omega) HU.out.size)⟩
set_option maxRecDepth 100000 in
theorem rtoD_e2 (A : Option Addr) (m c : Nat) (fl : Int) (w : World) (h1 : m < 12) : Calls Try.prog 32 #[chV 3 fl (.slice A m c)] w (DNo w) := by
  obtain ⟨W, hW⟩ : ∃ W, W = (w.alloc (.cells #[.int .u8 3, .int .u8 fl, .slice A m c] 41)).alloc (.cells #[.int .u32 0, .int .u32 0, .slice none 0 0, .slice none 0 0] 59) := ⟨_, rfl⟩
  have u1 := up_alloc w (.cells #[.int .u8 3, .int .u8 fl, .slice A m c] 41)
  have a1 := new_at w (.cells #[.int .u8 3, .int .u8 fl, .slice A m c] 41)
  have u2 := up_alloc (w.alloc (.cells #[.int .u8 3, .int .u8 fl, .slice A m c] 41)) (.cells #[.int .u32 0, .int .u32 0, .slice none 0 0, .slice none 0 0] 59)
  have a2 := new_at (w.alloc (.cells #[.int .u8 3, .int .u8 fl, .slice A m c] 41)) (.cells #[.int .u32 0, .int .u32 0, .slice none 0 0, .slice none 0 0] 59)
  have b1 := (u2.block _ (lt_of_blk a1)).trans a1
  have s1 : (w.alloc (.cells #[.int .u8 3, .int .u8 fl, .slice A m c] 41)).heap.size = w.heap.size + 1 := by simp
  rw [s1] at a2
  have HS := Lib.hid (show ((w.alloc (.cells #[.int .u8 3, .int .u8 fl, .slice A m c] 41)).alloc (.cells #[.int .u32 0, .int .u32 0, .slice none 0 0, .slice none 0 0] 59)).heap.size = w.heap.size + 1 + 1 by simp)
  have HU := Lib.hid (u1.trans u2)
  rw [← hW] at a2 b1 HU HS
  have HW := Lib.hid hW
  have HQ := Lib.hid a2
  have HB := Lib.hid b1
  have c0 := cell_of b1 (j := 0) rfl
  have c1 := cell_of b1 (j := 1) rfl
  have c2 := cell_of b1 (j := 2) rfl
  clear u1 a1 u2 a2 b1 s1 hW
  unfold chV
  go_enter Try.func32, Try.ntmps32
  go_upto_region 1 with (fail)
  rw [← HW.out]
  have e0 := cell_of HQ.out (j := 0) rfl
  have f0 := frozen_at (j := 0) HQ.out
  have e1 := cell_of HQ.out (j := 1) rfl
  have f1 := frozen_at (j := 1) HQ.out
  have e2 := cell_of HQ.out (j := 2) rfl
  have f2 := frozen_at (j := 2) HQ.out
  have e3 := cell_of HQ.out (j := 3) rfl
  have f3 := frozen_at (j := 3) HQ.out
  go_wp2_with fail
  have hs := set4 (a := .int .u32 0) (b := .int .u32 0) (c := .slice none 0 0) (d := .slice none 0 0) HQ.out rfl
  refine bodyPost_ret (results_row_tmp (fn := Try.f32) (p := 2) (u := 3) (ty := 59) rfl _ _ (w.heap.size + 1) 59 _ (0, 0) _ rfl hs.1 Try.underlying59 rfl rfl) rfl ⟨rfl, Lib.hid (Below.out HU.out hs.2 (fun k hk => by rw [hk]; omega) HU.out.size)⟩
end Go.Proofs.Ytgikgcepeniekaa
