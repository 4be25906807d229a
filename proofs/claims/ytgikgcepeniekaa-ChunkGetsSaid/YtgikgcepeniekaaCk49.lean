import Derived.Test.YtgikgcepeniekaaCk32
import Derived.Test.YtgikgcepeniekaaCk20
namespace Go.Proofs.Ytgikgcepeniekaa
open Go Go.RowKit
set_option linter.unusedVariables false
set_option linter.unusedSimpArgs false
/-! The reference's ToPiece. -/
/-- A slice without room. -/
def PhE (v : Value) (w : World) : Prop := ∃ b, v = .slice (some b) 0 0
theorem keeps_PhE : Keeps PhE := fun v w w' h _ => h
theorem kpT_PhE (T : Nat → Prop) : KpT T PhE := fun _ _ _ h _ => h
theorem kpT_PhB {T : Nat → Prop} {B : Nat} {ys : List Int} (ht : ∀ k, T k → k < B) : KpT T (PhB B ys) := fun v w w' ⟨A, N, c, e, hn, ho⟩ hu => ⟨A, N, c, e, hn, hu.own ho (fun q hq hk => by have := (row_lt ho (by rwa [ownBlock_slice] at hq)).1; have := ht q hk; omega)⟩
/-- A copy, made by 'append'. -/
theorem append_copy {P : Program} {w : World} {k : IntKind} {t ty e : TypeId} {bytes : Nat} (ht : P.underlying t = some (.slice e)) (hinfo : (P.info? e).map (fun i => (i.zero, i.size, i.bytes)) = some (some (.int k 0), 1, bytes)) (b0 : Addr) (A : Addr) (m c : Nat) (ys : List Int) (hl : ys.length = m) (hc : Cells w (some A) (ints k ys)) (h0 : 0 < m) (hm : m ≤ 1000000000) (hby : bytes ≤ 8) (hby0 : 0 < bytes) :
    ∃ A' c' w', (Builtin.append_ #[t, t] ty #[.slice (some b0) 0 0, .slice (some A) m c]).run P w = .ok (.slice A' m c') w' ∧ OwnI k e w.heap.size w' A' m c' ys ∧ Up w w' := by
  obtain ⟨i, hi, hz0, hz1, hz2⟩ := info_parts hinfo
  have hcells : ∀ j u, (ints k ys)[j]? = some u → w.cell? (A.add j) = some u := fun j u hu => by
    obtain ⟨g, o, e, _, hh⟩ := hc (by intro h; rw [h] at hu; simp at hu)
    injection e with e
    subst e
    rw [add_flat]
    exact hh j u hu
  have hr := run_append_grow (P := P) w t ty e i (.int k 0) ht hi hz0 b0 0 0 [] (by simp) (by intro j v hj; simp at hj) A m c (ints k ys) (by rw [ints_length, hz1, hl, Nat.mul_one]) hcells (by omega) (by omega) (growslice_fits (by omega) (by have := Nat.mul_le_mul hm hby; rw [hz2, Nat.zero_add]; omega))
  simp only [Nat.zero_add] at hr
  have hge := grownCap_ge w m 0 e
  refine ⟨_, _, _, hr, ?_, (Up.drew w).trans (up_alloc _ _)⟩
  have hcm : grownCap w m 0 e ≤ maxLen := grownCap_le_maxLen w m 0 e (by unfold maxLen; omega)
  refine ⟨by rw [ints_length, hl, Nat.mul_one], .inr ⟨w.heap.size, _, _, rfl, Nat.le_refl _, heap_alloc_new w.drew _, hge, hcm, ?_, ?_⟩⟩
  · simp only [Array.size_append, List.size_toArray, size_zeroCells, ints_length, hl, List.length_nil]
    have : (Value.int k 0).cells.size = 1 := rfl
    rw [this]; omega
  · simp only [Array.toList_append, List.append_assoc]
    rw [Nat.mul_one]
    have hz : (ints k ys).length = m := (ints_length k ys).trans hl
    subst hz
    simp
/-- What stands there, as a piece. -/
def pcH (xs : List Int) (fl : Int) : Ck.Pc := ⟨nmA xs 0 4, nmA xs 4 2, nmA xs 6 2, (fl / 2 % 2 == 1), (fl % 2 == 1), decide (4 ≤ fl), xs.drop 12⟩
theorem flg_pcH {fl : Int} (h0 : 0 ≤ fl) (h7 : fl ≤ 7) : Ck.flgB (fl / 2 % 2 == 1) (fl % 2 == 1) (decide (4 ≤ fl)) = fl := by
  have hk : fl = 0 ∨ fl = 1 ∨ fl = 2 ∨ fl = 3 ∨ fl = 4 ∨ fl = 5 ∨ fl = 6 ∨ fl = 7 := by omega
  rcases hk with rfl | rfl | rfl | rfl | rfl | rfl | rfl | rfl <;> decide
theorem flgB_7 : ∀ a b c : Bool, Ck.flgB a b c ≤ 7 := by decide
theorem flgB_back : ∀ a b c : Bool, (Ck.flgB a b c / 2 % 2 == 1) = a ∧ (Ck.flgB a b c % 2 == 1) = b ∧ decide (4 ≤ Ck.flgB a b c) = c := by decide
theorem chkP_z {p : Ck.Pc} (h : Ck.chkP p = 0) : 1 ≤ p.bs.length ∧ p.bs.length ≤ 256 ∧ p.str < 8 := by
  unfold Ck.chkP at h
  split at h
  · exact absurd h (by decide)
  · split at h
    · exact absurd h (by decide)
    · omega
theorem rP_f {fl : Int} {xs : List Int} {p : Ck.Pc} (ho : PieceOK 0 fl xs p) : fl ≤ 7 ∧ 13 ≤ xs.length ∧ xs.length ≤ 268 ∧ nmA xs 4 2 < 8 ∧ nmA xs 8 4 = 46 ∧ p = pcH xs fl := by
  obtain ⟨-, a2, a3, a4, a5, a6⟩ := ho
  have p4 : (256 : Int) ^ 4 = 4294967296 := by decide
  have p2 : (256 : Int) ^ 2 = 65536 := by decide
  have hx0 : xs.drop 0 = be p.tsn 4 ++ (be p.str 2 ++ (be p.seq 2 ++ (be 46 4 ++ p.bs))) := by
    rw [List.drop_zero]
    conv => lhs; rw [a6]
    simp [encP]
  obtain ⟨v1, d1⟩ := nmA_bwd hx0 (by rw [p4]; exact a4.tsn)
  obtain ⟨v2, d2⟩ := nmA_bwd d1 (by rw [p2]; exact a4.str)
  obtain ⟨v3, d3⟩ := nmA_bwd d2 (by rw [p2]; exact a4.seq)
  obtain ⟨v4, d4⟩ := nmA_bwd d3 (by decide)
  have hl := congrArg List.length a6
  simp [encP, be_length] at hl
  obtain ⟨z1, z2, z3⟩ := chkP_z a3
  refine ⟨by rw [a2]; exact flgB_7 _ _ _, by omega, by omega, by rw [v2]; exact z3, v4, ?_⟩
  obtain ⟨t1, t2, t3, t4, t5, t6, t7⟩ := p
  simp only at v1 v2 v3 d4
  have hb := flgB_back t4 t5 t6
  have a2' : fl = Ck.flgB t4 t5 t6 := a2
  rw [← a2'] at hb
  unfold pcH
  rw [v1, v2, v3, hb.1, hb.2.1, hb.2.2, ← d4]
theorem pcH_ok {xs : List Int} {fl : Int} (hb : Byt xs) (h : 12 ≤ xs.length) : Ck.PcOk (pcH xs fl) := by
  have p4 : (256 : Int) ^ 4 = 4294967296 := by decide
  have p2 : (256 : Int) ^ 2 = 65536 := by decide
  exact ⟨p4 ▸ nmA_bd hb (by omega), p2 ▸ nmA_bd hb (by omega), p2 ▸ nmA_bd hb (by omega)⟩
theorem rP_b {fl : Int} {xs : List Int} (hb : Byt xs) (h0 : 0 ≤ fl) (h7 : fl ≤ 7) (h13 : 13 ≤ xs.length) (h268 : xs.length ≤ 268) (hs : nmA xs 4 2 < 8) (hk : nmA xs 8 4 = 46) : PieceOK 0 fl xs (pcH xs fl) := by
  refine ⟨rfl, (flg_pcH h0 h7).symm, ?_, pcH_ok hb (by omega), hb.drop _, ?_⟩
  · have hl : (pcH xs fl).bs.length = xs.length - 12 := by simp [pcH]
    have h1 : (pcH xs fl).str < 8 := hs
    unfold Ck.chkP
    rw [if_neg (by omega), if_neg (by omega)]
  · have e1 := nmA_fwd hb (show 0 + 4 ≤ xs.length by omega)
    have e2 := nmA_fwd hb (show 4 + 2 ≤ xs.length by omega)
    have e3 := nmA_fwd hb (show 6 + 2 ≤ xs.length by omega)
    have e4 := nmA_fwd hb (show 8 + 4 ≤ xs.length by omega)
    rw [hk] at e4
    simp only [Nat.zero_add, List.drop_zero] at e1
    conv => lhs; rw [e1]
    rw [e2, e3, e4]
    simp [encP, pcH]
set_option maxRecDepth 100000 in
theorem rtoP_e1 (A : Option Addr) (m c : Nat) (ty fl : Int) (w : World) (h1 : (ty != 0) = true) : Calls Try.prog 27 #[chV ty fl (.slice A m c)] w (PNo w) := by
  obtain ⟨W, hW⟩ : ∃ W, W = (w.alloc (.cells #[.int .u8 ty, .int .u8 fl, .slice A m c] 41)).alloc (.cells #[.int .u32 0, .int .u16 0, .int .u16 0, .bool false, .bool false, .bool false, .slice none 0 0] 50) := ⟨_, rfl⟩
  have u1 := up_alloc w (.cells #[.int .u8 ty, .int .u8 fl, .slice A m c] 41)
  have a1 := new_at w (.cells #[.int .u8 ty, .int .u8 fl, .slice A m c] 41)
  have u2 := up_alloc (w.alloc (.cells #[.int .u8 ty, .int .u8 fl, .slice A m c] 41)) (.cells #[.int .u32 0, .int .u16 0, .int .u16 0, .bool false, .bool false, .bool false, .slice none 0 0] 50)
  have a2 := new_at (w.alloc (.cells #[.int .u8 ty, .int .u8 fl, .slice A m c] 41)) (.cells #[.int .u32 0, .int .u16 0, .int .u16 0, .bool false, .bool false, .bool false, .slice none 0 0] 50)
  have b1 := (u2.block _ (lt_of_blk a1)).trans a1
  have s1 : (w.alloc (.cells #[.int .u8 ty, .int .u8 fl, .slice A m c] 41)).heap.size = w.heap.size + 1 := by simp
  rw [s1] at a2
  have HS := Lib.hid (show ((w.alloc (.cells #[.int .u8 ty, .int .u8 fl, .slice A m c] 41)).alloc (.cells #[.int .u32 0, .int .u16 0, .int .u16 0, .bool false, .bool false, .bool false, .slice none 0 0] 50)).heap.size = w.heap.size + 1 + 1 by simp)
  have HU := Lib.hid (u1.trans u2)
  rw [← hW] at a2 b1 HU HS
  have HW := Lib.hid hW
  have HQ := Lib.hid a2
  have HB := Lib.hid b1
  have c0 := cell_of b1 (j := 0) rfl
  have c1 := cell_of b1 (j := 1) rfl
  have c2 := cell_of b1 (j := 2) rfl
  clear u1 a1 u2 a2 b1 s1 hW
  unfold chV
  go_enter Try.func27, Try.ntmps27
  go_upto_region 1 with (fail)
  rw [← HW.out]
  have e0 := cell_of HQ.out (j := 0) rfl
  have f0 := frozen_at (j := 0) HQ.out
  have e1 := cell_of HQ.out (j := 1) rfl
  have f1 := frozen_at (j := 1) HQ.out
  have e2 := cell_of HQ.out (j := 2) rfl
  have f2 := frozen_at (j := 2) HQ.out
  have e3 := cell_of HQ.out (j := 3) rfl
  have f3 := frozen_at (j := 3) HQ.out
  have e4 := cell_of HQ.out (j := 4) rfl
  have f4 := frozen_at (j := 4) HQ.out
  have e5 := cell_of HQ.out (j := 5) rfl
  have f5 := frozen_at (j := 5) HQ.out
  have e6 := cell_of HQ.out (j := 6) rfl
  have f6 := frozen_at (j := 6) HQ.out
  go_wp2_with fail
  have hs := set7 (a := .int .u32 0) (b := .int .u16 0) (c := .int .u16 0) (d := .bool false) (e := .bool false) (f := .bool false) (g := .slice none 0 0) HQ.out rfl
  refine bodyPost_ret (results_row_tmp (fn := Try.f27) (p := 2) (u := 3) (ty := 50) rfl _ _ (w.heap.size + 1) 50 _ (0, 0) _ rfl hs.1 Try.underlying50 rfl rfl) rfl ⟨rfl, Lib.hid (Below.out HU.out hs.2 (fun k hk => by rw [hk]; omega) HU.out.size)⟩
set_option maxRecDepth 100000 in
theorem rtoP_e2 (A : Option Addr) (m c : Nat) (fl : Int) (w : World) (h1 : 7 < fl) : Calls Try.prog 27 #[chV 0 fl (.slice A m c)] w (PNo w) := by
  obtain ⟨W, hW⟩ : ∃ W, W = (w.alloc (.cells #[.int .u8 0, .int .u8 fl, .slice A m c] 41)).alloc (.cells #[.int .u32 0, .int .u16 0, .int .u16 0, .bool false, .bool false, .bool false, .slice none 0 0] 50) := ⟨_, rfl⟩
  have u1 := up_alloc w (.cells #[.int .u8 0, .int .u8 fl, .slice A m c] 41)
  have a1 := new_at w (.cells #[.int .u8 0, .int .u8 fl, .slice A m c] 41)
  have u2 := up_alloc (w.alloc (.cells #[.int .u8 0, .int .u8 fl, .slice A m c] 41)) (.cells #[.int .u32 0, .int .u16 0, .int .u16 0, .bool false, .bool false, .bool false, .slice none 0 0] 50)
  have a2 := new_at (w.alloc (.cells #[.int .u8 0, .int .u8 fl, .slice A m c] 41)) (.cells #[.int .u32 0, .int .u16 0, .int .u16 0, .bool false, .bool false, .bool false, .slice none 0 0] 50)
  have b1 := (u2.block _ (lt_of_blk a1)).trans a1
  have s1 : (w.alloc (.cells #[.int .u8 0, .int .u8 fl, .slice A m c] 41)).heap.size = w.heap.size + 1 := by simp
  rw [s1] at a2
  have HS := Lib.hid (show ((w.alloc (.cells #[.int .u8 0, .int .u8 fl, .slice A m c] 41)).alloc (.cells #[.int .u32 0, .int .u16 0, .int .u16 0, .bool false, .bool false, .bool false, .slice none 0 0] 50)).heap.size = w.heap.size + 1 + 1 by simp)
  have HU := Lib.hid (u1.trans u2)
  rw [← hW] at a2 b1 HU HS
  have HW := Lib.hid hW
  have HQ := Lib.hid a2
  have HB := Lib.hid b1
  have c0 := cell_of b1 (j := 0) rfl
  have c1 := cell_of b1 (j := 1) rfl
  have c2 := cell_of b1 (j := 2) rfl
  clear u1 a1 u2 a2 b1 s1 hW
  unfold chV
  go_enter Try.func27, Try.ntmps27
  go_upto_region 1 with (fail)
  rw [← HW.out]
  have e0 := cell_of HQ.out (j := 0) rfl
  have f0 := frozen_at (j := 0) HQ.out
  have e1 := cell_of HQ.out (j := 1) rfl
  have f1 := frozen_at (j := 1) HQ.out
  have e2 := cell_of HQ.out (j := 2) rfl
  have f2 := frozen_at (j := 2) HQ.out
  have e3 := cell_of HQ.out (j := 3) rfl
  have f3 := frozen_at (j := 3) HQ.out
  have e4 := cell_of HQ.out (j := 4) rfl
  have f4 := frozen_at (j := 4) HQ.out
  have e5 := cell_of HQ.out (j := 5) rfl
  have f5 := frozen_at (j := 5) HQ.out
  have e6 := cell_of HQ.out (j := 6) rfl
  have f6 := frozen_at (j := 6) HQ.out
  go_wp2_with fail
  have hs := set7 (a := .int .u32 0) (b := .int .u16 0) (c := .int .u16 0) (d := .bool false) (e := .bool false) (f := .bool false) (g := .slice none 0 0) HQ.out rfl
  refine bodyPost_ret (results_row_tmp (fn := Try.f27) (p := 2) (u := 3) (ty := 50) rfl _ _ (w.heap.size + 1) 50 _ (0, 0) _ rfl hs.1 Try.underlying50 rfl rfl) rfl ⟨rfl, Lib.hid (Below.out HU.out hs.2 (fun k hk => by rw [hk]; omega) HU.out.size)⟩
set_option maxRecDepth 100000 in
theorem rtoP_e3 (A : Option Addr) (m c : Nat) (fl : Int) (w : World) (h1 : fl ≤ 7) (h2 : m < 13) : Calls Try.prog 27 #[chV 0 fl (.slice A m c)] w (PNo w) := by
  obtain ⟨W, hW⟩ : ∃ W, W = (w.alloc (.cells #[.int .u8 0, .int .u8 fl, .slice A m c] 41)).alloc (.cells #[.int .u32 0, .int .u16 0, .int .u16 0, .bool false, .bool false, .bool false, .slice none 0 0] 50) := ⟨_, rfl⟩
  have u1 := up_alloc w (.cells #[.int .u8 0, .int .u8 fl, .slice A m c] 41)
  have a1 := new_at w (.cells #[.int .u8 0, .int .u8 fl, .slice A m c] 41)
  have u2 := up_alloc (w.alloc (.cells #[.int .u8 0, .int .u8 fl, .slice A m c] 41)) (.cells #[.int .u32 0, .int .u16 0, .int .u16 0, .bool false, .bool false, .bool false, .slice none 0 0] 50)
  have a2 := new_at (w.alloc (.cells #[.int .u8 0, .int .u8 fl, .slice A m c] 41)) (.cells #[.int .u32 0, .int .u16 0, .int .u16 0, .bool false, .bool false, .bool false, .slice none 0 0] 50)
  have b1 := (u2.block _ (lt_of_blk a1)).trans a1
  have s1 : (w.alloc (.cells #[.int .u8 0, .int .u8 fl, .slice A m c] 41)).heap.size = w.heap.size + 1 := by simp
  rw [s1] at a2
  have HS := Lib.hid (show ((w.alloc (.cells #[.int .u8 0, .int .u8 fl, .slice A m c] 41)).alloc (.cells #[.int .u32 0, .int .u16 0, .int .u16 0, .bool false, .bool false, .bool false, .slice none 0 0] 50)).heap.size = w.heap.size + 1 + 1 by simp)
  have HU := Lib.hid (u1.trans u2)
  rw [← hW] at a2 b1 HU HS
  have HW := Lib.hid hW
  have HQ := Lib.hid a2
  have HB := Lib.hid b1
  have c0 := cell_of b1 (j := 0) rfl
  have c1 := cell_of b1 (j := 1) rfl
  have c2 := cell_of b1 (j := 2) rfl
  clear u1 a1 u2 a2 b1 s1 hW
  unfold chV
  have d1 : decide (7 < fl) = false := by simp; omega
  go_enter Try.func27, Try.ntmps27
  go_upto_region 1 with (fail)
  rw [← HW.out]
  have e0 := cell_of HQ.out (j := 0) rfl
  have f0 := frozen_at (j := 0) HQ.out
  have e1 := cell_of HQ.out (j := 1) rfl
  have f1 := frozen_at (j := 1) HQ.out
  have e2 := cell_of HQ.out (j := 2) rfl
  have f2 := frozen_at (j := 2) HQ.out
  have e3 := cell_of HQ.out (j := 3) rfl
  have f3 := frozen_at (j := 3) HQ.out
  have e4 := cell_of HQ.out (j := 4) rfl
  have f4 := frozen_at (j := 4) HQ.out
  have e5 := cell_of HQ.out (j := 5) rfl
  have f5 := frozen_at (j := 5) HQ.out
  have e6 := cell_of HQ.out (j := 6) rfl
  have f6 := frozen_at (j := 6) HQ.out
  go_wp2_with fail
  have hs := set7 (a := .int .u32 0) (b := .int .u16 0) (c := .int .u16 0) (d := .bool false) (e := .bool false) (f := .bool false) (g := .slice none 0 0) HQ.out rfl
  refine bodyPost_ret (results_row_tmp (fn := Try.f27) (p := 2) (u := 3) (ty := 50) rfl _ _ (w.heap.size + 1) 50 _ (0, 0) _ rfl hs.1 Try.underlying50 rfl rfl) rfl ⟨rfl, Lib.hid (Below.out HU.out hs.2 (fun k hk => by rw [hk]; omega) HU.out.size)⟩
set_option maxRecDepth 100000 in
theorem rtoP_e4 (A : Option Addr) (m c : Nat) (fl : Int) (w : World) (h1 : fl ≤ 7) (h2 : 268 < m) : Calls Try.prog 27 #[chV 0 fl (.slice A m c)] w (PNo w) := by
  obtain ⟨W, hW⟩ : ∃ W, W = (w.alloc (.cells #[.int .u8 0, .int .u8 fl, .slice A m c] 41)).alloc (.cells #[.int .u32 0, .int .u16 0, .int .u16 0, .bool false, .bool false, .bool false, .slice none 0 0] 50) := ⟨_, rfl⟩
  have u1 := up_alloc w (.cells #[.int .u8 0, .int .u8 fl, .slice A m c] 41)
  have a1 := new_at w (.cells #[.int .u8 0, .int .u8 fl, .slice A m c] 41)
  have u2 := up_alloc (w.alloc (.cells #[.int .u8 0, .int .u8 fl, .slice A m c] 41)) (.cells #[.int .u32 0, .int .u16 0, .int .u16 0, .bool false, .bool false, .bool false, .slice none 0 0] 50)
  have a2 := new_at (w.alloc (.cells #[.int .u8 0, .int .u8 fl, .slice A m c] 41)) (.cells #[.int .u32 0, .int .u16 0, .int .u16 0, .bool false, .bool false, .bool false, .slice none 0 0] 50)
  have b1 := (u2.block _ (lt_of_blk a1)).trans a1
  have s1 : (w.alloc (.cells #[.int .u8 0, .int .u8 fl, .slice A m c] 41)).heap.size = w.heap.size + 1 := by simp
  rw [s1] at a2
  have HS := Lib.hid (show ((w.alloc (.cells #[.int .u8 0, .int .u8 fl, .slice A m c] 41)).alloc (.cells #[.int .u32 0, .int .u16 0, .int .u16 0, .bool false, .bool false, .bool false, .slice none 0 0] 50)).heap.size = w.heap.size + 1 + 1 by simp)
  have HU := Lib.hid (u1.trans u2)
  rw [← hW] at a2 b1 HU HS
  have HW := Lib.hid hW
  have HQ := Lib.hid a2
  have HB := Lib.hid b1
  have c0 := cell_of b1 (j := 0) rfl
  have c1 := cell_of b1 (j := 1) rfl
  have c2 := cell_of b1 (j := 2) rfl
  clear u1 a1 u2 a2 b1 s1 hW
  unfold chV
  have d1 : decide (7 < fl) = false := by simp; omega
  have d2 : decide ((m : Int) < 13) = false := by simp; omega
  go_enter Try.func27, Try.ntmps27
  go_upto_region 1 with (fail)
  rw [← HW.out]
  have e0 := cell_of HQ.out (j := 0) rfl
  have f0 := frozen_at (j := 0) HQ.out
  have e1 := cell_of HQ.out (j := 1) rfl
  have f1 := frozen_at (j := 1) HQ.out
  have e2 := cell_of HQ.out (j := 2) rfl
  have f2 := frozen_at (j := 2) HQ.out
  have e3 := cell_of HQ.out (j := 3) rfl
  have f3 := frozen_at (j := 3) HQ.out
  have e4 := cell_of HQ.out (j := 4) rfl
  have f4 := frozen_at (j := 4) HQ.out
  have e5 := cell_of HQ.out (j := 5) rfl
  have f5 := frozen_at (j := 5) HQ.out
  have e6 := cell_of HQ.out (j := 6) rfl
  have f6 := frozen_at (j := 6) HQ.out
  go_wp2_with fail
  have hs := set7 (a := .int .u32 0) (b := .int .u16 0) (c := .int .u16 0) (d := .bool false) (e := .bool false) (f := .bool false) (g := .slice none 0 0) HQ.out rfl
  refine bodyPost_ret (results_row_tmp (fn := Try.f27) (p := 2) (u := 3) (ty := 50) rfl _ _ (w.heap.size + 1) 50 _ (0, 0) _ rfl hs.1 Try.underlying50 rfl rfl) rfl ⟨rfl, Lib.hid (Below.out HU.out hs.2 (fun k hk => by rw [hk]; omega) HU.out.size)⟩
end Go.Proofs.Ytgikgcepeniekaa
namespace Go.Proofs.Ytgikgcepeniekaa
open Go Go.RowKit
set_option linter.unusedVariables false
set_option linter.unusedSimpArgs false
theorem info5s : (Try.prog.info? 5).map (fun i => (i.zero, i.size, i.bytes)) = some (some (.int .u8 0), 1, 1) := by kernel_rfl
theorem sz50 (w : World) : (Go.sizeOf 50).run Try.prog w = .ok 7 w := by kernel_rfl
theorem run_geq5 (a b : Int) (w : World) : (binOp .geq 5 (.int .u8 a) (.int .u8 b)).run Try.prog w = .ok (.bool (decide (b ≤ a))) w := by simp [go_sem]
theorem run_eql5 (a b : Int) (w : World) : (binOp .eql 5 (.int .u8 a) (.int .u8 b)).run Try.prog w = .ok (.bool (a == b)) w := by simp [go_sem]
theorem run_quo5 (a : Int) (h : 0 ≤ a) (h2 : a < 256) (w : World) : (binOp .quo 5 (.int .u8 a) (.int .u8 2)).run Try.prog w = .ok (.int .u8 (a / 2)) w := by
  simp [go_sem]
  rw [Int.tdiv_eq_ediv_of_nonneg h]
  simp [IntKind.wrap, IntKind.bits, IntKind.signed]; omega
theorem run_rem5 (a : Int) (h : 0 ≤ a) (w : World) : (binOp .rem 5 (.int .u8 a) (.int .u8 2)).run Try.prog w = .ok (.int .u8 (a % 2)) w := by
  simp [go_sem]
  exact Int.tmod_eq_emod_of_nonneg h
theorem run_cv36 (a : Int) (h : 0 ≤ a ∧ a < 4294967296) (w : World) : (convert 3 36 (.int .i64 a)).run Try.prog w = .ok (.int .u32 a) w := by
  simp [go_sem, IntKind.wrap, IntKind.bits, IntKind.signed]; omega
theorem run_cv37 (a : Int) (h : 0 ≤ a ∧ a < 65536) (w : World) : (convert 3 37 (.int .i64 a)).run Try.prog w = .ok (.int .u16 a) w := by
  simp [go_sem, IntKind.wrap, IntKind.bits, IntKind.signed]; omega
theorem grd5e (x y : Operand) (a b : Int) (w : World) : (eqGuard .eql 5 x y (.int .u8 a) (.int .u8 b)).run Try.prog w = .ok () w := by kernel_rfl
theorem grd5g (x y : Operand) (a b : Int) (w : World) : (eqGuard .geq 5 x y (.int .u8 a) (.int .u8 b)).run Try.prog w = .ok () w := by kernel_rfl
theorem grd5q (x y : Operand) (a b : Int) (w : World) : (eqGuard .quo 5 x y (.int .u8 a) (.int .u8 b)).run Try.prog w = .ok () w := by kernel_rfl
theorem grd5r (x y : Operand) (a b : Int) (w : World) : (eqGuard .rem 5 x y (.int .u8 a) (.int .u8 b)).run Try.prog w = .ok () w := by kernel_rfl
theorem run_sl12 (g o m c : Nat) (h : 12 ≤ m) (h2 : 12 < c) (w : World) : (Instr.sliceAt 23 (.slice (some ⟨g, o, none⟩) m c) (some (.int .i64 12)) none none).run Try.prog w = .ok (.slice (some ⟨g, o + 12, none⟩) (m - 12) (c - 12)) w := by
  have h3 : (12 : Int) ≤ (m : Int) := by omega
  have h4 : c ≠ 12 := by omega
  simp [go_sem, h3, h4]
theorem bs_5 (w : World) : (Instr.buildSlice 23 0 #[]).run Try.prog w = .ok (.slice (some ⟨w.heap.size, 0, none⟩) 0 0) (w.alloc (.cells #[] 5)) := by kernel_rfl
theorem build_pc (a b c : Int) (d e f : Bool) (A : Option Addr) (n k : Nat) (w : World) : (Instr.build 50 #[(0, .int .u32 a), (1, .int .u16 b), (2, .int .u16 c), (5, .bool d), (3, .bool e), (4, .bool f), (6, .slice A n k)]).run Try.prog w = .ok (.agg #[.int .u32 a, .int .u16 b, .int .u16 c, .bool e, .bool f, .bool d, .slice A n k]) w := by kernel_rfl
theorem x_slice1 {P : Program} {o : Oper} {a : Act} {w : World} (t : TypeId) (x y : Operand) {X Y v : Value} (ho : o.op = .slice t x (some y) none none) (hx : a.eval x = X) (hy : a.eval y = Y) (hr : (Instr.sliceAt t X (some Y) none none).run P w = .ok v w) : (execOp a.eval o).run P w = .ok (.value v) w := by simp [execOp, ho, hx, hy, hr, Result.andThen]
theorem run_store7 {P : Program} {t : TypeId} (ht : ∀ w, (Go.sizeOf t).run P w = .ok 7 w) {w : World} {b : Nat} {cs : Array Value} {T : TypeId} {x1 x2 x3 x4 x5 x6 x7 : Value} (hb : w.heap[b]? = some (.cells cs T (0, 0))) (hs : cs.size = 7) (h1 : x1.oneCell' = true) (h2 : x2.oneCell' = true) (h3 : x3.oneCell' = true) (h4 : x4.oneCell' = true) (h5 : x5.oneCell' = true) (h6 : x6.oneCell' = true) (h7 : x7.oneCell' = true) :
    (Instr.storeAt t (.pointer (some ⟨b, 0, none⟩)) (.agg #[x1, x2, x3, x4, x5, x6, x7])).run P w = .ok () (((((((w.setCell ⟨b, 0, none⟩ x1).setCell ⟨b, 1, none⟩ x2).setCell ⟨b, 2, none⟩ x3).setCell ⟨b, 3, none⟩ x4).setCell ⟨b, 4, none⟩ x5).setCell ⟨b, 5, none⟩ x6).setCell ⟨b, 6, none⟩ x7) := by
  have := run_storeCells_cells (P := P) b 0 [x1, x2, x3, x4, x5, x6, x7] 0 w (fun k hk => by
    simp at hk
    simpa using cell_at hb (j := k) (by omega)) (fun k hk => by simpa using frozen_at hb (j := k)) (by simp [h1, h2, h3, h4, h5, h6, h7])
  simp [Instr.storeAt, Instr.sureAddr, storeVar, ht, Value.cells, Result.andThen]
  simpa [World.setCells] using this
/-- The result's block before and behind the store. -/
def WPc (q B : Nat) (cf : Option Addr → Nat → Nat → Array Value) (ys : List Int) (w0 : World) (k : Nat) (w : World) : Prop := Out (fun j => j = q) w0 w ∧ B ≤ w.heap.size ∧ (if k = 0 then w.heap[q]? = some (.cells #[.int .u32 0, .int .u16 0, .int .u16 0, .bool false, .bool false, .bool false, .slice none 0 0] 50 (0, 0)) else ∃ A N c, N = ys.length ∧ OwnI .u8 5 B w A N c ys ∧ w.heap[q]? = some (.cells (cf A N c) 50 (0, 0)))
theorem wpc_up {q B : Nat} {cf : Option Addr → Nat → Nat → Array Value} {ys : List Int} {w0 w w' : World} {k : Nat} (a : WPc q B cf ys w0 k w) (hu : Up w w') : WPc q B cf ys w0 k w' := by
  obtain ⟨h1, h0, h2⟩ := a
  refine ⟨h1.trans (S' := No) (hu.out No) (fun _ h => h.elim), Nat.le_trans h0 hu.size, ?_⟩
  split at h2
  · rename_i hk
    rw [if_pos hk]; exact (hu.block _ (lt_of_blk h2)).trans h2
  · rename_i hk
    rw [if_neg hk]
    obtain ⟨A, N, c, e, ho, hb⟩ := h2
    exact ⟨A, N, c, e, own_up ho hu, (hu.block _ (lt_of_blk hb)).trans hb⟩
/-- A piece whose bytes are a row of its own. -/
def PhQ (B : Nat) (cf : Option Addr → Nat → Nat → Array Value) (ys : List Int) (v : Value) (w : World) : Prop := ∃ A N c, v = .agg (cf A N c) ∧ N = ys.length ∧ OwnI .u8 5 B w A N c ys
theorem kpT_PhQ {T : Nat → Prop} {B : Nat} {cf : Option Addr → Nat → Nat → Array Value} {ys : List Int} (ht : ∀ k, T k → k < B) : KpT T (PhQ B cf ys) := fun v w w' ⟨A, N, c, e, hn, ho⟩ hu => ⟨A, N, c, e, hn, hu.own ho (fun q hq hk => by have := (row_lt ho (by rwa [ownBlock_slice] at hq)).1; have := ht q hk; omega)⟩
theorem wpc_at {q B : Nat} {cf : Option Addr → Nat → Nat → Array Value} {ys : List Int} {w0 w : World} (a : WPc q B cf ys w0 1 w) : ∃ A N c, N = ys.length ∧ OwnI .u8 5 B w A N c ys ∧ w.heap[q]? = some (.cells (cf A N c) 50 (0, 0)) := a.2.2
theorem wpc_lo {q B : Nat} {cf : Option Addr → Nat → Nat → Array Value} {ys : List Int} {w0 w : World} (a : WPc q B cf ys w0 0 w) : w.heap[q]? = some (.cells #[.int .u32 0, .int .u16 0, .int .u16 0, .bool false, .bool false, .bool false, .slice none 0 0] 50 (0, 0)) := a.2.2
set_option maxRecDepth 1000000 in
set_option maxHeartbeats 8000000 in
theorem rtoP_main (A : Option Addr) (m c : Nat) (fl : Int) (xs : List Int) (w : World) (hin : InB w A m c xs) (h0 : 0 ≤ fl) (h7 : fl ≤ 7) (h13 : 13 ≤ m) (h268 : m ≤ 268) : Calls Try.prog 27 #[chV 0 fl (.slice A m c)] w (ToPPost 0 fl xs w) := by
  obtain ⟨W, hW⟩ : ∃ W, W = (w.alloc (.cells #[.int .u8 0, .int .u8 fl, .slice A m c] 41)).alloc (.cells #[.int .u32 0, .int .u16 0, .int .u16 0, .bool false, .bool false, .bool false, .slice none 0 0] 50) := ⟨_, rfl⟩
  have u1 := up_alloc w (.cells #[.int .u8 0, .int .u8 fl, .slice A m c] 41)
  have a1 := new_at w (.cells #[.int .u8 0, .int .u8 fl, .slice A m c] 41)
  have u2 := up_alloc (w.alloc (.cells #[.int .u8 0, .int .u8 fl, .slice A m c] 41)) (.cells #[.int .u32 0, .int .u16 0, .int .u16 0, .bool false, .bool false, .bool false, .slice none 0 0] 50)
  have a2 := new_at (w.alloc (.cells #[.int .u8 0, .int .u8 fl, .slice A m c] 41)) (.cells #[.int .u32 0, .int .u16 0, .int .u16 0, .bool false, .bool false, .bool false, .slice none 0 0] 50)
  have b1 := (u2.block _ (lt_of_blk a1)).trans a1
  have s1 : (w.alloc (.cells #[.int .u8 0, .int .u8 fl, .slice A m c] 41)).heap.size = w.heap.size + 1 := by simp
  rw [s1] at a2
  have HS := Lib.hid (show ((w.alloc (.cells #[.int .u8 0, .int .u8 fl, .slice A m c] 41)).alloc (.cells #[.int .u32 0, .int .u16 0, .int .u16 0, .bool false, .bool false, .bool false, .slice none 0 0] 50)).heap.size = w.heap.size + 1 + 1 by simp)
  have HU := Lib.hid (u1.trans u2)
  rw [← hW] at a2 b1 HU HS
  have HW := Lib.hid hW
  have HQ := Lib.hid a2
  have HB := Lib.hid b1
  have c0 := cell_of b1 (j := 0) rfl
  have c1 := cell_of b1 (j := 1) rfl
  have c2 := cell_of b1 (j := 2) rfl
  clear u1 a1 u2 a2 b1 s1 hW
  have HI := Lib.hid hin
  have hcap := hin.cap
  have HIW := Lib.hid (hin.up HU.out)
  obtain ⟨ga, go, rfl, -, -⟩ := hin.cells (by intro e; have := congrArg List.length e; rw [ints_length, hin.len] at this; simp at this; omega)
  clear hin
  have d1 : decide (7 < fl) = false := by simp; omega
  have d2 : decide ((m : Int) < 13) = false := by simp; omega
  have d3 : decide (268 < (m : Int)) = false := by simp; omega
  unfold chV
  go_enter Try.func27, Try.ntmps27
  go_upto_region 2 with (fail)
  rw [← HW.out]
  go_wp2_with fail
  refine (rnumI (some ⟨ga, go, none⟩) m c 4 2 xs W (HIW.out) (by omega) (by omega) (by omega) (by omega)).mono ?_
  rintro e v1 ⟨t1, rfl, E1, b1, u1⟩
  have HQ1 := Lib.hid ((u1.out.block _ (lt_of_blk HQ.out)).trans HQ.out)
  have HU1 := Lib.hid (HU.out.trans u1.out)
  by_cases hs8 : 8 ≤ t1
  · have d4 : decide (8 ≤ t1) = true := by simp; omega
    have e0 := cell_of HQ1.out (j := 0) rfl
    have f0 := frozen_at (j := 0) HQ1.out
    have e1 := cell_of HQ1.out (j := 1) rfl
    have f1 := frozen_at (j := 1) HQ1.out
    have e2 := cell_of HQ1.out (j := 2) rfl
    have f2 := frozen_at (j := 2) HQ1.out
    have e3 := cell_of HQ1.out (j := 3) rfl
    have f3 := frozen_at (j := 3) HQ1.out
    have e4 := cell_of HQ1.out (j := 4) rfl
    have f4 := frozen_at (j := 4) HQ1.out
    have e5 := cell_of HQ1.out (j := 5) rfl
    have f5 := frozen_at (j := 5) HQ1.out
    have e6 := cell_of HQ1.out (j := 6) rfl
    have f6 := frozen_at (j := 6) HQ1.out
    go_wp2_with fail
    have hs := set7 (a := .int .u32 0) (b := .int .u16 0) (c := .int .u16 0) (d := .bool false) (e := .bool false) (f := .bool false) (g := .slice none 0 0) HQ1.out rfl
    refine bodyPost_ret (results_row_tmp (fn := Try.f27) (p := 2) (u := 3) (ty := 50) rfl _ _ (w.heap.size + 1) 50 _ (0, 0) _ rfl hs.1 Try.underlying50 rfl rfl) rfl (PNo.post ⟨rfl, Lib.hid (Below.out HU1.out hs.2 (fun k hk => by rw [hk]; omega) HU1.out.size)⟩ (fun p hp => by have h1 := (rP_f hp).2.2.2.1; rw [← E1.out] at h1; omega))
  have d4 : decide (8 ≤ t1) = false := by simp; omega
  go_wp2_with fail
  refine (rnumI (some ⟨ga, go, none⟩) m c 8 4 xs v1 (HIW.out.up u1.out) (by omega) (by omega) (by omega) (by omega)).mono ?_
  rintro e v2 ⟨t2, rfl, E2, b2, u2⟩
  have HQ2 := Lib.hid ((u2.out.block _ (lt_of_blk HQ1.out)).trans HQ1.out)
  have HU2 := Lib.hid (HU1.out.trans u2.out)
  clear HQ1 HU1
  by_cases h46 : t2 = 46
  rotate_left
  · have d5 : (t2 != 46) = true := by simp [h46]
    have e0 := cell_of HQ2.out (j := 0) rfl
    have f0 := frozen_at (j := 0) HQ2.out
    have e1 := cell_of HQ2.out (j := 1) rfl
    have f1 := frozen_at (j := 1) HQ2.out
    have e2 := cell_of HQ2.out (j := 2) rfl
    have f2 := frozen_at (j := 2) HQ2.out
    have e3 := cell_of HQ2.out (j := 3) rfl
    have f3 := frozen_at (j := 3) HQ2.out
    have e4 := cell_of HQ2.out (j := 4) rfl
    have f4 := frozen_at (j := 4) HQ2.out
    have e5 := cell_of HQ2.out (j := 5) rfl
    have f5 := frozen_at (j := 5) HQ2.out
    have e6 := cell_of HQ2.out (j := 6) rfl
    have f6 := frozen_at (j := 6) HQ2.out
    go_wp2_with fail
    have hs := set7 (a := .int .u32 0) (b := .int .u16 0) (c := .int .u16 0) (d := .bool false) (e := .bool false) (f := .bool false) (g := .slice none 0 0) HQ2.out rfl
    refine bodyPost_ret (results_row_tmp (fn := Try.f27) (p := 2) (u := 3) (ty := 50) rfl _ _ (w.heap.size + 1) 50 _ (0, 0) _ rfl hs.1 Try.underlying50 rfl rfl) rfl (PNo.post ⟨rfl, Lib.hid (Below.out HU2.out hs.2 (fun k hk => by rw [hk]; omega) HU2.out.size)⟩ (fun p hp => by have h1 := (rP_f hp).2.2.2.2.1; rw [← E2.out] at h1; exact h46 h1))
  subst h46
  have HLT := Lib.hid (show nmA xs 4 2 < 8 from by rw [← E1.out]; omega)
  have H46 := Lib.hid (show nmA xs 8 4 = 46 from E2.out.symm)
  go_upto_region 4 with (fail)
  have HI2 := Lib.hid (HIW.out.up (u1.out.trans u2.out))
  have HC2 := Lib.hid (((u1.out.trans u2.out).block _ (lt_of_blk HB.out)).trans HB.out)
  have HD2 := Lib.hid (show Cells v2 (some ⟨ga, go + 12, none⟩) (ints .u8 (xs.drop 12)) by have := HI2.out.cells.cut 12 (m - 12); rw [Option.map_some, add_flat] at this; have e : (xs.drop 12).take (m - 12) = xs.drop 12 := List.take_of_length_le (by rw [List.length_drop, HI.out.len]; exact Nat.le_refl _); simpa [ints, ← List.map_drop, ← List.map_take, e] using this)
  have HCLT := Lib.hid (show ga < w.heap.size from HI.out.lt (by intro e; have := HI.out.len; rw [e] at this; simp at this; omega) rfl)
  have hSV := HU2.out.size
  have hSQ := lt_of_blk HQ2.out
  have p4 : (256 : Int) ^ 4 = 4294967296 := by decide
  have p2 : (256 : Int) ^ 2 = 65536 := by decide
  have hlen := HI.out.len
  have HB0 := Lib.hid (show 0 ≤ nmA xs 0 4 ∧ nmA xs 0 4 < 4294967296 from p4 ▸ nmA_bd HI.out.byt (by omega))
  have HB4 := Lib.hid (show 0 ≤ nmA xs 4 2 ∧ nmA xs 4 2 < 65536 from p2 ▸ nmA_bd HI.out.byt (by omega))
  have HB6 := Lib.hid (show 0 ≤ nmA xs 6 2 ∧ nmA xs 6 2 < 65536 from p2 ▸ nmA_bd HI.out.byt (by omega))
  have HFIN := Lib.hid (rP_b HI.out.byt h0 h7 (by omega) (by omega) HLT.out H46.out)
  have HPB := Lib.hid (show Byt (xs.drop 12) from HI.out.byt.drop _)
  clear c0 c1 c2
  have HK : ∀ φ ∈ [Is (.slice (some ⟨ga, go, none⟩) m c), Is (.int .i64 (nmA xs 0 4)), Is (.int .u32 (nmA xs 0 4)), Is (.slice (some ⟨ga, go, none⟩) m c), Is (.int .i64 (nmA xs 4 2)), Is (.int .u16 (nmA xs 4 2)), Is (.slice (some ⟨ga, go, none⟩) m c), Is (.int .i64 (nmA xs 6 2)), Is (.int .u16 (nmA xs 6 2)), Is (.pointer (some ⟨w.heap.size, 1, none⟩)), Is (.int .u8 fl), Is (.bool (decide (4 ≤ fl))), Is (.pointer (some ⟨w.heap.size, 1, none⟩)), Is (.int .u8 fl), Is (.int .u8 (fl / 2)), Is (.int .u8 (fl / 2 % 2)), Is (.bool (fl / 2 % 2 == 1)), Is (.pointer (some ⟨w.heap.size, 1, none⟩)), Is (.int .u8 fl), Is (.int .u8 (fl % 2)), Is (.bool (fl % 2 == 1)), PhE, Is (.slice (some ⟨ga, go, none⟩) m c), Is (.slice (some ⟨ga, go + 12, none⟩) (m - 12) (c - 12)), PhB v2.heap.size (xs.drop 12), PhQ v2.heap.size (fun A N c => #[.int .u32 (nmA xs 0 4), .int .u16 (nmA xs 4 2), .int .u16 (nmA xs 6 2), .bool (fl / 2 % 2 == 1), .bool (fl % 2 == 1), .bool (decide (4 ≤ fl)), .slice A N c]) (xs.drop 12), Tru, Is (.int .i64 0)], Keeps φ := by
    intro φ hφ
    simp only [List.mem_cons, List.mem_nil_iff, or_false] at hφ
    rcases hφ with rfl | rfl | rfl | rfl | rfl | rfl | rfl | rfl | rfl | rfl | rfl | rfl | rfl | rfl | rfl | rfl | rfl | rfl | rfl | rfl | rfl | rfl | rfl | rfl | rfl | rfl | rfl | rfl <;> first | exact keeps_is _ | exact keeps_PhE | exact keeps_PhB _ _ | exact (kpT_PhQ (T := No) (fun _ h => h.elim)).keeps | exact fun _ _ _ _ _ => trivial
  have HKq : ∀ φ ∈ [Is (.slice (some ⟨ga, go, none⟩) m c), Is (.int .i64 (nmA xs 0 4)), Is (.int .u32 (nmA xs 0 4)), Is (.slice (some ⟨ga, go, none⟩) m c), Is (.int .i64 (nmA xs 4 2)), Is (.int .u16 (nmA xs 4 2)), Is (.slice (some ⟨ga, go, none⟩) m c), Is (.int .i64 (nmA xs 6 2)), Is (.int .u16 (nmA xs 6 2)), Is (.pointer (some ⟨w.heap.size, 1, none⟩)), Is (.int .u8 fl), Is (.bool (decide (4 ≤ fl))), Is (.pointer (some ⟨w.heap.size, 1, none⟩)), Is (.int .u8 fl), Is (.int .u8 (fl / 2)), Is (.int .u8 (fl / 2 % 2)), Is (.bool (fl / 2 % 2 == 1)), Is (.pointer (some ⟨w.heap.size, 1, none⟩)), Is (.int .u8 fl), Is (.int .u8 (fl % 2)), Is (.bool (fl % 2 == 1)), PhE, Is (.slice (some ⟨ga, go, none⟩) m c), Is (.slice (some ⟨ga, go + 12, none⟩) (m - 12) (c - 12)), PhB v2.heap.size (xs.drop 12), PhQ v2.heap.size (fun A N c => #[.int .u32 (nmA xs 0 4), .int .u16 (nmA xs 4 2), .int .u16 (nmA xs 6 2), .bool (fl / 2 % 2 == 1), .bool (fl % 2 == 1), .bool (decide (4 ≤ fl)), .slice A N c]) (xs.drop 12), Tru, Is (.int .i64 0)], KpT (fun k => k = w.heap.size + 1) φ := by
    intro φ hφ
    simp only [List.mem_cons, List.mem_nil_iff, or_false] at hφ
    rcases hφ with rfl | rfl | rfl | rfl | rfl | rfl | rfl | rfl | rfl | rfl | rfl | rfl | rfl | rfl | rfl | rfl | rfl | rfl | rfl | rfl | rfl | rfl | rfl | rfl | rfl | rfl | rfl | rfl <;> first | exact kpT_is _ _ | exact kpT_PhE _ | exact kpT_PhB (fun k hk => by omega) | exact kpT_PhQ (fun k hk => by omega) | exact kpT_tru _
  refine staged_lit (by kernel_rfl) (facts [Is (.slice (some ⟨ga, go, none⟩) m c), Is (.int .i64 (nmA xs 0 4)), Is (.int .u32 (nmA xs 0 4)), Is (.slice (some ⟨ga, go, none⟩) m c), Is (.int .i64 (nmA xs 4 2)), Is (.int .u16 (nmA xs 4 2)), Is (.slice (some ⟨ga, go, none⟩) m c), Is (.int .i64 (nmA xs 6 2)), Is (.int .u16 (nmA xs 6 2)), Is (.pointer (some ⟨w.heap.size, 1, none⟩)), Is (.int .u8 fl), Is (.bool (decide (4 ≤ fl))), Is (.pointer (some ⟨w.heap.size, 1, none⟩)), Is (.int .u8 fl), Is (.int .u8 (fl / 2)), Is (.int .u8 (fl / 2 % 2)), Is (.bool (fl / 2 % 2 == 1)), Is (.pointer (some ⟨w.heap.size, 1, none⟩)), Is (.int .u8 fl), Is (.int .u8 (fl % 2)), Is (.bool (fl % 2 == 1)), PhE, Is (.slice (some ⟨ga, go, none⟩) m c), Is (.slice (some ⟨ga, go + 12, none⟩) (m - 12) (c - 12)), PhB v2.heap.size (xs.drop 12), PhQ v2.heap.size (fun A N c => #[.int .u32 (nmA xs 0 4), .int .u16 (nmA xs 4 2), .int .u16 (nmA xs 6 2), .bool (fl / 2 % 2 == 1), .bool (fl % 2 == 1), .bool (decide (4 ≤ fl)), .slice A N c]) (xs.drop 12), Tru, Is (.int .i64 0)]) (Stg [26] (WPc (w.heap.size + 1) v2.heap.size (fun A N c => #[.int .u32 (nmA xs 0 4), .int .u16 (nmA xs 4 2), .int .u16 (nmA xs 6 2), .bool (fl / 2 % 2 == 1), .bool (fl % 2 == 1), .bool (decide (4 ≤ fl)), .slice A N c]) (xs.drop 12) v2)) 62 rfl (by decide +kernel) (by decide +kernel) (Stg.start ⟨(Up.drew v2).out _, (Up.drew v2).size, ((Up.drew v2).block _ (lt_of_blk HQ2.out)).trans HQ2.out⟩) ?_ ?_
  · refine ⟨?_, ?_, ?_, ?_, ?_, ?_, ?_, ?_, ?_, ?_, ?_, ?_, ?_, ?_, ?_, ?_, ?_, ?_, ?_, ?_, ?_, ?_, ?_, ?_, ?_, ?_, ?_, ?_, trivial⟩
    · refine opS_same rfl rfl fun L ac w1 hJ hl hc ho hd => ?_
      have s4 : ac.eval (.tmp 4) = .slice (some ⟨ga, go, none⟩) m c := ho 4 rfl
      exact ⟨_, x_move (.tmp 4) rfl s4, rfl⟩
    · refine opS_callUp rfl rfl (fun k wa wb h hu => wpc_up h hu) (facts_keep HK) fun L ac w1 hJ hl hc ho hd => ?_
      have d0 : ac.eval (.tmp 36) = .slice (some ⟨ga, go, none⟩) m c := hd 0 _ _ rfl rfl rfl
      obtain ⟨_, _, hW⟩ := hJ
      refine ⟨42, _, x_fcall 42 [.tmp 36, .const (.int .i64 0), .const (.int .i64 4)] _ rfl (by kernel_rfl), ?_⟩
      simp only [List.map_cons, List.map_nil, d0]
      refine (rnumI (some ⟨ga, go, none⟩) m c 0 4 xs w1 (HI2.out.outS' hW.1 (fun hne k hk e => by have := HI.out.lt hne hk; rw [e] at this; omega)) (by omega) (by omega) (by omega) (by omega)).mono fun e w2 ⟨v, he, hv, _, hu⟩ => ⟨_, he, hu.out, ?_⟩
      rw [hv.out]; rfl
    · refine opS_same rfl rfl fun L ac w1 hJ hl hc ho hd => ?_
      have d1 : ac.eval (.tmp 37) = .int .i64 (nmA xs 0 4) := hd 1 _ _ rfl rfl rfl
      exact ⟨_, x_conv 3 36 (.tmp 37) rfl d1 (run_cv36 _ HB0.out _), rfl⟩
    · refine opS_same rfl rfl fun L ac w1 hJ hl hc ho hd => ?_
      have s4 : ac.eval (.tmp 4) = .slice (some ⟨ga, go, none⟩) m c := ho 4 rfl
      exact ⟨_, x_move (.tmp 4) rfl s4, rfl⟩
    · refine opS_callUp rfl rfl (fun k wa wb h hu => wpc_up h hu) (facts_keep HK) fun L ac w1 hJ hl hc ho hd => ?_
      have d3 : ac.eval (.tmp 39) = .slice (some ⟨ga, go, none⟩) m c := hd 3 _ _ rfl rfl rfl
      obtain ⟨_, _, hW⟩ := hJ
      refine ⟨42, _, x_fcall 42 [.tmp 39, .const (.int .i64 4), .const (.int .i64 2)] _ rfl (by kernel_rfl), ?_⟩
      simp only [List.map_cons, List.map_nil, d3]
      refine (rnumI (some ⟨ga, go, none⟩) m c 4 2 xs w1 (HI2.out.outS' hW.1 (fun hne k hk e => by have := HI.out.lt hne hk; rw [e] at this; omega)) (by omega) (by omega) (by omega) (by omega)).mono fun e w2 ⟨v, he, hv, _, hu⟩ => ⟨_, he, hu.out, ?_⟩
      rw [hv.out]; rfl
    · refine opS_same rfl rfl fun L ac w1 hJ hl hc ho hd => ?_
      have d4 : ac.eval (.tmp 40) = .int .i64 (nmA xs 4 2) := hd 4 _ _ rfl rfl rfl
      exact ⟨_, x_conv 3 37 (.tmp 40) rfl d4 (run_cv37 _ HB4.out _), rfl⟩
    · refine opS_same rfl rfl fun L ac w1 hJ hl hc ho hd => ?_
      have s4 : ac.eval (.tmp 4) = .slice (some ⟨ga, go, none⟩) m c := ho 4 rfl
      exact ⟨_, x_move (.tmp 4) rfl s4, rfl⟩
    · refine opS_callUp rfl rfl (fun k wa wb h hu => wpc_up h hu) (facts_keep HK) fun L ac w1 hJ hl hc ho hd => ?_
      have d6 : ac.eval (.tmp 42) = .slice (some ⟨ga, go, none⟩) m c := hd 6 _ _ rfl rfl rfl
      obtain ⟨_, _, hW⟩ := hJ
      refine ⟨42, _, x_fcall 42 [.tmp 42, .const (.int .i64 6), .const (.int .i64 2)] _ rfl (by kernel_rfl), ?_⟩
      simp only [List.map_cons, List.map_nil, d6]
      refine (rnumI (some ⟨ga, go, none⟩) m c 6 2 xs w1 (HI2.out.outS' hW.1 (fun hne k hk e => by have := HI.out.lt hne hk; rw [e] at this; omega)) (by omega) (by omega) (by omega) (by omega)).mono fun e w2 ⟨v, he, hv, _, hu⟩ => ⟨_, he, hu.out, ?_⟩
      rw [hv.out]; rfl
    · refine opS_same rfl rfl fun L ac w1 hJ hl hc ho hd => ?_
      have d7 : ac.eval (.tmp 43) = .int .i64 (nmA xs 6 2) := hd 7 _ _ rfl rfl rfl
      exact ⟨_, x_conv 3 37 (.tmp 43) rfl d7 (run_cv37 _ HB6.out _), rfl⟩
    · refine opS_same rfl rfl fun L ac w1 hJ hl hc ho hd => ?_
      have s1 : ac.eval (.tmp 1) = .pointer (some ⟨w.heap.size, 0, none⟩) := ho 1 rfl
      exact ⟨_, x_field 41 (.tmp 1) 1 rfl s1 (fld411 _ _ _), rfl⟩
    · refine opS_same rfl rfl fun L ac w1 hJ hl hc ho hd => ?_
      have d9 : ac.eval (.tmp 45) = .pointer (some ⟨w.heap.size, 1, none⟩) := hd 9 _ _ rfl rfl rfl
      obtain ⟨_, _, hW⟩ := hJ
      exact ⟨_, x_load 5 (.tmp 45) rfl d9 (run_load1 agg5 (cell_of (hW.1.blk HC2.out (fun e => by omega)) (j := 1) rfl)), rfl⟩
    · refine opS_same rfl rfl fun L ac w1 hJ hl hc ho hd => ?_
      have d10 : ac.eval (.tmp 46) = .int .u8 fl := hd 10 _ _ rfl rfl rfl
      exact ⟨_, x_bin .geq 5 5 (.tmp 46) (.const (.int .u8 4)) rfl d10 rfl (grd5g _ _ _ _ _) (run_geq5 _ _ _), rfl⟩
    · refine opS_same rfl rfl fun L ac w1 hJ hl hc ho hd => ?_
      have s1 : ac.eval (.tmp 1) = .pointer (some ⟨w.heap.size, 0, none⟩) := ho 1 rfl
      exact ⟨_, x_field 41 (.tmp 1) 1 rfl s1 (fld411 _ _ _), rfl⟩
    · refine opS_same rfl rfl fun L ac w1 hJ hl hc ho hd => ?_
      have d12 : ac.eval (.tmp 48) = .pointer (some ⟨w.heap.size, 1, none⟩) := hd 12 _ _ rfl rfl rfl
      obtain ⟨_, _, hW⟩ := hJ
      exact ⟨_, x_load 5 (.tmp 48) rfl d12 (run_load1 agg5 (cell_of (hW.1.blk HC2.out (fun e => by omega)) (j := 1) rfl)), rfl⟩
    · refine opS_same rfl rfl fun L ac w1 hJ hl hc ho hd => ?_
      have d13 : ac.eval (.tmp 49) = .int .u8 fl := hd 13 _ _ rfl rfl rfl
      exact ⟨_, x_bin .quo 5 5 (.tmp 49) (.const (.int .u8 2)) rfl d13 rfl (grd5q _ _ _ _ _) (run_quo5 _ h0 (by omega) _), rfl⟩
    · refine opS_same rfl rfl fun L ac w1 hJ hl hc ho hd => ?_
      have d14 : ac.eval (.tmp 50) = .int .u8 (fl / 2) := hd 14 _ _ rfl rfl rfl
      exact ⟨_, x_bin .rem 5 5 (.tmp 50) (.const (.int .u8 2)) rfl d14 rfl (grd5r _ _ _ _ _) (run_rem5 _ (by omega) _), rfl⟩
    · refine opS_same rfl rfl fun L ac w1 hJ hl hc ho hd => ?_
      have d15 : ac.eval (.tmp 51) = .int .u8 (fl / 2 % 2) := hd 15 _ _ rfl rfl rfl
      exact ⟨_, x_bin .eql 5 5 (.tmp 51) (.const (.int .u8 1)) rfl d15 rfl (grd5e _ _ _ _ _) (run_eql5 _ _ _), rfl⟩
    · refine opS_same rfl rfl fun L ac w1 hJ hl hc ho hd => ?_
      have s1 : ac.eval (.tmp 1) = .pointer (some ⟨w.heap.size, 0, none⟩) := ho 1 rfl
      exact ⟨_, x_field 41 (.tmp 1) 1 rfl s1 (fld411 _ _ _), rfl⟩
    · refine opS_same rfl rfl fun L ac w1 hJ hl hc ho hd => ?_
      have d17 : ac.eval (.tmp 53) = .pointer (some ⟨w.heap.size, 1, none⟩) := hd 17 _ _ rfl rfl rfl
      obtain ⟨_, _, hW⟩ := hJ
      exact ⟨_, x_load 5 (.tmp 53) rfl d17 (run_load1 agg5 (cell_of (hW.1.blk HC2.out (fun e => by omega)) (j := 1) rfl)), rfl⟩
    · refine opS_same rfl rfl fun L ac w1 hJ hl hc ho hd => ?_
      have d18 : ac.eval (.tmp 54) = .int .u8 fl := hd 18 _ _ rfl rfl rfl
      exact ⟨_, x_bin .rem 5 5 (.tmp 54) (.const (.int .u8 2)) rfl d18 rfl (grd5r _ _ _ _ _) (run_rem5 _ h0 _), rfl⟩
    · refine opS_same rfl rfl fun L ac w1 hJ hl hc ho hd => ?_
      have d19 : ac.eval (.tmp 55) = .int .u8 (fl % 2) := hd 19 _ _ rfl rfl rfl
      exact ⟨_, x_bin .eql 5 5 (.tmp 55) (.const (.int .u8 1)) rfl d19 rfl (grd5e _ _ _ _ _) (run_eql5 _ _ _), rfl⟩
    · refine opS_grow rfl rfl (fun k wa wb h hu => wpc_up h hu) (facts_keep HK) fun L ac w1 hJ hl hc ho hd => ?_
      exact fine_run (.slice (some ⟨w1.heap.size, 0, none⟩) 0 0) (w1.alloc (.cells #[] 5)) (x_bslice 23 0 _ rfl (by simp only [List.map_toArray, List.map_nil]; exact bs_5 w1)) (up_alloc _ _) ⟨_, rfl⟩
    · refine opS_same rfl rfl fun L ac w1 hJ hl hc ho hd => ?_
      have s4 : ac.eval (.tmp 4) = .slice (some ⟨ga, go, none⟩) m c := ho 4 rfl
      exact ⟨_, x_move (.tmp 4) rfl s4, rfl⟩
    · refine opS_same rfl rfl fun L ac w1 hJ hl hc ho hd => ?_
      have d22 : ac.eval (.tmp 58) = .slice (some ⟨ga, go, none⟩) m c := hd 22 _ _ rfl rfl rfl
      exact ⟨_, x_slice1 23 (.tmp 58) (.const (.int .i64 12)) rfl d22 rfl (run_sl12 _ _ _ _ (by omega) (by omega) _), rfl⟩
    · refine opS_grow rfl rfl (fun k wa wb h hu => wpc_up h hu) (facts_keep HK) fun L ac w1 hJ hl hc ho hd => ?_
      have d21 := hd 21 _ _ rfl rfl rfl
      have d23 : ac.eval (.tmp 59) = .slice (some ⟨ga, go + 12, none⟩) (m - 12) (c - 12) := hd 23 _ _ rfl rfl rfl
      obtain ⟨_, _, hW⟩ := hJ
      obtain ⟨b0, e0⟩ := d21
      obtain ⟨A9, c9, w9, hr, ho9, hu9⟩ := append_copy (P := Try.prog) (k := .u8) (t := 23) (ty := 23) Try.underlying23 info5s b0 ⟨ga, go + 12, none⟩ (m - 12) (c - 12) (xs.drop 12) (by rw [List.length_drop, HI.out.len]) (HD2.out.outS' hW.1 (fun hne k hk e => by have := HCLT.out; cases hk; have e1 : ga = w.heap.size + 1 := e; omega)) (by omega) (by omega) (by decide) (by decide)
      exact fine_run (.slice A9 (m - 12) c9) w9 (x_append (.tmp 57) (.tmp 59) 23 23 rfl e0 d23 hr) hu9 ⟨A9, m - 12, c9, rfl, by rw [List.length_drop, HI.out.len], ho9.base hW.2.1⟩
    · refine opS_same rfl rfl fun L ac w1 hJ hl hc ho hd => ?_
      have d2 : ac.eval (.tmp 38) = .int .u32 (nmA xs 0 4) := hd 2 _ _ rfl rfl rfl
      have d5 : ac.eval (.tmp 41) = .int .u16 (nmA xs 4 2) := hd 5 _ _ rfl rfl rfl
      have d8 : ac.eval (.tmp 44) = .int .u16 (nmA xs 6 2) := hd 8 _ _ rfl rfl rfl
      have d11 : ac.eval (.tmp 47) = .bool (decide (4 ≤ fl)) := hd 11 _ _ rfl rfl rfl
      have d16 : ac.eval (.tmp 52) = .bool (fl / 2 % 2 == 1) := hd 16 _ _ rfl rfl rfl
      have d20 : ac.eval (.tmp 56) = .bool (fl % 2 == 1) := hd 20 _ _ rfl rfl rfl
      have d24 := hd 24 _ _ rfl rfl rfl
      obtain ⟨A9, N9, c9, e8, hn9, ho9⟩ := d24
      have e9 : ac.eval (.tmp 60) = .slice A9 N9 c9 := e8
      exact ⟨_, x_build 50 _ rfl (by simp only [List.map_toArray, List.map_cons, List.map_nil, d2, d5, d8, d11, d16, d20, e9]; exact build_pc (nmA xs 0 4) (nmA xs 4 2) (nmA xs 6 2) (decide (4 ≤ fl)) (fl / 2 % 2 == 1) (fl % 2 == 1) A9 N9 c9 w1), A9, N9, c9, rfl, hn9, ho9⟩
    · refine opS_write (j := 0) rfl rfl (by decide) rfl (fun y hy h0 => absurd h0 (by omega)) fun ac w1 hW ho hd => ?_
      have s2 : ac.eval (.tmp 2) = .pointer (some ⟨w.heap.size + 1, 0, none⟩) := ho 2 rfl
      have d25 := hd 25 _ _ rfl rfl rfl
      have hq := wpc_lo hW
      obtain ⟨A9, N9, c9, e9, hn9, ho9⟩ := d25
      have hs := set7 (a := .int .u32 (nmA xs 0 4)) (b := .int .u16 (nmA xs 4 2)) (c := .int .u16 (nmA xs 6 2)) (d := .bool (fl / 2 % 2 == 1)) (e := .bool (fl % 2 == 1)) (f := .bool (decide (4 ≤ fl))) (g := .slice A9 N9 c9) hq rfl
      exact ⟨_, x_store 50 (.tmp 2) (.tmp 61) rfl s2 e9 (run_store7 sz50 hq rfl rfl rfl rfl rfl rfl rfl rfl), ⟨hW.1.trans hs.2 (Sub.refl _ _), Nat.le_trans hW.2.1 hs.2.size, A9, N9, c9, hn9, hs.2.own ho9 (fun q hq9 e => by have := (row_lt ho9 (by rwa [ownBlock_slice] at hq9)).1; have e1 : q = w.heap.size + 1 := e; omega), hs.1⟩, fun _ => trivial, fun j x hx => facts_kp HKq j x w1 _ hx hs.2⟩
    · refine opS_same rfl rfl fun L ac w1 hJ hl hc ho hd => ?_
      exact ⟨_, x_assign (.const (.int .i64 0)) rfl rfl, rfl⟩
  · intro L a1 w9 hI hall
    obtain ⟨k, hk, hW⟩ := hI.done hall (by simp)
    obtain ⟨k, rfl⟩ : ∃ q, k = q + 1 := ⟨k - 1, by simp at hk; omega⟩
    obtain ⟨A9, N9, c9, hN9, hO9, hQ9⟩ := hW.2.2
    have HO1 := Lib.hid hW.1
    have Z := Lib.hid hQ9
    have HO9 := Lib.hid hO9
    have HN9 := Lib.hid hN9
    clear hk hW k HK HKq hQ9 hO9 hN9
    have l0 : a1.tmps.getD 0 undef = chV 0 fl (.slice (some ⟨ga, go, none⟩) m c) := hI.old 0 rfl
    have l1 : a1.tmps.getD 1 undef = .pointer (some ⟨w.heap.size, 0, none⟩) := hI.old 1 rfl
    have l2 : a1.tmps.getD 2 undef = .pointer (some ⟨w.heap.size + 1, 0, none⟩) := hI.old 2 rfl
    have l4 : a1.tmps.getD 4 undef = .slice (some ⟨ga, go, none⟩) m c := hI.old 4 rfl
    have l3 : a1.tmps.getD 3 undef = .int .i64 0 := hI.get hall (i := 27) rfl rfl
    have hde : a1.defers = [] := hI.defers
    have hal := act_lit a1 62 hI.size
    clear hI
    simp only [List.range, List.range.loop, List.map_cons, List.map_nil] at hal
    rw [l0, l1, l2, l4, l3, hde] at hal
    generalize a1.tmps.getD 5 undef = tm5 at hal
    generalize a1.tmps.getD 6 undef = tm6 at hal
    generalize a1.tmps.getD 7 undef = tm7 at hal
    generalize a1.tmps.getD 8 undef = tm8 at hal
    generalize a1.tmps.getD 9 undef = tm9 at hal
    generalize a1.tmps.getD 10 undef = tm10 at hal
    generalize a1.tmps.getD 11 undef = tm11 at hal
    generalize a1.tmps.getD 12 undef = tm12 at hal
    generalize a1.tmps.getD 13 undef = tm13 at hal
    generalize a1.tmps.getD 14 undef = tm14 at hal
    generalize a1.tmps.getD 15 undef = tm15 at hal
    generalize a1.tmps.getD 16 undef = tm16 at hal
    generalize a1.tmps.getD 17 undef = tm17 at hal
    generalize a1.tmps.getD 18 undef = tm18 at hal
    generalize a1.tmps.getD 19 undef = tm19 at hal
    generalize a1.tmps.getD 20 undef = tm20 at hal
    generalize a1.tmps.getD 21 undef = tm21 at hal
    generalize a1.tmps.getD 22 undef = tm22 at hal
    generalize a1.tmps.getD 23 undef = tm23 at hal
    generalize a1.tmps.getD 24 undef = tm24 at hal
    generalize a1.tmps.getD 25 undef = tm25 at hal
    generalize a1.tmps.getD 26 undef = tm26 at hal
    generalize a1.tmps.getD 27 undef = tm27 at hal
    generalize a1.tmps.getD 28 undef = tm28 at hal
    generalize a1.tmps.getD 29 undef = tm29 at hal
    generalize a1.tmps.getD 30 undef = tm30 at hal
    generalize a1.tmps.getD 31 undef = tm31 at hal
    generalize a1.tmps.getD 32 undef = tm32 at hal
    generalize a1.tmps.getD 33 undef = tm33 at hal
    generalize a1.tmps.getD 34 undef = tm34 at hal
    generalize a1.tmps.getD 35 undef = tm35 at hal
    generalize a1.tmps.getD 36 undef = tm36 at hal
    generalize a1.tmps.getD 37 undef = tm37 at hal
    generalize a1.tmps.getD 38 undef = tm38 at hal
    generalize a1.tmps.getD 39 undef = tm39 at hal
    generalize a1.tmps.getD 40 undef = tm40 at hal
    generalize a1.tmps.getD 41 undef = tm41 at hal
    generalize a1.tmps.getD 42 undef = tm42 at hal
    generalize a1.tmps.getD 43 undef = tm43 at hal
    generalize a1.tmps.getD 44 undef = tm44 at hal
    generalize a1.tmps.getD 45 undef = tm45 at hal
    generalize a1.tmps.getD 46 undef = tm46 at hal
    generalize a1.tmps.getD 47 undef = tm47 at hal
    generalize a1.tmps.getD 48 undef = tm48 at hal
    generalize a1.tmps.getD 49 undef = tm49 at hal
    generalize a1.tmps.getD 50 undef = tm50 at hal
    generalize a1.tmps.getD 51 undef = tm51 at hal
    generalize a1.tmps.getD 52 undef = tm52 at hal
    generalize a1.tmps.getD 53 undef = tm53 at hal
    generalize a1.tmps.getD 54 undef = tm54 at hal
    generalize a1.tmps.getD 55 undef = tm55 at hal
    generalize a1.tmps.getD 56 undef = tm56 at hal
    generalize a1.tmps.getD 57 undef = tm57 at hal
    generalize a1.tmps.getD 58 undef = tm58 at hal
    generalize a1.tmps.getD 59 undef = tm59 at hal
    generalize a1.tmps.getD 60 undef = tm60 at hal
    generalize a1.tmps.getD 61 undef = tm61 at hal
    clear l0 l1 l2 l4 l3 hde
    subst hal
    go_wp2_with fail
    refine bodyPost_ret (results_row_tmp (fn := Try.f27) (p := 2) (u := 3) (ty := 50) rfl _ _ (w.heap.size + 1) 50 _ (0, 0) _ rfl Z.out Try.underlying50 rfl rfl) rfl ⟨pcH xs fl, 0, A9, N9, c9, rfl, Lib.hid (.inl ⟨rfl, HFIN.out⟩), HN9, Lib.hid (OwnI.base HO9.out (by omega)), HPB, Lib.hid HFIN.out.2.2.2.1, Lib.hid (Below.out HU2.out HO1.out (fun k hk => by rw [hk]; omega) HU2.out.size)⟩
theorem rtoP_any (A : Option Addr) (m c : Nat) (ty fl : Int) (xs : List Int) (w : World) (hin : InB w A m c xs) (hf : 0 ≤ fl) : Calls Try.prog 27 #[chV ty fl (.slice A m c)] w (ToPPost ty fl xs w) := by
  by_cases h : ty = 0
  · subst h
    by_cases h7 : fl ≤ 7
    · by_cases h13 : m < 13
      · exact (rtoP_e3 A m c fl w h7 h13).mono fun e w' hh => hh.post fun p hp => by have := (rP_f hp).2.1; rw [hin.len] at this; omega
      · by_cases h268 : 268 < m
        · exact (rtoP_e4 A m c fl w h7 h268).mono fun e w' hh => hh.post fun p hp => by have := (rP_f hp).2.2.1; rw [hin.len] at this; omega
        · exact rtoP_main A m c fl xs w hin hf h7 (by omega) (by omega)
    · exact (rtoP_e2 A m c fl w (by omega)).mono fun e w' hh => hh.post fun p hp => h7 (rP_f hp).1
  · exact (rtoP_e1 A m c ty fl w (by simpa using h)).mono fun e w' hh => hh.post fun p' hp => h hp.1
end Go.Proofs.Ytgikgcepeniekaa
