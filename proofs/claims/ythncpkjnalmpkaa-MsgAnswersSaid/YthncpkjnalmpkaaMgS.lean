import Derived.Test.YthncpkjnalmpkaaMgR
import Derived.Test.YthncpkjnalmpkaaAvS
namespace Go.Proofs.Ythncpkjnalmpkaa
open Go Go.RowKit Mg
set_option linter.unusedVariables false
set_option linter.unusedSimpArgs false
/-! The reference's SameMsg. -/
set_option maxRecDepth 100000 in
set_option maxHeartbeats 4000000 in
theorem sameM_0 (a1 b1 d1 e1 a2 b2 d2 e2 : Bool) (f1 g1 h1 i1 f2 g2 h2 i2 : Int) (A1 A2 : Option Addr) (n1 n2 k1 k2 : Nat) (w : World) (hne : a1 ≠ a2) : Calls Try.prog 18 #[.agg #[.bool a1, .bool b1, .bool d1, .bool e1, .int .u32 f1, .int .u32 g1, .int .u32 h1, .int .u32 i1, .slice A1 n1 k1], .agg #[.bool a2, .bool b2, .bool d2, .bool e2, .int .u32 f2, .int .u32 g2, .int .u32 h2, .int .u32 i2, .slice A2 n2 k2]] w (RetB false w) := by
  have hd1 : (a1 == a2) = false := by rw [beq_eq_false_iff_ne]; exact hne
  have HU := Lib.hid ((up_alloc w (.cells #[.bool a1, .bool b1, .bool d1, .bool e1, .int .u32 f1, .int .u32 g1, .int .u32 h1, .int .u32 i1, .slice A1 n1 k1] 25)).trans (up_alloc _ (.cells #[.bool a2, .bool b2, .bool d2, .bool e2, .int .u32 f2, .int .u32 g2, .int .u32 h2, .int .u32 i2, .slice A2 n2 k2] 25)))
  have HC1 := Lib.hid (blk_up0 (new_at w (.cells #[.bool a1, .bool b1, .bool d1, .bool e1, .int .u32 f1, .int .u32 g1, .int .u32 h1, .int .u32 i1, .slice A1 n1 k1] 25)) (up_alloc _ (.cells #[.bool a2, .bool b2, .bool d2, .bool e2, .int .u32 f2, .int .u32 g2, .int .u32 h2, .int .u32 i2, .slice A2 n2 k2] 25)))
  have hcb := new_at (w.alloc (.cells #[.bool a1, .bool b1, .bool d1, .bool e1, .int .u32 f1, .int .u32 g1, .int .u32 h1, .int .u32 i1, .slice A1 n1 k1] 25)) (.cells #[.bool a2, .bool b2, .bool d2, .bool e2, .int .u32 f2, .int .u32 g2, .int .u32 h2, .int .u32 i2, .slice A2 n2 k2] 25)
  rw [show (w.alloc (.cells #[.bool a1, .bool b1, .bool d1, .bool e1, .int .u32 f1, .int .u32 g1, .int .u32 h1, .int .u32 i1, .slice A1 n1 k1] 25)).heap.size = w.heap.size + 1 by simp] at hcb
  have HCB := Lib.hid hcb
  clear hcb
  go_enter Try.func18, Try.ntmps18
  go_upto_region 1 with (fail)
  generalize (w.alloc (.cells #[.bool a1, .bool b1, .bool d1, .bool e1, .int .u32 f1, .int .u32 g1, .int .u32 h1, .int .u32 i1, .slice A1 n1 k1] 25)).alloc (.cells #[.bool a2, .bool b2, .bool d2, .bool e2, .int .u32 f2, .int .u32 g2, .int .u32 h2, .int .u32 i2, .slice A2 n2 k2] 25) = wa at HU HC1 HCB ⊢
  have x0 := cell_of HC1.out (j := 0) rfl
  have y0 := cell_of HCB.out (j := 0) rfl
  go_wp2_with fail
  go_ret
  exact ⟨rfl, HU⟩
set_option maxRecDepth 100000 in
set_option maxHeartbeats 4000000 in
theorem sameM_1 (a1 b1 d1 e1 b2 d2 e2 : Bool) (f1 g1 h1 i1 f2 g2 h2 i2 : Int) (A1 A2 : Option Addr) (n1 n2 k1 k2 : Nat) (w : World) (hne : b1 ≠ b2) : Calls Try.prog 18 #[.agg #[.bool a1, .bool b1, .bool d1, .bool e1, .int .u32 f1, .int .u32 g1, .int .u32 h1, .int .u32 i1, .slice A1 n1 k1], .agg #[.bool a1, .bool b2, .bool d2, .bool e2, .int .u32 f2, .int .u32 g2, .int .u32 h2, .int .u32 i2, .slice A2 n2 k2]] w (RetB false w) := by
  have hd1 : (b1 == b2) = false := by rw [beq_eq_false_iff_ne]; exact hne
  have HU := Lib.hid ((up_alloc w (.cells #[.bool a1, .bool b1, .bool d1, .bool e1, .int .u32 f1, .int .u32 g1, .int .u32 h1, .int .u32 i1, .slice A1 n1 k1] 25)).trans (up_alloc _ (.cells #[.bool a1, .bool b2, .bool d2, .bool e2, .int .u32 f2, .int .u32 g2, .int .u32 h2, .int .u32 i2, .slice A2 n2 k2] 25)))
  have HC1 := Lib.hid (blk_up0 (new_at w (.cells #[.bool a1, .bool b1, .bool d1, .bool e1, .int .u32 f1, .int .u32 g1, .int .u32 h1, .int .u32 i1, .slice A1 n1 k1] 25)) (up_alloc _ (.cells #[.bool a1, .bool b2, .bool d2, .bool e2, .int .u32 f2, .int .u32 g2, .int .u32 h2, .int .u32 i2, .slice A2 n2 k2] 25)))
  have hcb := new_at (w.alloc (.cells #[.bool a1, .bool b1, .bool d1, .bool e1, .int .u32 f1, .int .u32 g1, .int .u32 h1, .int .u32 i1, .slice A1 n1 k1] 25)) (.cells #[.bool a1, .bool b2, .bool d2, .bool e2, .int .u32 f2, .int .u32 g2, .int .u32 h2, .int .u32 i2, .slice A2 n2 k2] 25)
  rw [show (w.alloc (.cells #[.bool a1, .bool b1, .bool d1, .bool e1, .int .u32 f1, .int .u32 g1, .int .u32 h1, .int .u32 i1, .slice A1 n1 k1] 25)).heap.size = w.heap.size + 1 by simp] at hcb
  have HCB := Lib.hid hcb
  clear hcb
  go_enter Try.func18, Try.ntmps18
  go_upto_region 1 with (fail)
  generalize (w.alloc (.cells #[.bool a1, .bool b1, .bool d1, .bool e1, .int .u32 f1, .int .u32 g1, .int .u32 h1, .int .u32 i1, .slice A1 n1 k1] 25)).alloc (.cells #[.bool a1, .bool b2, .bool d2, .bool e2, .int .u32 f2, .int .u32 g2, .int .u32 h2, .int .u32 i2, .slice A2 n2 k2] 25) = wa at HU HC1 HCB ⊢
  have x0 := cell_of HC1.out (j := 0) rfl
  have y0 := cell_of HCB.out (j := 0) rfl
  have x1 := cell_of HC1.out (j := 1) rfl
  have y1 := cell_of HCB.out (j := 1) rfl
  go_wp2_with fail
  go_ret
  exact ⟨rfl, HU⟩
set_option maxRecDepth 100000 in
set_option maxHeartbeats 4000000 in
theorem sameM_2 (a1 b1 d1 e1 d2 e2 : Bool) (f1 g1 h1 i1 f2 g2 h2 i2 : Int) (A1 A2 : Option Addr) (n1 n2 k1 k2 : Nat) (w : World) (hne : d1 ≠ d2) : Calls Try.prog 18 #[.agg #[.bool a1, .bool b1, .bool d1, .bool e1, .int .u32 f1, .int .u32 g1, .int .u32 h1, .int .u32 i1, .slice A1 n1 k1], .agg #[.bool a1, .bool b1, .bool d2, .bool e2, .int .u32 f2, .int .u32 g2, .int .u32 h2, .int .u32 i2, .slice A2 n2 k2]] w (RetB false w) := by
  have hd1 : (d1 == d2) = false := by rw [beq_eq_false_iff_ne]; exact hne
  have HU := Lib.hid ((up_alloc w (.cells #[.bool a1, .bool b1, .bool d1, .bool e1, .int .u32 f1, .int .u32 g1, .int .u32 h1, .int .u32 i1, .slice A1 n1 k1] 25)).trans (up_alloc _ (.cells #[.bool a1, .bool b1, .bool d2, .bool e2, .int .u32 f2, .int .u32 g2, .int .u32 h2, .int .u32 i2, .slice A2 n2 k2] 25)))
  have HC1 := Lib.hid (blk_up0 (new_at w (.cells #[.bool a1, .bool b1, .bool d1, .bool e1, .int .u32 f1, .int .u32 g1, .int .u32 h1, .int .u32 i1, .slice A1 n1 k1] 25)) (up_alloc _ (.cells #[.bool a1, .bool b1, .bool d2, .bool e2, .int .u32 f2, .int .u32 g2, .int .u32 h2, .int .u32 i2, .slice A2 n2 k2] 25)))
  have hcb := new_at (w.alloc (.cells #[.bool a1, .bool b1, .bool d1, .bool e1, .int .u32 f1, .int .u32 g1, .int .u32 h1, .int .u32 i1, .slice A1 n1 k1] 25)) (.cells #[.bool a1, .bool b1, .bool d2, .bool e2, .int .u32 f2, .int .u32 g2, .int .u32 h2, .int .u32 i2, .slice A2 n2 k2] 25)
  rw [show (w.alloc (.cells #[.bool a1, .bool b1, .bool d1, .bool e1, .int .u32 f1, .int .u32 g1, .int .u32 h1, .int .u32 i1, .slice A1 n1 k1] 25)).heap.size = w.heap.size + 1 by simp] at hcb
  have HCB := Lib.hid hcb
  clear hcb
  go_enter Try.func18, Try.ntmps18
  go_upto_region 1 with (fail)
  generalize (w.alloc (.cells #[.bool a1, .bool b1, .bool d1, .bool e1, .int .u32 f1, .int .u32 g1, .int .u32 h1, .int .u32 i1, .slice A1 n1 k1] 25)).alloc (.cells #[.bool a1, .bool b1, .bool d2, .bool e2, .int .u32 f2, .int .u32 g2, .int .u32 h2, .int .u32 i2, .slice A2 n2 k2] 25) = wa at HU HC1 HCB ⊢
  have x0 := cell_of HC1.out (j := 0) rfl
  have y0 := cell_of HCB.out (j := 0) rfl
  have x1 := cell_of HC1.out (j := 1) rfl
  have y1 := cell_of HCB.out (j := 1) rfl
  have x2 := cell_of HC1.out (j := 2) rfl
  have y2 := cell_of HCB.out (j := 2) rfl
  go_wp2_with fail
  go_ret
  exact ⟨rfl, HU⟩
set_option maxRecDepth 100000 in
set_option maxHeartbeats 4000000 in
theorem sameM_3 (a1 b1 d1 e1 e2 : Bool) (f1 g1 h1 i1 f2 g2 h2 i2 : Int) (A1 A2 : Option Addr) (n1 n2 k1 k2 : Nat) (w : World) (hne : e1 ≠ e2) : Calls Try.prog 18 #[.agg #[.bool a1, .bool b1, .bool d1, .bool e1, .int .u32 f1, .int .u32 g1, .int .u32 h1, .int .u32 i1, .slice A1 n1 k1], .agg #[.bool a1, .bool b1, .bool d1, .bool e2, .int .u32 f2, .int .u32 g2, .int .u32 h2, .int .u32 i2, .slice A2 n2 k2]] w (RetB false w) := by
  have hd1 : (e1 == e2) = false := by rw [beq_eq_false_iff_ne]; exact hne
  have HU := Lib.hid ((up_alloc w (.cells #[.bool a1, .bool b1, .bool d1, .bool e1, .int .u32 f1, .int .u32 g1, .int .u32 h1, .int .u32 i1, .slice A1 n1 k1] 25)).trans (up_alloc _ (.cells #[.bool a1, .bool b1, .bool d1, .bool e2, .int .u32 f2, .int .u32 g2, .int .u32 h2, .int .u32 i2, .slice A2 n2 k2] 25)))
  have HC1 := Lib.hid (blk_up0 (new_at w (.cells #[.bool a1, .bool b1, .bool d1, .bool e1, .int .u32 f1, .int .u32 g1, .int .u32 h1, .int .u32 i1, .slice A1 n1 k1] 25)) (up_alloc _ (.cells #[.bool a1, .bool b1, .bool d1, .bool e2, .int .u32 f2, .int .u32 g2, .int .u32 h2, .int .u32 i2, .slice A2 n2 k2] 25)))
  have hcb := new_at (w.alloc (.cells #[.bool a1, .bool b1, .bool d1, .bool e1, .int .u32 f1, .int .u32 g1, .int .u32 h1, .int .u32 i1, .slice A1 n1 k1] 25)) (.cells #[.bool a1, .bool b1, .bool d1, .bool e2, .int .u32 f2, .int .u32 g2, .int .u32 h2, .int .u32 i2, .slice A2 n2 k2] 25)
  rw [show (w.alloc (.cells #[.bool a1, .bool b1, .bool d1, .bool e1, .int .u32 f1, .int .u32 g1, .int .u32 h1, .int .u32 i1, .slice A1 n1 k1] 25)).heap.size = w.heap.size + 1 by simp] at hcb
  have HCB := Lib.hid hcb
  clear hcb
  go_enter Try.func18, Try.ntmps18
  go_upto_region 1 with (fail)
  generalize (w.alloc (.cells #[.bool a1, .bool b1, .bool d1, .bool e1, .int .u32 f1, .int .u32 g1, .int .u32 h1, .int .u32 i1, .slice A1 n1 k1] 25)).alloc (.cells #[.bool a1, .bool b1, .bool d1, .bool e2, .int .u32 f2, .int .u32 g2, .int .u32 h2, .int .u32 i2, .slice A2 n2 k2] 25) = wa at HU HC1 HCB ⊢
  have x0 := cell_of HC1.out (j := 0) rfl
  have y0 := cell_of HCB.out (j := 0) rfl
  have x1 := cell_of HC1.out (j := 1) rfl
  have y1 := cell_of HCB.out (j := 1) rfl
  have x2 := cell_of HC1.out (j := 2) rfl
  have y2 := cell_of HCB.out (j := 2) rfl
  have x3 := cell_of HC1.out (j := 3) rfl
  have y3 := cell_of HCB.out (j := 3) rfl
  go_wp2_with fail
  go_ret
  exact ⟨rfl, HU⟩
set_option maxRecDepth 100000 in
set_option maxHeartbeats 4000000 in
theorem sameM_4 (a1 b1 d1 e1 : Bool) (f1 g1 h1 i1 f2 g2 h2 i2 : Int) (A1 A2 : Option Addr) (n1 n2 k1 k2 : Nat) (w : World) (hne : f1 ≠ f2) : Calls Try.prog 18 #[.agg #[.bool a1, .bool b1, .bool d1, .bool e1, .int .u32 f1, .int .u32 g1, .int .u32 h1, .int .u32 i1, .slice A1 n1 k1], .agg #[.bool a1, .bool b1, .bool d1, .bool e1, .int .u32 f2, .int .u32 g2, .int .u32 h2, .int .u32 i2, .slice A2 n2 k2]] w (RetB false w) := by
  have hd1 : (f1 == f2) = false := by rw [beq_eq_false_iff_ne]; exact hne
  have HU := Lib.hid ((up_alloc w (.cells #[.bool a1, .bool b1, .bool d1, .bool e1, .int .u32 f1, .int .u32 g1, .int .u32 h1, .int .u32 i1, .slice A1 n1 k1] 25)).trans (up_alloc _ (.cells #[.bool a1, .bool b1, .bool d1, .bool e1, .int .u32 f2, .int .u32 g2, .int .u32 h2, .int .u32 i2, .slice A2 n2 k2] 25)))
  have HC1 := Lib.hid (blk_up0 (new_at w (.cells #[.bool a1, .bool b1, .bool d1, .bool e1, .int .u32 f1, .int .u32 g1, .int .u32 h1, .int .u32 i1, .slice A1 n1 k1] 25)) (up_alloc _ (.cells #[.bool a1, .bool b1, .bool d1, .bool e1, .int .u32 f2, .int .u32 g2, .int .u32 h2, .int .u32 i2, .slice A2 n2 k2] 25)))
  have hcb := new_at (w.alloc (.cells #[.bool a1, .bool b1, .bool d1, .bool e1, .int .u32 f1, .int .u32 g1, .int .u32 h1, .int .u32 i1, .slice A1 n1 k1] 25)) (.cells #[.bool a1, .bool b1, .bool d1, .bool e1, .int .u32 f2, .int .u32 g2, .int .u32 h2, .int .u32 i2, .slice A2 n2 k2] 25)
  rw [show (w.alloc (.cells #[.bool a1, .bool b1, .bool d1, .bool e1, .int .u32 f1, .int .u32 g1, .int .u32 h1, .int .u32 i1, .slice A1 n1 k1] 25)).heap.size = w.heap.size + 1 by simp] at hcb
  have HCB := Lib.hid hcb
  clear hcb
  go_enter Try.func18, Try.ntmps18
  go_upto_region 1 with (fail)
  generalize (w.alloc (.cells #[.bool a1, .bool b1, .bool d1, .bool e1, .int .u32 f1, .int .u32 g1, .int .u32 h1, .int .u32 i1, .slice A1 n1 k1] 25)).alloc (.cells #[.bool a1, .bool b1, .bool d1, .bool e1, .int .u32 f2, .int .u32 g2, .int .u32 h2, .int .u32 i2, .slice A2 n2 k2] 25) = wa at HU HC1 HCB ⊢
  have x0 := cell_of HC1.out (j := 0) rfl
  have y0 := cell_of HCB.out (j := 0) rfl
  have x1 := cell_of HC1.out (j := 1) rfl
  have y1 := cell_of HCB.out (j := 1) rfl
  have x2 := cell_of HC1.out (j := 2) rfl
  have y2 := cell_of HCB.out (j := 2) rfl
  have x3 := cell_of HC1.out (j := 3) rfl
  have y3 := cell_of HCB.out (j := 3) rfl
  have x4 := cell_of HC1.out (j := 4) rfl
  have y4 := cell_of HCB.out (j := 4) rfl
  go_wp2_with fail
  go_ret
  exact ⟨rfl, HU⟩
set_option maxRecDepth 100000 in
set_option maxHeartbeats 4000000 in
theorem sameM_5 (a1 b1 d1 e1 : Bool) (f1 g1 h1 i1 g2 h2 i2 : Int) (A1 A2 : Option Addr) (n1 n2 k1 k2 : Nat) (w : World) (hne : g1 ≠ g2) : Calls Try.prog 18 #[.agg #[.bool a1, .bool b1, .bool d1, .bool e1, .int .u32 f1, .int .u32 g1, .int .u32 h1, .int .u32 i1, .slice A1 n1 k1], .agg #[.bool a1, .bool b1, .bool d1, .bool e1, .int .u32 f1, .int .u32 g2, .int .u32 h2, .int .u32 i2, .slice A2 n2 k2]] w (RetB false w) := by
  have hd1 : (g1 == g2) = false := by rw [beq_eq_false_iff_ne]; exact hne
  have HU := Lib.hid ((up_alloc w (.cells #[.bool a1, .bool b1, .bool d1, .bool e1, .int .u32 f1, .int .u32 g1, .int .u32 h1, .int .u32 i1, .slice A1 n1 k1] 25)).trans (up_alloc _ (.cells #[.bool a1, .bool b1, .bool d1, .bool e1, .int .u32 f1, .int .u32 g2, .int .u32 h2, .int .u32 i2, .slice A2 n2 k2] 25)))
  have HC1 := Lib.hid (blk_up0 (new_at w (.cells #[.bool a1, .bool b1, .bool d1, .bool e1, .int .u32 f1, .int .u32 g1, .int .u32 h1, .int .u32 i1, .slice A1 n1 k1] 25)) (up_alloc _ (.cells #[.bool a1, .bool b1, .bool d1, .bool e1, .int .u32 f1, .int .u32 g2, .int .u32 h2, .int .u32 i2, .slice A2 n2 k2] 25)))
  have hcb := new_at (w.alloc (.cells #[.bool a1, .bool b1, .bool d1, .bool e1, .int .u32 f1, .int .u32 g1, .int .u32 h1, .int .u32 i1, .slice A1 n1 k1] 25)) (.cells #[.bool a1, .bool b1, .bool d1, .bool e1, .int .u32 f1, .int .u32 g2, .int .u32 h2, .int .u32 i2, .slice A2 n2 k2] 25)
  rw [show (w.alloc (.cells #[.bool a1, .bool b1, .bool d1, .bool e1, .int .u32 f1, .int .u32 g1, .int .u32 h1, .int .u32 i1, .slice A1 n1 k1] 25)).heap.size = w.heap.size + 1 by simp] at hcb
  have HCB := Lib.hid hcb
  clear hcb
  go_enter Try.func18, Try.ntmps18
  go_upto_region 1 with (fail)
  generalize (w.alloc (.cells #[.bool a1, .bool b1, .bool d1, .bool e1, .int .u32 f1, .int .u32 g1, .int .u32 h1, .int .u32 i1, .slice A1 n1 k1] 25)).alloc (.cells #[.bool a1, .bool b1, .bool d1, .bool e1, .int .u32 f1, .int .u32 g2, .int .u32 h2, .int .u32 i2, .slice A2 n2 k2] 25) = wa at HU HC1 HCB ⊢
  have x0 := cell_of HC1.out (j := 0) rfl
  have y0 := cell_of HCB.out (j := 0) rfl
  have x1 := cell_of HC1.out (j := 1) rfl
  have y1 := cell_of HCB.out (j := 1) rfl
  have x2 := cell_of HC1.out (j := 2) rfl
  have y2 := cell_of HCB.out (j := 2) rfl
  have x3 := cell_of HC1.out (j := 3) rfl
  have y3 := cell_of HCB.out (j := 3) rfl
  have x4 := cell_of HC1.out (j := 4) rfl
  have y4 := cell_of HCB.out (j := 4) rfl
  have x5 := cell_of HC1.out (j := 5) rfl
  have y5 := cell_of HCB.out (j := 5) rfl
  go_wp2_with fail
  go_ret
  exact ⟨rfl, HU⟩
set_option maxRecDepth 100000 in
set_option maxHeartbeats 4000000 in
theorem sameM_6 (a1 b1 d1 e1 : Bool) (f1 g1 h1 i1 h2 i2 : Int) (A1 A2 : Option Addr) (n1 n2 k1 k2 : Nat) (w : World) (hne : h1 ≠ h2) : Calls Try.prog 18 #[.agg #[.bool a1, .bool b1, .bool d1, .bool e1, .int .u32 f1, .int .u32 g1, .int .u32 h1, .int .u32 i1, .slice A1 n1 k1], .agg #[.bool a1, .bool b1, .bool d1, .bool e1, .int .u32 f1, .int .u32 g1, .int .u32 h2, .int .u32 i2, .slice A2 n2 k2]] w (RetB false w) := by
  have hd1 : (h1 == h2) = false := by rw [beq_eq_false_iff_ne]; exact hne
  have HU := Lib.hid ((up_alloc w (.cells #[.bool a1, .bool b1, .bool d1, .bool e1, .int .u32 f1, .int .u32 g1, .int .u32 h1, .int .u32 i1, .slice A1 n1 k1] 25)).trans (up_alloc _ (.cells #[.bool a1, .bool b1, .bool d1, .bool e1, .int .u32 f1, .int .u32 g1, .int .u32 h2, .int .u32 i2, .slice A2 n2 k2] 25)))
  have HC1 := Lib.hid (blk_up0 (new_at w (.cells #[.bool a1, .bool b1, .bool d1, .bool e1, .int .u32 f1, .int .u32 g1, .int .u32 h1, .int .u32 i1, .slice A1 n1 k1] 25)) (up_alloc _ (.cells #[.bool a1, .bool b1, .bool d1, .bool e1, .int .u32 f1, .int .u32 g1, .int .u32 h2, .int .u32 i2, .slice A2 n2 k2] 25)))
  have hcb := new_at (w.alloc (.cells #[.bool a1, .bool b1, .bool d1, .bool e1, .int .u32 f1, .int .u32 g1, .int .u32 h1, .int .u32 i1, .slice A1 n1 k1] 25)) (.cells #[.bool a1, .bool b1, .bool d1, .bool e1, .int .u32 f1, .int .u32 g1, .int .u32 h2, .int .u32 i2, .slice A2 n2 k2] 25)
  rw [show (w.alloc (.cells #[.bool a1, .bool b1, .bool d1, .bool e1, .int .u32 f1, .int .u32 g1, .int .u32 h1, .int .u32 i1, .slice A1 n1 k1] 25)).heap.size = w.heap.size + 1 by simp] at hcb
  have HCB := Lib.hid hcb
  clear hcb
  go_enter Try.func18, Try.ntmps18
  go_upto_region 1 with (fail)
  generalize (w.alloc (.cells #[.bool a1, .bool b1, .bool d1, .bool e1, .int .u32 f1, .int .u32 g1, .int .u32 h1, .int .u32 i1, .slice A1 n1 k1] 25)).alloc (.cells #[.bool a1, .bool b1, .bool d1, .bool e1, .int .u32 f1, .int .u32 g1, .int .u32 h2, .int .u32 i2, .slice A2 n2 k2] 25) = wa at HU HC1 HCB ⊢
  have x0 := cell_of HC1.out (j := 0) rfl
  have y0 := cell_of HCB.out (j := 0) rfl
  have x1 := cell_of HC1.out (j := 1) rfl
  have y1 := cell_of HCB.out (j := 1) rfl
  have x2 := cell_of HC1.out (j := 2) rfl
  have y2 := cell_of HCB.out (j := 2) rfl
  have x3 := cell_of HC1.out (j := 3) rfl
  have y3 := cell_of HCB.out (j := 3) rfl
  have x4 := cell_of HC1.out (j := 4) rfl
  have y4 := cell_of HCB.out (j := 4) rfl
  have x5 := cell_of HC1.out (j := 5) rfl
  have y5 := cell_of HCB.out (j := 5) rfl
  have x6 := cell_of HC1.out (j := 6) rfl
  have y6 := cell_of HCB.out (j := 6) rfl
  go_wp2_with fail
  go_ret
  exact ⟨rfl, HU⟩
set_option maxRecDepth 100000 in
set_option maxHeartbeats 4000000 in
theorem sameM_7 (a1 b1 d1 e1 : Bool) (f1 g1 h1 i1 i2 : Int) (A1 A2 : Option Addr) (n1 n2 k1 k2 : Nat) (w : World) (hne : i1 ≠ i2) : Calls Try.prog 18 #[.agg #[.bool a1, .bool b1, .bool d1, .bool e1, .int .u32 f1, .int .u32 g1, .int .u32 h1, .int .u32 i1, .slice A1 n1 k1], .agg #[.bool a1, .bool b1, .bool d1, .bool e1, .int .u32 f1, .int .u32 g1, .int .u32 h1, .int .u32 i2, .slice A2 n2 k2]] w (RetB false w) := by
  have hd1 : (i1 == i2) = false := by rw [beq_eq_false_iff_ne]; exact hne
  have HU := Lib.hid ((up_alloc w (.cells #[.bool a1, .bool b1, .bool d1, .bool e1, .int .u32 f1, .int .u32 g1, .int .u32 h1, .int .u32 i1, .slice A1 n1 k1] 25)).trans (up_alloc _ (.cells #[.bool a1, .bool b1, .bool d1, .bool e1, .int .u32 f1, .int .u32 g1, .int .u32 h1, .int .u32 i2, .slice A2 n2 k2] 25)))
  have HC1 := Lib.hid (blk_up0 (new_at w (.cells #[.bool a1, .bool b1, .bool d1, .bool e1, .int .u32 f1, .int .u32 g1, .int .u32 h1, .int .u32 i1, .slice A1 n1 k1] 25)) (up_alloc _ (.cells #[.bool a1, .bool b1, .bool d1, .bool e1, .int .u32 f1, .int .u32 g1, .int .u32 h1, .int .u32 i2, .slice A2 n2 k2] 25)))
  have hcb := new_at (w.alloc (.cells #[.bool a1, .bool b1, .bool d1, .bool e1, .int .u32 f1, .int .u32 g1, .int .u32 h1, .int .u32 i1, .slice A1 n1 k1] 25)) (.cells #[.bool a1, .bool b1, .bool d1, .bool e1, .int .u32 f1, .int .u32 g1, .int .u32 h1, .int .u32 i2, .slice A2 n2 k2] 25)
  rw [show (w.alloc (.cells #[.bool a1, .bool b1, .bool d1, .bool e1, .int .u32 f1, .int .u32 g1, .int .u32 h1, .int .u32 i1, .slice A1 n1 k1] 25)).heap.size = w.heap.size + 1 by simp] at hcb
  have HCB := Lib.hid hcb
  clear hcb
  go_enter Try.func18, Try.ntmps18
  go_upto_region 1 with (fail)
  generalize (w.alloc (.cells #[.bool a1, .bool b1, .bool d1, .bool e1, .int .u32 f1, .int .u32 g1, .int .u32 h1, .int .u32 i1, .slice A1 n1 k1] 25)).alloc (.cells #[.bool a1, .bool b1, .bool d1, .bool e1, .int .u32 f1, .int .u32 g1, .int .u32 h1, .int .u32 i2, .slice A2 n2 k2] 25) = wa at HU HC1 HCB ⊢
  have x0 := cell_of HC1.out (j := 0) rfl
  have y0 := cell_of HCB.out (j := 0) rfl
  have x1 := cell_of HC1.out (j := 1) rfl
  have y1 := cell_of HCB.out (j := 1) rfl
  have x2 := cell_of HC1.out (j := 2) rfl
  have y2 := cell_of HCB.out (j := 2) rfl
  have x3 := cell_of HC1.out (j := 3) rfl
  have y3 := cell_of HCB.out (j := 3) rfl
  have x4 := cell_of HC1.out (j := 4) rfl
  have y4 := cell_of HCB.out (j := 4) rfl
  have x5 := cell_of HC1.out (j := 5) rfl
  have y5 := cell_of HCB.out (j := 5) rfl
  have x6 := cell_of HC1.out (j := 6) rfl
  have y6 := cell_of HCB.out (j := 6) rfl
  have x7 := cell_of HC1.out (j := 7) rfl
  have y7 := cell_of HCB.out (j := 7) rfl
  go_wp2_with fail
  go_ret
  exact ⟨rfl, HU⟩
set_option maxRecDepth 100000 in
set_option maxHeartbeats 4000000 in
theorem sameM_8 (a1 b1 d1 e1 : Bool) (f1 g1 h1 i1 : Int) (A1 A2 : Option Addr) (n1 n2 k1 k2 : Nat) (l m : List AvB) (w : World) (hl : InL w A1 n1 k1 l) (hk : InL w A2 n2 k2 m) (hn : n1 ≤ 140737488351232) (hm : n2 ≤ 140737488351232) : Calls Try.prog 18 #[.agg #[.bool a1, .bool b1, .bool d1, .bool e1, .int .u32 f1, .int .u32 g1, .int .u32 h1, .int .u32 i1, .slice A1 n1 k1], .agg #[.bool a1, .bool b1, .bool d1, .bool e1, .int .u32 f1, .int .u32 g1, .int .u32 h1, .int .u32 i1, .slice A2 n2 k2]] w (RetB (decide (l.map AvB.pure = m.map AvB.pure)) w) := by
  have HL := Lib.hid hl
  have HK := Lib.hid hk
  clear hl hk
  have HU := Lib.hid ((up_alloc w (.cells #[.bool a1, .bool b1, .bool d1, .bool e1, .int .u32 f1, .int .u32 g1, .int .u32 h1, .int .u32 i1, .slice A1 n1 k1] 25)).trans (up_alloc _ (.cells #[.bool a1, .bool b1, .bool d1, .bool e1, .int .u32 f1, .int .u32 g1, .int .u32 h1, .int .u32 i1, .slice A2 n2 k2] 25)))
  have HC1 := Lib.hid (blk_up0 (new_at w (.cells #[.bool a1, .bool b1, .bool d1, .bool e1, .int .u32 f1, .int .u32 g1, .int .u32 h1, .int .u32 i1, .slice A1 n1 k1] 25)) (up_alloc _ (.cells #[.bool a1, .bool b1, .bool d1, .bool e1, .int .u32 f1, .int .u32 g1, .int .u32 h1, .int .u32 i1, .slice A2 n2 k2] 25)))
  have hcb := new_at (w.alloc (.cells #[.bool a1, .bool b1, .bool d1, .bool e1, .int .u32 f1, .int .u32 g1, .int .u32 h1, .int .u32 i1, .slice A1 n1 k1] 25)) (.cells #[.bool a1, .bool b1, .bool d1, .bool e1, .int .u32 f1, .int .u32 g1, .int .u32 h1, .int .u32 i1, .slice A2 n2 k2] 25)
  rw [show (w.alloc (.cells #[.bool a1, .bool b1, .bool d1, .bool e1, .int .u32 f1, .int .u32 g1, .int .u32 h1, .int .u32 i1, .slice A1 n1 k1] 25)).heap.size = w.heap.size + 1 by simp] at hcb
  have HCB := Lib.hid hcb
  clear hcb
  go_enter Try.func18, Try.ntmps18
  go_upto_region 1 with (fail)
  generalize (w.alloc (.cells #[.bool a1, .bool b1, .bool d1, .bool e1, .int .u32 f1, .int .u32 g1, .int .u32 h1, .int .u32 i1, .slice A1 n1 k1] 25)).alloc (.cells #[.bool a1, .bool b1, .bool d1, .bool e1, .int .u32 f1, .int .u32 g1, .int .u32 h1, .int .u32 i1, .slice A2 n2 k2] 25) = wa at HU HC1 HCB ⊢
  have x0 := cell_of HC1.out (j := 0) rfl
  have y0 := cell_of HCB.out (j := 0) rfl
  have x1 := cell_of HC1.out (j := 1) rfl
  have y1 := cell_of HCB.out (j := 1) rfl
  have x2 := cell_of HC1.out (j := 2) rfl
  have y2 := cell_of HCB.out (j := 2) rfl
  have x3 := cell_of HC1.out (j := 3) rfl
  have y3 := cell_of HCB.out (j := 3) rfl
  have x4 := cell_of HC1.out (j := 4) rfl
  have y4 := cell_of HCB.out (j := 4) rfl
  have x5 := cell_of HC1.out (j := 5) rfl
  have y5 := cell_of HCB.out (j := 5) rfl
  have x6 := cell_of HC1.out (j := 6) rfl
  have y6 := cell_of HCB.out (j := 6) rfl
  have x7 := cell_of HC1.out (j := 7) rfl
  have y7 := cell_of HCB.out (j := 7) rfl
  have x8 := cell_of HC1.out (j := 8) rfl
  have y8 := cell_of HCB.out (j := 8) rfl
  go_wp2_with fail
  refine (sameAll_any A1 A2 n1 k1 n2 k2 l m wa (HL.out.up HU.out) (HK.out.up HU.out) hn hm).mono ?_
  rintro e w' ⟨rfl, hu⟩
  go_wp2_with fail
  go_ret
  exact ⟨rfl, Lib.hid (HU.out.trans hu.out)⟩
instance : DecidableEq Msg := fun a b => if h : (a.req = b.req ∧ a.prox = b.prox ∧ a.fail = b.fail ∧ a.again = b.again ∧ a.code = b.code ∧ a.app = b.app ∧ a.hop = b.hop ∧ a.end_ = b.end_) ∧ a.avps = b.avps then .isTrue (by
    obtain ⟨a1, a2, a3, a4, a5, a6, a7, a8, a9⟩ := a
    obtain ⟨b1, b2, b3, b4, b5, b6, b7, b8, b9⟩ := b
    simp at h ⊢
    simp [h]) else .isFalse (fun e => h (by subst e; simp))
theorem sameM_any (x y : MsB) (w : World) (hl : InL w x.A x.n x.c x.avps) (hk : InL w y.A y.n y.c y.avps) (hn : x.n ≤ 140737488351232) (hm : y.n ≤ 140737488351232) : Calls Try.prog 18 #[msV x, msV y] w (RetB (decide (x.pure = y.pure)) w) := by
  obtain ⟨a1, b1, d1, e1, f1, g1, h1, i1, A1, n1, k1, l⟩ := x
  obtain ⟨a2, b2, d2, e2, f2, g2, h2, i2, A2, n2, k2, m⟩ := y
  simp only at hl hk hn hm
  by_cases q0 : a1 = a2
  · subst q0
    by_cases q1 : b1 = b2
    · subst q1
      by_cases q2 : d1 = d2
      · subst q2
        by_cases q3 : e1 = e2
        · subst q3
          by_cases q4 : f1 = f2
          · subst q4
            by_cases q5 : g1 = g2
            · subst q5
              by_cases q6 : h1 = h2
              · subst q6
                by_cases q7 : i1 = i2
                · subst q7
                  have e : decide ((⟨a1, b1, d1, e1, f1, g1, h1, i1, l.map AvB.pure⟩ : Msg) = ⟨a1, b1, d1, e1, f1, g1, h1, i1, m.map AvB.pure⟩) = decide (l.map AvB.pure = m.map AvB.pure) := by simp
                  show Calls _ _ _ _ (RetB (decide ((⟨a1, b1, d1, e1, f1, g1, h1, i1, l.map AvB.pure⟩ : Msg) = ⟨a1, b1, d1, e1, f1, g1, h1, i1, m.map AvB.pure⟩)) w)
                  rw [e]; exact sameM_8 a1 b1 d1 e1 f1 g1 h1 i1 A1 A2 n1 n2 k1 k2 l m w hl hk hn hm
                · have e : decide ((⟨a1, b1, d1, e1, f1, g1, h1, i1, l.map AvB.pure⟩ : Msg) = ⟨a1, b1, d1, e1, f1, g1, h1, i2, m.map AvB.pure⟩) = false := by rw [decide_eq_false_iff_not]; intro e; injection e with z0 z1 z2 z3 z4 z5 z6 z7 z8; exact q7 z7
                  show Calls _ _ _ _ (RetB (decide ((⟨a1, b1, d1, e1, f1, g1, h1, i1, l.map AvB.pure⟩ : Msg) = ⟨a1, b1, d1, e1, f1, g1, h1, i2, m.map AvB.pure⟩)) w)
                  rw [e]; exact sameM_7 a1 b1 d1 e1 f1 g1 h1 i1 i2 A1 A2 n1 n2 k1 k2 w q7
              · have e : decide ((⟨a1, b1, d1, e1, f1, g1, h1, i1, l.map AvB.pure⟩ : Msg) = ⟨a1, b1, d1, e1, f1, g1, h2, i2, m.map AvB.pure⟩) = false := by rw [decide_eq_false_iff_not]; intro e; injection e with z0 z1 z2 z3 z4 z5 z6 z7 z8; exact q6 z6
                show Calls _ _ _ _ (RetB (decide ((⟨a1, b1, d1, e1, f1, g1, h1, i1, l.map AvB.pure⟩ : Msg) = ⟨a1, b1, d1, e1, f1, g1, h2, i2, m.map AvB.pure⟩)) w)
                rw [e]; exact sameM_6 a1 b1 d1 e1 f1 g1 h1 i1 h2 i2 A1 A2 n1 n2 k1 k2 w q6
            · have e : decide ((⟨a1, b1, d1, e1, f1, g1, h1, i1, l.map AvB.pure⟩ : Msg) = ⟨a1, b1, d1, e1, f1, g2, h2, i2, m.map AvB.pure⟩) = false := by rw [decide_eq_false_iff_not]; intro e; injection e with z0 z1 z2 z3 z4 z5 z6 z7 z8; exact q5 z5
              show Calls _ _ _ _ (RetB (decide ((⟨a1, b1, d1, e1, f1, g1, h1, i1, l.map AvB.pure⟩ : Msg) = ⟨a1, b1, d1, e1, f1, g2, h2, i2, m.map AvB.pure⟩)) w)
              rw [e]; exact sameM_5 a1 b1 d1 e1 f1 g1 h1 i1 g2 h2 i2 A1 A2 n1 n2 k1 k2 w q5
          · have e : decide ((⟨a1, b1, d1, e1, f1, g1, h1, i1, l.map AvB.pure⟩ : Msg) = ⟨a1, b1, d1, e1, f2, g2, h2, i2, m.map AvB.pure⟩) = false := by rw [decide_eq_false_iff_not]; intro e; injection e with z0 z1 z2 z3 z4 z5 z6 z7 z8; exact q4 z4
            show Calls _ _ _ _ (RetB (decide ((⟨a1, b1, d1, e1, f1, g1, h1, i1, l.map AvB.pure⟩ : Msg) = ⟨a1, b1, d1, e1, f2, g2, h2, i2, m.map AvB.pure⟩)) w)
            rw [e]; exact sameM_4 a1 b1 d1 e1 f1 g1 h1 i1 f2 g2 h2 i2 A1 A2 n1 n2 k1 k2 w q4
        · have e : decide ((⟨a1, b1, d1, e1, f1, g1, h1, i1, l.map AvB.pure⟩ : Msg) = ⟨a1, b1, d1, e2, f2, g2, h2, i2, m.map AvB.pure⟩) = false := by rw [decide_eq_false_iff_not]; intro e; injection e with z0 z1 z2 z3 z4 z5 z6 z7 z8; exact q3 z3
          show Calls _ _ _ _ (RetB (decide ((⟨a1, b1, d1, e1, f1, g1, h1, i1, l.map AvB.pure⟩ : Msg) = ⟨a1, b1, d1, e2, f2, g2, h2, i2, m.map AvB.pure⟩)) w)
          rw [e]; exact sameM_3 a1 b1 d1 e1 e2 f1 g1 h1 i1 f2 g2 h2 i2 A1 A2 n1 n2 k1 k2 w q3
      · have e : decide ((⟨a1, b1, d1, e1, f1, g1, h1, i1, l.map AvB.pure⟩ : Msg) = ⟨a1, b1, d2, e2, f2, g2, h2, i2, m.map AvB.pure⟩) = false := by rw [decide_eq_false_iff_not]; intro e; injection e with z0 z1 z2 z3 z4 z5 z6 z7 z8; exact q2 z2
        show Calls _ _ _ _ (RetB (decide ((⟨a1, b1, d1, e1, f1, g1, h1, i1, l.map AvB.pure⟩ : Msg) = ⟨a1, b1, d2, e2, f2, g2, h2, i2, m.map AvB.pure⟩)) w)
        rw [e]; exact sameM_2 a1 b1 d1 e1 d2 e2 f1 g1 h1 i1 f2 g2 h2 i2 A1 A2 n1 n2 k1 k2 w q2
    · have e : decide ((⟨a1, b1, d1, e1, f1, g1, h1, i1, l.map AvB.pure⟩ : Msg) = ⟨a1, b2, d2, e2, f2, g2, h2, i2, m.map AvB.pure⟩) = false := by rw [decide_eq_false_iff_not]; intro e; injection e with z0 z1 z2 z3 z4 z5 z6 z7 z8; exact q1 z1
      show Calls _ _ _ _ (RetB (decide ((⟨a1, b1, d1, e1, f1, g1, h1, i1, l.map AvB.pure⟩ : Msg) = ⟨a1, b2, d2, e2, f2, g2, h2, i2, m.map AvB.pure⟩)) w)
      rw [e]; exact sameM_1 a1 b1 d1 e1 b2 d2 e2 f1 g1 h1 i1 f2 g2 h2 i2 A1 A2 n1 n2 k1 k2 w q1
  · have e : decide ((⟨a1, b1, d1, e1, f1, g1, h1, i1, l.map AvB.pure⟩ : Msg) = ⟨a2, b2, d2, e2, f2, g2, h2, i2, m.map AvB.pure⟩) = false := by rw [decide_eq_false_iff_not]; intro e; injection e with z0 z1 z2 z3 z4 z5 z6 z7 z8; exact q0 z0
    show Calls _ _ _ _ (RetB (decide ((⟨a1, b1, d1, e1, f1, g1, h1, i1, l.map AvB.pure⟩ : Msg) = ⟨a2, b2, d2, e2, f2, g2, h2, i2, m.map AvB.pure⟩)) w)
    rw [e]; exact sameM_0 a1 b1 d1 e1 a2 b2 d2 e2 f1 g1 h1 i1 f2 g2 h2 i2 A1 A2 n1 n2 k1 k2 w q0
end Go.Proofs.Ythncpkjnalmpkaa
