import Derived.Test.YthncpkjnalmpkaaAvR
import Derived.Test.YthncpkjnalmpkaaCk31
import Derived.Deep.DeepCutAuto
namespace Go.Proofs.Ythncpkjnalmpkaa
open Go Go.RowKit
set_option linter.unusedVariables false
set_option linter.unusedSimpArgs false
/-! The reference's Same, SameAll. -/
theorem blk_up0 {w w' : World} {b : Nat} {o : Obj} (h : w.heap[b]? = some o) (hu : Up w w') : w'.heap[b]? = some o := (hu.block _ (lt_of_blk h)).trans h
set_option maxRecDepth 100000 in
set_option maxHeartbeats 2000000 in
theorem same_c (c1 c2 v1 v2 : Int) (m1 m2 p1 p2 : Bool) (A1 A2 : Option Addr) (n1 n2 k1 k2 : Nat) (xs ys : List Int) (w : World) (h : c1 ≠ c2) : Calls Try.prog 58 #[.agg #[.int .u32 c1, .int .u32 v1, .bool m1, .bool p1, .slice A1 n1 k1], .agg #[.int .u32 c2, .int .u32 v2, .bool m2, .bool p2, .slice A2 n2 k2]] w (RetB (false) w) := by
  have d1 : (c1 == c2) = false := by rw [beq_eq_false_iff_ne]; exact h
  have HU := Lib.hid ((up_alloc w (.cells #[.int .u32 c1, .int .u32 v1, .bool m1, .bool p1, .slice A1 n1 k1] 56)).trans (up_alloc _ (.cells #[.int .u32 c2, .int .u32 v2, .bool m2, .bool p2, .slice A2 n2 k2] 56)))
  have HC1 := Lib.hid (blk_up0 (new_at w (.cells #[.int .u32 c1, .int .u32 v1, .bool m1, .bool p1, .slice A1 n1 k1] 56)) (up_alloc _ (.cells #[.int .u32 c2, .int .u32 v2, .bool m2, .bool p2, .slice A2 n2 k2] 56)))
  have hcb := new_at (w.alloc (.cells #[.int .u32 c1, .int .u32 v1, .bool m1, .bool p1, .slice A1 n1 k1] 56)) (.cells #[.int .u32 c2, .int .u32 v2, .bool m2, .bool p2, .slice A2 n2 k2] 56)
  rw [show (w.alloc (.cells #[.int .u32 c1, .int .u32 v1, .bool m1, .bool p1, .slice A1 n1 k1] 56)).heap.size = w.heap.size + 1 by simp] at hcb
  have HCB := Lib.hid hcb
  clear hcb
  go_enter Try.func58, Try.ntmps58
  go_upto_region 1 with (fail)
  generalize (w.alloc (.cells #[.int .u32 c1, .int .u32 v1, .bool m1, .bool p1, .slice A1 n1 k1] 56)).alloc (.cells #[.int .u32 c2, .int .u32 v2, .bool m2, .bool p2, .slice A2 n2 k2] 56) = wa at HU HC1 HCB ⊢
  have x0 := cell_of HC1.out (j := 0) rfl
  have y0 := cell_of HCB.out (j := 0) rfl
  have x1 := cell_of HC1.out (j := 1) rfl
  have y1 := cell_of HCB.out (j := 1) rfl
  have x2 := cell_of HC1.out (j := 2) rfl
  have y2 := cell_of HCB.out (j := 2) rfl
  have x3 := cell_of HC1.out (j := 3) rfl
  have y3 := cell_of HCB.out (j := 3) rfl
  have x4 := cell_of HC1.out (j := 4) rfl
  have y4 := cell_of HCB.out (j := 4) rfl
  go_wp2_with fail
  go_ret
  exact ⟨rfl, HU⟩
set_option maxRecDepth 100000 in
set_option maxHeartbeats 2000000 in
theorem same_v (c1 v1 v2 : Int) (m1 m2 p1 p2 : Bool) (A1 A2 : Option Addr) (n1 n2 k1 k2 : Nat) (xs ys : List Int) (w : World) (h : v1 ≠ v2) : Calls Try.prog 58 #[.agg #[.int .u32 c1, .int .u32 v1, .bool m1, .bool p1, .slice A1 n1 k1], .agg #[.int .u32 c1, .int .u32 v2, .bool m2, .bool p2, .slice A2 n2 k2]] w (RetB (false) w) := by
  have d1 : (v1 == v2) = false := by rw [beq_eq_false_iff_ne]; exact h
  have HU := Lib.hid ((up_alloc w (.cells #[.int .u32 c1, .int .u32 v1, .bool m1, .bool p1, .slice A1 n1 k1] 56)).trans (up_alloc _ (.cells #[.int .u32 c1, .int .u32 v2, .bool m2, .bool p2, .slice A2 n2 k2] 56)))
  have HC1 := Lib.hid (blk_up0 (new_at w (.cells #[.int .u32 c1, .int .u32 v1, .bool m1, .bool p1, .slice A1 n1 k1] 56)) (up_alloc _ (.cells #[.int .u32 c1, .int .u32 v2, .bool m2, .bool p2, .slice A2 n2 k2] 56)))
  have hcb := new_at (w.alloc (.cells #[.int .u32 c1, .int .u32 v1, .bool m1, .bool p1, .slice A1 n1 k1] 56)) (.cells #[.int .u32 c1, .int .u32 v2, .bool m2, .bool p2, .slice A2 n2 k2] 56)
  rw [show (w.alloc (.cells #[.int .u32 c1, .int .u32 v1, .bool m1, .bool p1, .slice A1 n1 k1] 56)).heap.size = w.heap.size + 1 by simp] at hcb
  have HCB := Lib.hid hcb
  clear hcb
  go_enter Try.func58, Try.ntmps58
  go_upto_region 1 with (fail)
  generalize (w.alloc (.cells #[.int .u32 c1, .int .u32 v1, .bool m1, .bool p1, .slice A1 n1 k1] 56)).alloc (.cells #[.int .u32 c1, .int .u32 v2, .bool m2, .bool p2, .slice A2 n2 k2] 56) = wa at HU HC1 HCB ⊢
  have x0 := cell_of HC1.out (j := 0) rfl
  have y0 := cell_of HCB.out (j := 0) rfl
  have x1 := cell_of HC1.out (j := 1) rfl
  have y1 := cell_of HCB.out (j := 1) rfl
  have x2 := cell_of HC1.out (j := 2) rfl
  have y2 := cell_of HCB.out (j := 2) rfl
  have x3 := cell_of HC1.out (j := 3) rfl
  have y3 := cell_of HCB.out (j := 3) rfl
  have x4 := cell_of HC1.out (j := 4) rfl
  have y4 := cell_of HCB.out (j := 4) rfl
  go_wp2_with fail
  go_ret
  exact ⟨rfl, HU⟩
set_option maxRecDepth 100000 in
set_option maxHeartbeats 2000000 in
theorem same_m (c1 v1 : Int) (m1 m2 p1 p2 : Bool) (A1 A2 : Option Addr) (n1 n2 k1 k2 : Nat) (xs ys : List Int) (w : World) (h : m1 ≠ m2) : Calls Try.prog 58 #[.agg #[.int .u32 c1, .int .u32 v1, .bool m1, .bool p1, .slice A1 n1 k1], .agg #[.int .u32 c1, .int .u32 v1, .bool m2, .bool p2, .slice A2 n2 k2]] w (RetB (false) w) := by
  have d1 : (m1 == m2) = false := by rw [beq_eq_false_iff_ne]; exact h
  have HU := Lib.hid ((up_alloc w (.cells #[.int .u32 c1, .int .u32 v1, .bool m1, .bool p1, .slice A1 n1 k1] 56)).trans (up_alloc _ (.cells #[.int .u32 c1, .int .u32 v1, .bool m2, .bool p2, .slice A2 n2 k2] 56)))
  have HC1 := Lib.hid (blk_up0 (new_at w (.cells #[.int .u32 c1, .int .u32 v1, .bool m1, .bool p1, .slice A1 n1 k1] 56)) (up_alloc _ (.cells #[.int .u32 c1, .int .u32 v1, .bool m2, .bool p2, .slice A2 n2 k2] 56)))
  have hcb := new_at (w.alloc (.cells #[.int .u32 c1, .int .u32 v1, .bool m1, .bool p1, .slice A1 n1 k1] 56)) (.cells #[.int .u32 c1, .int .u32 v1, .bool m2, .bool p2, .slice A2 n2 k2] 56)
  rw [show (w.alloc (.cells #[.int .u32 c1, .int .u32 v1, .bool m1, .bool p1, .slice A1 n1 k1] 56)).heap.size = w.heap.size + 1 by simp] at hcb
  have HCB := Lib.hid hcb
  clear hcb
  go_enter Try.func58, Try.ntmps58
  go_upto_region 1 with (fail)
  generalize (w.alloc (.cells #[.int .u32 c1, .int .u32 v1, .bool m1, .bool p1, .slice A1 n1 k1] 56)).alloc (.cells #[.int .u32 c1, .int .u32 v1, .bool m2, .bool p2, .slice A2 n2 k2] 56) = wa at HU HC1 HCB ⊢
  have x0 := cell_of HC1.out (j := 0) rfl
  have y0 := cell_of HCB.out (j := 0) rfl
  have x1 := cell_of HC1.out (j := 1) rfl
  have y1 := cell_of HCB.out (j := 1) rfl
  have x2 := cell_of HC1.out (j := 2) rfl
  have y2 := cell_of HCB.out (j := 2) rfl
  have x3 := cell_of HC1.out (j := 3) rfl
  have y3 := cell_of HCB.out (j := 3) rfl
  have x4 := cell_of HC1.out (j := 4) rfl
  have y4 := cell_of HCB.out (j := 4) rfl
  go_wp2_with fail
  go_ret
  exact ⟨rfl, HU⟩
set_option maxRecDepth 100000 in
set_option maxHeartbeats 2000000 in
theorem same_p (c1 v1 : Int) (m1 p1 p2 : Bool) (A1 A2 : Option Addr) (n1 n2 k1 k2 : Nat) (xs ys : List Int) (w : World) (h : p1 ≠ p2) : Calls Try.prog 58 #[.agg #[.int .u32 c1, .int .u32 v1, .bool m1, .bool p1, .slice A1 n1 k1], .agg #[.int .u32 c1, .int .u32 v1, .bool m1, .bool p2, .slice A2 n2 k2]] w (RetB (false) w) := by
  have d1 : (p1 == p2) = false := by rw [beq_eq_false_iff_ne]; exact h
  have HU := Lib.hid ((up_alloc w (.cells #[.int .u32 c1, .int .u32 v1, .bool m1, .bool p1, .slice A1 n1 k1] 56)).trans (up_alloc _ (.cells #[.int .u32 c1, .int .u32 v1, .bool m1, .bool p2, .slice A2 n2 k2] 56)))
  have HC1 := Lib.hid (blk_up0 (new_at w (.cells #[.int .u32 c1, .int .u32 v1, .bool m1, .bool p1, .slice A1 n1 k1] 56)) (up_alloc _ (.cells #[.int .u32 c1, .int .u32 v1, .bool m1, .bool p2, .slice A2 n2 k2] 56)))
  have hcb := new_at (w.alloc (.cells #[.int .u32 c1, .int .u32 v1, .bool m1, .bool p1, .slice A1 n1 k1] 56)) (.cells #[.int .u32 c1, .int .u32 v1, .bool m1, .bool p2, .slice A2 n2 k2] 56)
  rw [show (w.alloc (.cells #[.int .u32 c1, .int .u32 v1, .bool m1, .bool p1, .slice A1 n1 k1] 56)).heap.size = w.heap.size + 1 by simp] at hcb
  have HCB := Lib.hid hcb
  clear hcb
  go_enter Try.func58, Try.ntmps58
  go_upto_region 1 with (fail)
  generalize (w.alloc (.cells #[.int .u32 c1, .int .u32 v1, .bool m1, .bool p1, .slice A1 n1 k1] 56)).alloc (.cells #[.int .u32 c1, .int .u32 v1, .bool m1, .bool p2, .slice A2 n2 k2] 56) = wa at HU HC1 HCB ⊢
  have x0 := cell_of HC1.out (j := 0) rfl
  have y0 := cell_of HCB.out (j := 0) rfl
  have x1 := cell_of HC1.out (j := 1) rfl
  have y1 := cell_of HCB.out (j := 1) rfl
  have x2 := cell_of HC1.out (j := 2) rfl
  have y2 := cell_of HCB.out (j := 2) rfl
  have x3 := cell_of HC1.out (j := 3) rfl
  have y3 := cell_of HCB.out (j := 3) rfl
  have x4 := cell_of HC1.out (j := 4) rfl
  have y4 := cell_of HCB.out (j := 4) rfl
  go_wp2_with fail
  go_ret
  exact ⟨rfl, HU⟩
set_option maxRecDepth 100000 in
set_option maxHeartbeats 2000000 in
theorem same_b (c1 v1 : Int) (m1 p1 : Bool) (A1 A2 : Option Addr) (n1 n2 k1 k2 : Nat) (xs ys : List Int) (w : World) (ha : InB w A1 n1 k1 xs) (hb : InB w A2 n2 k2 ys) : Calls Try.prog 58 #[.agg #[.int .u32 c1, .int .u32 v1, .bool m1, .bool p1, .slice A1 n1 k1], .agg #[.int .u32 c1, .int .u32 v1, .bool m1, .bool p1, .slice A2 n2 k2]] w (RetB (decide (xs = ys)) w) := by
  have HA := Lib.hid ha
  have HB := Lib.hid hb
  clear ha hb
  have HU := Lib.hid ((up_alloc w (.cells #[.int .u32 c1, .int .u32 v1, .bool m1, .bool p1, .slice A1 n1 k1] 56)).trans (up_alloc _ (.cells #[.int .u32 c1, .int .u32 v1, .bool m1, .bool p1, .slice A2 n2 k2] 56)))
  have HC1 := Lib.hid (blk_up0 (new_at w (.cells #[.int .u32 c1, .int .u32 v1, .bool m1, .bool p1, .slice A1 n1 k1] 56)) (up_alloc _ (.cells #[.int .u32 c1, .int .u32 v1, .bool m1, .bool p1, .slice A2 n2 k2] 56)))
  have hcb := new_at (w.alloc (.cells #[.int .u32 c1, .int .u32 v1, .bool m1, .bool p1, .slice A1 n1 k1] 56)) (.cells #[.int .u32 c1, .int .u32 v1, .bool m1, .bool p1, .slice A2 n2 k2] 56)
  rw [show (w.alloc (.cells #[.int .u32 c1, .int .u32 v1, .bool m1, .bool p1, .slice A1 n1 k1] 56)).heap.size = w.heap.size + 1 by simp] at hcb
  have HCB := Lib.hid hcb
  clear hcb
  go_enter Try.func58, Try.ntmps58
  go_upto_region 1 with (fail)
  generalize (w.alloc (.cells #[.int .u32 c1, .int .u32 v1, .bool m1, .bool p1, .slice A1 n1 k1] 56)).alloc (.cells #[.int .u32 c1, .int .u32 v1, .bool m1, .bool p1, .slice A2 n2 k2] 56) = wa at HU HC1 HCB ⊢
  have x0 := cell_of HC1.out (j := 0) rfl
  have y0 := cell_of HCB.out (j := 0) rfl
  have x1 := cell_of HC1.out (j := 1) rfl
  have y1 := cell_of HCB.out (j := 1) rfl
  have x2 := cell_of HC1.out (j := 2) rfl
  have y2 := cell_of HCB.out (j := 2) rfl
  have x3 := cell_of HC1.out (j := 3) rfl
  have y3 := cell_of HCB.out (j := 3) rfl
  have x4 := cell_of HC1.out (j := 4) rfl
  have y4 := cell_of HCB.out (j := 4) rfl
  have h1 := conv_up HA.out HU.out
  have h2 := conv_up HB.out HU.out
  go_wp2_with fail
  go_ret
  exact ⟨by simp [str_eq HA.out.byt HB.out.byt], HU⟩
instance : DecidableEq Av.Avp := fun a b => if h : (a.code = b.code ∧ a.vendor = b.vendor ∧ a.must = b.must ∧ a.prot = b.prot) ∧ a.bs = b.bs then .isTrue (by
    obtain ⟨a1, a2, a3, a4, a5⟩ := a
    obtain ⟨b1, b2, b3, b4, b5⟩ := b
    simp at h ⊢
    simp [h]) else .isFalse (fun e => h (by subst e; simp))
theorem same_any (x y : AvB) (w : World) (hx : InB w x.A x.n x.c x.bs) (hy : InB w y.A y.n y.c y.bs) : Calls Try.prog 58 #[avV x, avV y] w (RetB (decide (x.pure = y.pure)) w) := by
  obtain ⟨c1, v1, m1, p1, A1, n1, k1, xs⟩ := x
  obtain ⟨c2, v2, m2, p2, A2, n2, k2, ys⟩ := y
  show Calls Try.prog 58 #[.agg #[.int .u32 c1, .int .u32 v1, .bool m1, .bool p1, .slice A1 n1 k1], .agg #[.int .u32 c2, .int .u32 v2, .bool m2, .bool p2, .slice A2 n2 k2]] w (RetB (decide ((⟨c1, v1, m1, p1, xs⟩ : Av.Avp) = ⟨c2, v2, m2, p2, ys⟩)) w)
  simp only at hx hy
  by_cases hc : c1 = c2
  · subst hc
    by_cases hv : v1 = v2
    · subst hv
      by_cases hm : m1 = m2
      · subst hm
        by_cases hp : p1 = p2
        · subst hp
          have e : decide ((⟨c1, v1, m1, p1, xs⟩ : Av.Avp) = ⟨c1, v1, m1, p1, ys⟩) = decide (xs = ys) := by simp
          rw [e]; exact same_b c1 v1 m1 p1 A1 A2 n1 n2 k1 k2 xs ys w hx hy
        · have e : decide ((⟨c1, v1, m1, p1, xs⟩ : Av.Avp) = ⟨c1, v1, m1, p2, ys⟩) = false := by rw [decide_eq_false_iff_not]; intro e; injection e with e1 e2 e3 e4 e5; exact hp e4
          rw [e]; exact same_p c1 v1 m1 p1 p2 A1 A2 n1 n2 k1 k2 xs ys w hp
      · have e : decide ((⟨c1, v1, m1, p1, xs⟩ : Av.Avp) = ⟨c1, v1, m2, p2, ys⟩) = false := by rw [decide_eq_false_iff_not]; intro e; injection e with e1 e2 e3 e4 e5; exact hm e3
        rw [e]; exact same_m c1 v1 m1 m2 p1 p2 A1 A2 n1 n2 k1 k2 xs ys w hm
    · have e : decide ((⟨c1, v1, m1, p1, xs⟩ : Av.Avp) = ⟨c1, v2, m2, p2, ys⟩) = false := by rw [decide_eq_false_iff_not]; intro e; injection e with e1 e2 e3 e4 e5; exact hv e2
      rw [e]; exact same_v c1 v1 v2 m1 m2 p1 p2 A1 A2 n1 n2 k1 k2 xs ys w hv
  · have e : decide ((⟨c1, v1, m1, p1, xs⟩ : Av.Avp) = ⟨c2, v2, m2, p2, ys⟩) = false := by rw [decide_eq_false_iff_not]; intro e; injection e with e1 e2 e3 e4 e5; exact hc e1
    rw [e]; exact same_c c1 c2 v1 v2 m1 m2 p1 p2 A1 A2 n1 n2 k1 k2 xs ys w hc
theorem take_eq_succ {l m : List Av.Avp} {i : Nat} {x y : Av.Avp} (h : l.take i = m.take i) (hx : l[i]? = some x) (hy : m[i]? = some y) (e : x = y) : l.take (i + 1) = m.take (i + 1) := by
  obtain ⟨h1, h2⟩ := List.getElem?_eq_some_iff.1 hx
  obtain ⟨h3, h4⟩ := List.getElem?_eq_some_iff.1 hy
  rw [List.take_succ_eq_append_getElem h1, List.take_succ_eq_append_getElem h3, h, h2, h4, e]
set_option maxRecDepth 100000 in
set_option maxHeartbeats 4000000 in
theorem sameAll_any (A B : Option Addr) (n c m d : Nat) (l k : List AvB) (w : World) (hl : InL w A n c l) (hk : InL w B m d k) (hn : n ≤ 140737488351232) (hm : m ≤ 140737488351232) : Calls Try.prog 40 #[.slice A n c, .slice B m d] w (RetB (decide (l.map AvB.pure = k.map AvB.pure)) w) := by
  have H := Lib.hid hl
  have G := Lib.hid hk
  have hc1 := hl.cap
  have hc2 := hk.cap
  clear hl hk
  go_enter Try.func40, Try.ntmps40
  go_wp2_with fail
  go_loopw [5] (fun v wr => ∃ i : Nat, i ≤ n ∧ i ≤ m ∧ v = .int .i64 (i : Int) ∧ Hid ((l.map AvB.pure).take i = (k.map AvB.pure).take i) ∧ Hid (Up w wr)) (fun v _ => n - (intOf v).toNat)
  case atStart => exact ⟨0, Nat.zero_le _, Nat.zero_le _, rfl, Lib.hid rfl, Lib.hid (Up.refl _)⟩
  case round =>
    obtain ⟨i, hi1, hi2, rfl, hE, hu⟩ := hrel
    by_cases hlt : i < n ∧ i < m
    · obtain ⟨hin, him⟩ := hlt
      have d1 : decide ((i : Int) < (n : Int)) = true := by simp; omega
      have d2 : decide ((i : Int) < (m : Int)) = true := by simp; omega
      obtain ⟨x, ga, o, hx, rfl, x0, x1, x2, x3, x4, hxi⟩ := (H.out.up hu.out).at_ hin
      obtain ⟨y, gb, q, hy, rfl, y0, y1, y2, y3, y4, hyi⟩ := (G.out.up hu.out).at_ him
      have HX := Lib.hid hxi
      have HY := Lib.hid hyi
      have HTE := Lib.hid (fun e => take_eq_succ (i := i) (x := x.pure) (y := y.pure) hE.out (by simp [hx]) (by simp [hy]) e)
      have HNE := Lib.hid (show x.pure ≠ y.pure → l.map AvB.pure ≠ k.map AvB.pure from fun hn e => hn (by
        have h1 : (l.map AvB.pure)[i]? = some x.pure := by simp [hx]
        have h2 : (k.map AvB.pure)[i]? = some y.pure := by simp [hy]
        rw [e, h2] at h1; injection h1 with h1; exact h1.symm))
      clear hx hy hxi hyi
      go_upto_region 4 with (fail)
      go_cut [27] (fun s wx => ∃ b : Bool, Hid (Up wr wx) ∧ s = .bool b ∧ Hid (b = !decide (x.pure = y.pure)))
      case first =>
        go_region_with (go_at_call 58; refine (same_any x y _ (HX.out.inb.up (Up.drew wr)) (HY.out.inb.up (Up.drew wr))).mono ?_; rintro e w' ⟨rfl, hu1⟩)
        all_goals
          have HU1 := Lib.hid (Up.trans (Up.drew wr) hu1.out)
          go_wp2_with fail
          go_meet
          exact ⟨_, HU1, rfl, Lib.hid rfl⟩
      case rest =>
        obtain ⟨b, hU1, rfl, hb⟩ := hcut
        cases b
        · have heq : x.pure = y.pure := by have := hb.out; simpa using this.symm
          have HT := Lib.hid (HTE.out heq)
          have HU2 := Lib.hid (hu.out.trans hU1.out)
          go_wp2_with fail
          go_roundw
          case rel => exact ⟨i + 1, by omega, by omega, by go_num, HT, HU2⟩
          case measure => simp [intOf]; omega
        · have heq : x.pure ≠ y.pure := by have := hb.out; simpa using this.symm
          have HN := Lib.hid (HNE.out heq)
          have HU2 := Lib.hid (hu.out.trans hU1.out)
          go_wp2_with fail
          go_ret
          exact ⟨by rw [decide_eq_false HN.out]; rfl, HU2⟩
    · have HF := Lib.hid (show ((n : Int) == (m : Int)) = decide (l.map AvB.pure = k.map AvB.pure) by
        have h1 : (l.map AvB.pure).length = n := by simp [H.out.len]
        have h2 : (k.map AvB.pure).length = m := by simp [G.out.len]
        by_cases e : n = m
        · subst e
          have hi : i = n := by omega
          have h3 := hE.out
          rw [hi, List.take_of_length_le (by omega), List.take_of_length_le (by omega)] at h3
          simp [h3]
        · have h3 : l.map AvB.pure ≠ k.map AvB.pure := fun h => e (by rw [← h1, ← h2, h])
          rw [decide_eq_false h3, beq_eq_false_iff_ne]
          omega)
      by_cases h : i < n
      · have d1 : decide ((i : Int) < (n : Int)) = true := by simp; omega
        have d2 : decide ((i : Int) < (m : Int)) = false := by simp; omega
        go_wp2_with fail
        go_ret
        exact ⟨by rw [← HF.out]; rfl, hu⟩
      · have d1 : decide ((i : Int) < (n : Int)) = false := by simp; omega
        go_wp2_with fail
        go_ret
        exact ⟨by rw [← HF.out]; rfl, hu⟩
end Go.Proofs.Ythncpkjnalmpkaa
