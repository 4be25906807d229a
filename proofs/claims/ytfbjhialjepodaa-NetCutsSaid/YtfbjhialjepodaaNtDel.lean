import Derived.Test.YtfbjhialjepodaaNtMap
import Derived.Deep.RegionLaw
namespace Go.Proofs.Ytfbjhialjepodaa
open Go Go.RowKit
set_option linter.unusedVariables false
theorem own_prefix {w : World} {base n m c : Nat} {e : TypeId} {s g : Nat} {xs ys : List Value} (h : w.ownsRow base e s (.slice (some ⟨g, 0, none⟩) n c) n (xs ++ ys)) (hm : m ≤ n) (hx : xs.length = m * s) : w.ownsRow base e s (.slice (some ⟨g, 0, none⟩) m c) m xs := by
  refine ⟨hx, ?_⟩
  rcases h.2 with ⟨h1, _⟩ | ⟨g', cap, cur, hv, hb, hh, h1, h2, h3, h4⟩
  · cases h1
  · injection hv with e1 e2 e3
    injection e1 with e1
    injection e1 with e1
    subst e1; subst e3
    refine .inr ⟨g, c, cur, rfl, hb, hh, by omega, h2, h3, ?_⟩
    have h5 : List.take (m * s) (List.take (n * s) cur.toList) = List.take (m * s) (xs ++ ys) := by rw [h4]
    rw [List.take_take, Nat.min_eq_left (Nat.mul_le_mul_right s hm)] at h5
    rw [h5, List.take_append_of_le_length (Nat.le_of_eq hx.symm), List.take_of_length_le (Nat.le_of_eq hx)]
theorem own_beyond {w : World} {base n c : Nat} {e : TypeId} {s g j : Nat} {xs : List Value} (h : w.ownsRow base e s (.slice (some ⟨g, 0, none⟩) n c) n xs) (hj : n * s ≤ j) (v : Value) : (w.setCell ⟨g, j, none⟩ v).ownsRow base e s (.slice (some ⟨g, 0, none⟩) n c) n xs := by
  refine ⟨h.1, ?_⟩
  rcases h.2 with ⟨h1, _⟩ | ⟨g', cap, cur, hv, hb, hh, h1, h2, h3, h4⟩
  · cases h1
  · injection hv with e1 e2 e3
    injection e1 with e1
    injection e1 with e1
    subst e1; subst e3
    refine .inr ⟨g, c, _, rfl, hb, setCell_at v hh, h1, h2, by rw [Array.size_setIfInBounds]; exact h3, ?_⟩
    rw [Array.toList_setIfInBounds, List.take_set_of_le hj]
    exact h4
theorem own_cellIn {w : World} {base n c : Nat} {e : TypeId} {s g : Nat} {xs : List Value} (h : w.ownsRow base e s (.slice (some ⟨g, 0, none⟩) n c) n xs) {j : Nat} (hj : j < c * s) : (w.cell? ⟨g, j, none⟩).isSome = true ∧ w.frozen? ⟨g, j, none⟩ = false := by
  rcases h.2 with ⟨h1, _⟩ | ⟨g', cap, cur, hv, hb, hh, h1, h2, h3, h4⟩
  · cases h1
  · injection hv with e1 e2 e3
    injection e1 with e1
    injection e1 with e1
    subst e1; subst e3
    exact ⟨cell_at hh (by rw [h3]; exact hj), frozen_at hh⟩
def zer6 : List Value := [.int .i64 0, .int .i64 0, .int .i64 0, .int .i64 0, .slice none 0 0, .bool false]
/-- 'clear' of one frame. -/
theorem clear1 (g o c : Nat) (ty : TypeId) (w : World) (hc : ∀ j, j < 6 → (w.cell? ⟨g, o + j, none⟩).isSome = true) (hf : ∀ j, j < 6 → w.frozen? ⟨g, o + j, none⟩ = false) :
    (Builtin.clear_ #[29] ty #[.slice (some ⟨g, o, none⟩) 1 c]).run Try.prog w = .ok (.tuple #[]) (w.setCells g o zer6) := by
  have hst := run_storeCells_cells (P := Try.prog) g o zer6 0 w (by simpa [zer6] using hc) (by simpa [zer6] using hf) (by simp [zer6, Value.oneCell'])
  simp only [Nat.add_zero] at hst
  have hz : ∀ w, (zeroValue 46).run Try.prog w = .ok (.agg zer6.toArray) w := fun w => by kernel_rfl
  have hzc : (Builtin.zeroCells (Value.agg zer6.toArray).cells 1).toList = zer6 := by kernel_rfl
  simp [Builtin.clear_, run_underlying Try.underlying29, hz, hzc, hst]
theorem clear1_own {w : World} {base n c : Nat} {g : Nat} {xs : List Value} (h : w.ownsRow base 46 6 (.slice (some ⟨g, 0, none⟩) n c) n xs) : (w.setCells g (n * 6) zer6).ownsRow base 46 6 (.slice (some ⟨g, 0, none⟩) n c) n xs ∧ Out (fun k => k = g) w (w.setCells g (n * 6) zer6) := by
  simp only [zer6, World.setCells]
  refine ⟨?_, ?_⟩
  · repeat refine own_beyond ?_ (by omega) _
    exact h
  · exact (((((setCell_out _ _ _ _).trans (setCell_out _ _ _ _) (Sub.refl _ _)).trans (setCell_out _ _ _ _) (Sub.refl _ _)).trans (setCell_out _ _ _ _) (Sub.refl _ _)).trans (setCell_out _ _ _ _) (Sub.refl _ _)).trans (setCell_out _ _ _ _) (Sub.refl _ _)
theorem hi_run (g k n c : Nat) (w : World) (h : k ≤ c) : (Instr.sliceAt 29 (.slice (some ⟨g, 0, none⟩) n c) none (some (.int .i64 (k : Int))) none).run Try.prog w = .ok (.slice (some ⟨g, 0, none⟩) k c) w := by
  have hel : Try.prog.elem 29 = 46 := by kernel_rfl
  have hu : Try.prog.underlying 29 = some (.slice (Try.prog.elem 29)) := by rw [hel]; exact Try.underlying29
  have hr := run_slice_h (P := Try.prog) w 29 (some ⟨g, 0, none⟩) n c hu .i64 (k : Int) (by omega) (by omega)
  rw [hel, siz46, ← run_sliceAt_slice (P := Try.prog) w 29 _ _ _ _ hu] at hr
  rw [hr]
  simp only [Result.andThen, sliced, Int.toNat_natCast, Nat.sub_zero, Nat.zero_mul]
  split <;> rfl
/-- Where the elements behind the k-th lie. -/
def dAd (g k c : Nat) : Addr := if c = k + 1 then ⟨g, 0, none⟩ else ⟨g, (k + 1) * 6, none⟩
theorem lo_run (g k n c : Nat) (w : World) (h : k + 1 ≤ n) : (Instr.sliceAt 29 (.slice (some ⟨g, 0, none⟩) n c) (some (.int .i64 ((k : Int) + 1))) none none).run Try.prog w = .ok (.slice (some (dAd g k c)) (n - (k + 1)) (c - (k + 1))) w := by
  have hel : Try.prog.elem 29 = 46 := by kernel_rfl
  have hu : Try.prog.underlying 29 = some (.slice (Try.prog.elem 29)) := by rw [hel]; exact Try.underlying29
  have hr := run_slice_l (P := Try.prog) w 29 (some ⟨g, 0, none⟩) n c hu .i64 ((k : Int) + 1) (by omega) (by omega)
  rw [hel, siz46, ← run_sliceAt_slice (P := Try.prog) w 29 _ _ _ _ hu] at hr
  rw [hr]
  have e : ((k : Int) + 1).toNat = k + 1 := by omega
  simp only [Result.andThen, sliced, e, dAd, Option.map_some]
  split
  · rfl
  · rw [add_flat, Nat.zero_add]
theorem x_sliceLo {P : Program} {o : Oper} {a : Act} {w : World} (t : TypeId) (x y : Operand) {X Y v : Value} (ho : o.op = .slice t x (some y) none none) (hx : a.eval x = X) (hy : a.eval y = Y) (hr : (Instr.sliceAt t X (some Y) none none).run P w = .ok v w) : (execOp a.eval o).run P w = .ok (.value v) w := by simp [execOp, ho, hx, hy, hr, Result.andThen]
theorem del_app {g c k n : Nat} {x : FrB} {l1 l2 : List FrB} {w0 w : World} (ty : TypeId) (hk : l1.length = k) (hn : n = k + 1 + l2.length) (hrow : w0.ownsRow 0 46 6 (.slice (some ⟨g, 0, none⟩) n c) n (rowc (l1 ++ x :: l2))) (hu : Up w0 w) :
    ∃ w', (Builtin.append_ #[29, 29] ty #[.slice (some ⟨g, 0, none⟩) k c, .slice (some (dAd g k c)) (n - (k + 1)) (c - (k + 1))]).run Try.prog w = .ok (.slice (some ⟨g, 0, none⟩) (k + l2.length) c) w' ∧
      w'.ownsRow 0 46 6 (.slice (some ⟨g, 0, none⟩) (k + l2.length) c) (k + l2.length) (rowc (l1 ++ l2)) ∧ Out (fun q => q = g) w0 w' := by
  obtain ⟨i, hi, hz0, hz1, hz2⟩ := info_parts info46
  have hrw := own_up hrow hu
  have hcap : n ≤ c := by
    rcases hrow.2 with ⟨h1, _⟩ | ⟨g', cap, cur, hv, _, _, h1, _⟩
    · cases h1
    · injection hv with _ _ hv; subst hv; exact h1
  have hp := own_prefix (m := k) (xs := rowc l1) (ys := rowc (x :: l2)) (by rw [← rowc_append]; exact hrw) (by omega) (by rw [rowc_length, hk])
  have hm : n - (k + 1) = l2.length := by omega
  rw [hm]
  obtain ⟨w', h1, h2, h3⟩ := run_append_fits (P := Try.prog) w 0 29 ty 46 i 6 Try.underlying29 hi hz1 g k c (rowc l1) hp (dAd g k c) l2.length (c - (k + 1)) (rowc l2) (rowc_length l2) (fun j u hj => by
    have hlt : j < l2.length * 6 := by have := (List.getElem?_eq_some_iff.1 hj).1; rwa [rowc_length] at this
    unfold dAd
    rw [if_neg (by omega), add_flat]
    refine row_cell hrw ?_
    have e : l1 ++ x :: l2 = (l1 ++ [x]) ++ l2 := by simp
    have el : (rowc (l1 ++ [x])).length = (k + 1) * 6 := by rw [rowc_length]; simp [hk]
    rw [e, rowc_append, List.getElem?_append_right (by omega), el, show (k + 1) * 6 + j - (k + 1) * 6 = j by omega]
    exact hj) (frc_one l2) (by omega)
  refine ⟨w', h1, by rw [rowc_append]; exact h2, (hu.out _).trans ⟨h3.os, h3.tape, h3.output, h3.size, fun q hq hn2 => h3.block q hq (fun e => hn2 (by injection e))⟩ (Sub.refl _ _)⟩
/-- The append of a Delete, as a step of a region that draws. -/
theorem step_del {ops : Array Oper} {o : Oper} {a : Act} {w0 w : World} {K : Act → World → Prop} {Q : Exit → Act → World → Prop} {E : Prop} (hg : o.guard = none) (s x : Operand) (hop : o.op = .call { callee := .builtin .append, args := #[s, x], argTypes := #[29, 29] })
    {g c k n : Nat} {y : FrB} {l1 l2 : List FrB} (hk : l1.length = k) (hn : n = k + 1 + l2.length) (hrow : w0.ownsRow 0 46 6 (.slice (some ⟨g, 0, none⟩) n c) n (rowc (l1 ++ y :: l2))) (hu : Up w0 w)
    (hs : a.eval s = .slice (some ⟨g, 0, none⟩) k c) (hx : a.eval x = .slice (some (dAd g k c)) (n - (k + 1)) (c - (k + 1)))
    (hK : ∀ w', Hid (w'.ownsRow 0 46 6 (.slice (some ⟨g, 0, none⟩) (k + l2.length) c) (k + l2.length) (rowc (l1 ++ l2))) → Hid (Out (fun q => q = g) w0 w') → K (a.put o.dst (.slice (some ⟨g, 0, none⟩) (k + l2.length) c)) w') :
    if Region.wanted o (yielded ops a.tmps) = true then Oper.wp Try.prog o a w K Q else E := by
  have hw : Region.wanted o (yielded ops a.tmps) = true := by simp [Region.wanted, hg]
  rw [if_pos hw]
  obtain ⟨w', hr, h2, h3⟩ := del_app o.type hk hn hrow hu
  unfold Oper.wp
  rw [x_append s x 29 29 hop hs hx hr]
  exact hK w' h2 h3
/-- Behind a Delete. -/
def DelPost (g c k : Nat) (l1 l2 : List FrB) (w : World) (e : Ending) (w' : World) : Prop :=
  e = .returned (.slice (some ⟨g, 0, none⟩) (k + l2.length) c) ∧ w'.ownsRow 0 46 6 (.slice (some ⟨g, 0, none⟩) (k + l2.length) c) (k + l2.length) (rowc (l1 ++ l2)) ∧ Out (fun q => q = g) w w'
set_option maxRecDepth 100000 in
set_option maxHeartbeats 1000000 in
theorem del_ok (g c k n : Nat) (x : FrB) (l1 l2 : List FrB) (w0 : World) (hk : l1.length = k) (hn : n = k + 1 + l2.length) (hn4 : n ≤ 1024) (hrow : w0.ownsRow 0 46 6 (.slice (some ⟨g, 0, none⟩) n c) n (rowc (l1 ++ x :: l2))) :
    Calls Try.prog 34 #[.slice (some ⟨g, 0, none⟩) n c, .int .i64 (k : Int), .int .i64 ((k : Int) + 1)] w0 (DelPost g c k l1 l2 w0) := by
  have hcap : n ≤ c ∧ c ≤ 9223372036854775807 := by
    rcases hrow.2 with ⟨h1, _⟩ | ⟨g', cap, cur, hv, _, _, h1, h2, _⟩
    · cases h1
    · injection hv with _ _ hv; subst hv; exact ⟨h1, h2⟩
  obtain ⟨hc1, hc2⟩ := hcap
  have hkn : k + 1 ≤ n := by omega
  have hkc : k ≤ c := by omega
  have hk1 : (k : Int) + 1 ≤ n := by omega
  have hk0 : 0 ≤ (k : Int) + 1 := by omega
  have mixed : Try.prog.follows .mixedOrders = true := by kernel_rfl
  have HROW := Lib.hid hrow
  have HN := Lib.hid hn
  have HK := Lib.hid hk
  clear hrow hn hk
  generalize hml : l2.length = q at *
  by_cases hcz : c = k + 1
  · have HA := Lib.hid (show dAd g k c = ⟨g, 0, none⟩ from if_pos hcz)
    subst hcz
    have hk2 : (k : Int) ≤ (k : Int) + 1 := by omega
    have hz : n - (k + 1) = 0 := by omega
    have HZ := Lib.hid hz
    clear hz
    go_enter Try.func34, Try.ntmps34
    go_wp2_with fail
    go_region_law_o (refine step_del rfl (.tmp 22) (.tmp 25) rfl HK.out (by rw [hml]; exact HN.out) HROW.out (Up.drew w0) (by simp [Act.eval, Act.put]) (by rw [HA.out, HZ.out]; simp [Act.eval, Act.put]) ?_; intro w9 HR9 HO9)
    have HQ := Lib.hid (show q + k + 1 = n by have := HN.out; omega)
    rw [hml] at HR9
    generalize hm0 : k + q = m at HR9 ⊢
    have hm : m + 1 = n := by have := HQ.out; omega
    have hclr := fun ty => clear1 g (m * 6) ((k + 1) - m) ty w9 (fun j hj => (own_cellIn HR9.out (j := m * 6 + j) (by omega)).1) (fun j hj => (own_cellIn HR9.out (j := m * 6 + j) (by omega)).2)
    have hw := clear1_own HR9.out
    generalize hw6 : w9.setCells g (m * 6) zer6 = w6 at hclr hw
    clear hw6
    have HR6 := Lib.hid hw.1
    have HO6 := Lib.hid (HO9.out.trans hw.2 (Sub.refl _ _))
    have HM0 := Lib.hid hm0
    have HML := Lib.hid hml
    have hmc : m ≤ (k + 1) := by omega
    have hnm : n - m = 1 := by omega
    have hmn : m ≤ n := by omega
    clear hw hm0 hml hm
    go_wp2_with fail
    go_ret
    exact ⟨by rw [HML.out, HM0.out]; rfl, by rw [HML.out, HM0.out]; exact HR6.out, HO6.out⟩
  · have HA := Lib.hid (show dAd g k c = ⟨g, (k + 1) * 6, none⟩ from if_neg hcz)
    go_enter Try.func34, Try.ntmps34
    go_wp2_with fail
    go_region_law_o (refine step_del rfl (.tmp 22) (.tmp 25) rfl HK.out (by rw [hml]; exact HN.out) HROW.out (Up.drew w0) (by simp [Act.eval, Act.put]) (by rw [HA.out]; simp [Act.eval, Act.put]) ?_; intro w9 HR9 HO9)
    have HQ := Lib.hid (show q + k + 1 = n by have := HN.out; omega)
    rw [hml] at HR9
    generalize hm0 : k + q = m at HR9 ⊢
    have hm : m + 1 = n := by have := HQ.out; omega
    have hclr := fun ty => clear1 g (m * 6) (c - m) ty w9 (fun j hj => (own_cellIn HR9.out (j := m * 6 + j) (by omega)).1) (fun j hj => (own_cellIn HR9.out (j := m * 6 + j) (by omega)).2)
    have hw := clear1_own HR9.out
    generalize hw6 : w9.setCells g (m * 6) zer6 = w6 at hclr hw
    clear hw6
    have HR6 := Lib.hid hw.1
    have HO6 := Lib.hid (HO9.out.trans hw.2 (Sub.refl _ _))
    have HM0 := Lib.hid hm0
    have HML := Lib.hid hml
    have hmc : m ≤ c := by omega
    have hnm : n - m = 1 := by omega
    have hmn : m ≤ n := by omega
    clear hw hm0 hml hm
    go_wp2_with fail
    go_ret
    exact ⟨by rw [HML.out, HM0.out]; rfl, by rw [HML.out, HM0.out]; exact HR6.out, HO6.out⟩
end Go.Proofs.Ytfbjhialjepodaa
