import Derived.Test.YtdlehchofmdjbaaSqW
import Derived.Deep.RegionLaw
namespace Go.Proofs.Ytdlehchofmdjbaa
open Go Go.RowKit Sq
set_option linter.unusedVariables false
set_option linter.unusedSimpArgs false
/-! slices.Delete of the first items. -/
theorem setCells_beyond {base n c : Nat} {e : TypeId} {s g : Nat} {xs : List Value} : ∀ (vs : List Value) (o : Nat) (w : World), w.ownsRow base e s (.slice (some ⟨g, 0, none⟩) n c) n xs → n * s ≤ o →
    (w.setCells g o vs).ownsRow base e s (.slice (some ⟨g, 0, none⟩) n c) n xs ∧ Out (fun k => k = g) w (w.setCells g o vs)
  | [], o, w, h, ho => ⟨h, Out.refl _ _⟩
  | v :: vs, o, w, h, ho => by
    obtain ⟨h1, h2⟩ := setCells_beyond vs (o + 1) (w.setCell ⟨g, o, none⟩ v) (own_beyond h ho v) (by omega)
    exact ⟨h1, (setCell_out w g o v).trans h2 (Sub.refl _ _)⟩
theorem zero_cell {z : Array Value} (hz : z.all (·.oneCell') = true) (hs : 0 < z.size) (n : Nat) : ∀ u ∈ (Builtin.zeroCells z n).toList, u.oneCell' = true := by
  intro u hu
  unfold Builtin.zeroCells at hu
  rw [Array.toList_map, List.mem_map] at hu
  obtain ⟨i, _, rfl⟩ := hu
  have hlt : i % z.size < z.size := Nat.mod_lt _ hs
  rw [getElem!_pos z _ hlt]
  exact Array.all_eq_true.1 hz _ hlt
theorem zero56 (w : World) : (zeroValue 56).run Try.prog w = .ok z56 w := by kernel_rfl
/-- 'clear' of d items from cell o on. -/
theorem clearN (g o d c : Nat) (ty : TypeId) (w : World) (hd : 0 < d) (hc : ∀ j, j < d * 11 → (w.cell? ⟨g, o + j, none⟩).isSome = true) (hf : ∀ j, w.frozen? ⟨g, j, none⟩ = false) :
    (Builtin.clear_ #[50] ty #[.slice (some ⟨g, o, none⟩) d c]).run Try.prog w = .ok (.tuple #[]) (w.setCells g o (Builtin.zeroCells z56.cells d).toList) := by
  have hzs : z56.cells.size = 11 := rfl
  have hst := run_storeCells_cells (P := Try.prog) g o (Builtin.zeroCells z56.cells d).toList 0 w (fun j hj => by rw [Array.length_toList, size_zeroCells, hzs] at hj; simpa using hc j hj) (fun j _ => hf _) (zero_cell (by kernel_rfl) (by rw [hzs]; omega) d)
  simp only [Nat.add_zero] at hst
  cases d with
  | zero => omega
  | succ d =>
    unfold z56 at hst ⊢
    simp [Builtin.clear_, run_underlying Try.underlying50, zero56, z56, hst]
/-- Where the elements behind the first d lie. -/
def dAd (g d c : Nat) : Addr := if c = d then ⟨g, 0, none⟩ else ⟨g, d * 11, none⟩
theorem del_app {g c d n : Nat} {L1 L2 : List ItB} {w0 w : World} (ty : TypeId) (hd : L1.length = d) (hd0 : 0 < d) (hn : n = d + L2.length) (hrow : w0.ownsRow 0 56 11 (.slice (some ⟨g, 0, none⟩) n c) n ((L1 ++ L2).flatMap itc)) (hu : Up w0 w) :
    ∃ w', (Builtin.append_ #[50, 50] ty #[.slice (some ⟨g, 0, none⟩) 0 c, .slice (some (dAd g d c)) (n - d) (c - d)]).run Try.prog w = .ok (.slice (some ⟨g, 0, none⟩) L2.length c) w' ∧
      w'.ownsRow 0 56 11 (.slice (some ⟨g, 0, none⟩) L2.length c) L2.length (L2.flatMap itc) ∧ Out (fun q => q = g) w0 w' := by
  obtain ⟨i, hi, hz0, hz1, hz2⟩ := info_parts info56
  have hrw := own_up hrow hu
  have hcap := (row_cap hrow).1
  have hp := own_prefix (m := 0) (xs := []) (ys := (L1 ++ L2).flatMap itc) (by simpa using hrw) (by omega) (by simp)
  have hm : n - d = L2.length := by omega
  rw [hm]
  have hone : ∀ u ∈ L2.flatMap itc, u.oneCell' = true := by
    intro u hu
    obtain ⟨z, _, hz⟩ := List.mem_flatMap.1 hu
    simp only [itc, List.mem_cons, List.not_mem_nil, or_false] at hz
    rcases hz with rfl | rfl | rfl | rfl | rfl | rfl | rfl | rfl | rfl | rfl | rfl <;> rfl
  obtain ⟨w', h1, h2, h3⟩ := run_append_fits (P := Try.prog) w 0 50 ty 56 i 11 Try.underlying50 hi hz1 g 0 c [] hp (dAd g d c) L2.length (c - d) (L2.flatMap itc) (rowG_length itc 11 itc_len L2) (fun j u hj => by
    have hlt : j < L2.length * 11 := by have := (List.getElem?_eq_some_iff.1 hj).1; rwa [rowG_length itc 11 itc_len] at this
    unfold dAd
    rw [if_neg (by omega), add_flat]
    refine row_cell hrw ?_
    have el : (L1.flatMap itc).length = d * 11 := by rw [rowG_length itc 11 itc_len, hd]
    rw [List.flatMap_append, List.getElem?_append_right (by omega), el, show d * 11 + j - d * 11 = j by omega]
    exact hj) hone (by omega)
  refine ⟨w', by simpa using h1, by simpa using h2, (hu.out _).trans ⟨h3.os, h3.tape, h3.output, h3.size, fun q hq hn2 => h3.block q hq (fun e => hn2 (by injection e))⟩ (Sub.refl _ _)⟩
/-- The append of a Delete, as a step of a region that draws. -/
theorem step_del {ops : Array Oper} {o : Oper} {a : Act} {w0 w : World} {K : Act → World → Prop} {Q : Exit → Act → World → Prop} {E : Prop} (hg : o.guard = none) (s x : Operand) (hop : o.op = .call { callee := .builtin .append, args := #[s, x], argTypes := #[50, 50] })
    {g c d n : Nat} {L1 L2 : List ItB} (hd : L1.length = d) (hd0 : 0 < d) (hn : n = d + L2.length) (hrow : w0.ownsRow 0 56 11 (.slice (some ⟨g, 0, none⟩) n c) n ((L1 ++ L2).flatMap itc)) (hu : Up w0 w)
    (hs : a.eval s = .slice (some ⟨g, 0, none⟩) 0 c) (hx : a.eval x = .slice (some (dAd g d c)) (n - d) (c - d))
    (hK : ∀ w', Hid (w'.ownsRow 0 56 11 (.slice (some ⟨g, 0, none⟩) L2.length c) L2.length (L2.flatMap itc)) → Hid (Out (fun q => q = g) w0 w') → K (a.put o.dst (.slice (some ⟨g, 0, none⟩) L2.length c)) w') :
    if Region.wanted o (yielded ops a.tmps) = true then Oper.wp Try.prog o a w K Q else E := by
  have hw : Region.wanted o (yielded ops a.tmps) = true := by simp [Region.wanted, hg]
  rw [if_pos hw]
  obtain ⟨w', hr, h2, h3⟩ := del_app o.type hd hd0 hn hrow hu
  unfold Oper.wp
  rw [x_append s x 50 50 hop hs hx hr]
  exact hK w' h2 h3
def DelPost (A : Option Addr) (c : Nat) (L2 : List ItB) (w : World) (e : Ending) (w' : World) : Prop :=
  e = .returned (.slice A L2.length c) ∧ Hid (w'.ownsRow 0 56 11 (.slice A L2.length c) L2.length (L2.flatMap itc)) ∧ Hid (Out (fun q => blk? A = some q) w w')
set_option maxRecDepth 100000 in
theorem del0 (A : Option Addr) (n c : Nat) (L : List ItB) (w : World) (hn : n = L.length) (hrow : w.ownsRow 0 56 11 (.slice A n c) n (L.flatMap itc)) (hn2 : n ≤ 256) : Calls Try.prog 30 #[.slice A n c, .int .i64 0, .int .i64 0] w (DelPost A c L w) := by
  have hcap := (row_cap hrow).1
  have HR := Lib.hid hrow
  have HN := Lib.hid hn
  clear hrow hn
  have hz : (0 : Int) ≤ (n : Int) := by omega
  go_enter Try.func30, Try.ntmps30
  go_wp2_with fail
  go_ret
  exact ⟨by rw [← HN.out]; rfl, Lib.hid (by rw [← HN.out]; exact HR.out), Lib.hid (Out.refl _ _)⟩
set_option maxRecDepth 100000 in
set_option maxHeartbeats 1000000 in
theorem del_ok (g c d n : Nat) (L1 L2 : List ItB) (w0 : World) (hd : L1.length = d) (hd0 : 0 < d) (hn : n = d + L2.length) (hn4 : n ≤ 256) (hrow : w0.ownsRow 0 56 11 (.slice (some ⟨g, 0, none⟩) n c) n ((L1 ++ L2).flatMap itc)) :
    Calls Try.prog 30 #[.slice (some ⟨g, 0, none⟩) n c, .int .i64 0, .int .i64 (d : Int)] w0 (DelPost (some ⟨g, 0, none⟩) c L2 w0) := by
  obtain ⟨hc1, hc2⟩ := row_cap hrow
  have hdn : d ≤ n := by omega
  have hdc : d ≤ c := by omega
  have hdi : (d : Int) ≤ n := by omega
  have hd1 : (0 : Int) ≤ (d : Int) := by omega
  have hne : ¬ (0 : Int) = (d : Int) := by omega
  have mixed : Try.prog.follows .mixedOrders = true := by kernel_rfl
  have HROW := Lib.hid hrow
  have HN := Lib.hid hn
  have HD := Lib.hid hd
  have HD0 := Lib.hid hd0
  clear hrow hn hd
  generalize hml : L2.length = m at *
  have hmn : m ≤ n := by have := HN.out; omega
  have hmc : m ≤ c := by omega
  have hnm : n - m = d := by have := HN.out; omega
  have hmlt : ¬ c = m := by have := HN.out; omega
  by_cases hcz : c = d
  · obtain rfl : n = d := by omega
    subst hcz
    have HA := Lib.hid (show dAd g c c = ⟨g, 0, none⟩ from if_pos rfl)
    go_enter Try.func30, Try.ntmps30
    go_upto_region 5 with (fail)
    go_region_law_o (refine step_del rfl (.tmp 22) (.tmp 25) rfl HD.out HD0.out (by rw [hml]; exact HN.out) HROW.out (Up.drew w0) (by simp [Act.eval, Act.put]) (by rw [HA.out]; simp [Act.eval, Act.put]) ?_; intro w9 HR9 HO9)
    rw [hml] at HR9
    obtain rfl : m = 0 := by omega
    have hclr := fun ty => clearN g 0 c c ty w9 HD0.out (fun j hj => (own_cellIn HR9.out (j := 0 + j) (by have := HN.out; omega)).1) (fun j => World.ownsRow.frozenAt HR9.out j)
    have hw := setCells_beyond (Builtin.zeroCells z56.cells c).toList 0 w9 HR9.out (by omega)
    generalize w9.setCells g 0 (Builtin.zeroCells z56.cells c).toList = w6 at hclr hw
    have HR6 := Lib.hid hw.1
    have HO6 := Lib.hid (HO9.out.trans hw.2 (Sub.refl _ _))
    have HML := Lib.hid hml
    clear hw hml HR9 HO9
    go_wp2_with fail
    go_ret
    exact ⟨by rw [HML.out]; rfl, Lib.hid (by rw [HML.out]; exact HR6.out), Lib.hid (HO6.out.mono fun k hk => by rw [hk]; rfl)⟩
  · have HA := Lib.hid (show dAd g d c = ⟨g, d * 11, none⟩ from if_neg hcz)
    go_enter Try.func30, Try.ntmps30
    go_upto_region 5 with (fail)
    go_region_law_o (refine step_del rfl (.tmp 22) (.tmp 25) rfl HD.out HD0.out (by rw [hml]; exact HN.out) HROW.out (Up.drew w0) (by simp [Act.eval, Act.put]) (by rw [HA.out]; simp [Act.eval, Act.put]) ?_; intro w9 HR9 HO9)
    rw [hml] at HR9
    have hclr := fun ty => clearN g (m * 11) d (c - m) ty w9 HD0.out (fun j hj => (own_cellIn HR9.out (j := m * 11 + j) (by have := HN.out; omega)).1) (fun j => World.ownsRow.frozenAt HR9.out j)
    have hw := setCells_beyond (Builtin.zeroCells z56.cells d).toList (m * 11) w9 HR9.out (Nat.le_refl _)
    generalize w9.setCells g (m * 11) (Builtin.zeroCells z56.cells d).toList = w6 at hclr hw
    have HR6 := Lib.hid hw.1
    have HO6 := Lib.hid (HO9.out.trans hw.2 (Sub.refl _ _))
    have HML := Lib.hid hml
    clear hw hml HR9 HO9
    go_wp2_with fail
    go_ret
    exact ⟨by rw [HML.out]; rfl, Lib.hid (by rw [HML.out]; exact HR6.out), Lib.hid (HO6.out.mono fun k hk => by rw [hk]; rfl)⟩
end Go.Proofs.Ytdlehchofmdjbaa
