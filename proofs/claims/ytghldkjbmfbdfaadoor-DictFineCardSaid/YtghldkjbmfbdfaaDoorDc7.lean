import Derived.Test.YtghldkjbmfbdfaaDoorDc6
namespace Go.Proofs.YtghldkjbmfbdfaaDoor
open Go Go.RowKit Dc
set_option linter.unusedVariables false
set_option linter.unusedSimpArgs false
/-! answers, light; a copy of the rules. -/
theorem rowr_one (l : List Ru) : ∀ u ∈ rowr l, u.oneCell' = true := by
  intro u hu
  simp only [rowr, List.mem_flatMap, ruL, List.mem_cons, List.mem_nil_iff, or_false] at hu
  obtain ⟨x, _, hu⟩ := hu
  rcases hu with rfl | rfl | rfl | rfl | rfl | rfl <;> rfl
theorem info40 : (Tryd.prog.info? 40).map (fun i => (i.zero, i.size, i.bytes)) = some (some (.agg #[.int .u32 0, .int .u32 0, .int .i64 0, .bool false, .int .i64 0, .int .i64 0]), 6, 40) := by kernel_rfl
theorem ruCells (w : World) (r : Ru) : Cells (w.alloc (ruC r)) (some ⟨w.heap.size, 0, none⟩) (rowr [r]) := fun _ => ⟨w.heap.size, 0, rfl, lt_of_blk (new_at w _), fun j u hu => cell_of (new_at w _) (by rw [Nat.zero_add]; simpa [rowr, ruL] using hu)⟩
theorem inR_one (w : World) (r : Ru) (h : RuOK r) : InR (w.alloc (ruC r)) (some ⟨w.heap.size, 0, none⟩) 1 1 [r] := ⟨ruCells w r, fun x hx => by rw [List.mem_singleton.1 hx]; exact h, Nat.le_refl _, rfl⟩
theorem bslice40 (C V T : Int) (M : Bool) (L K : Int) (w : World) : (Instr.buildSlice 28 1 #[(0, .agg #[.int .u32 C, .int .u32 V, .int .i64 T, .bool M, .int .i64 L, .int .i64 K])]).run Tryd.prog w = .ok (.slice (some ⟨w.heap.size, 0, none⟩) 1 1) (w.alloc (.cells #[.int .u32 C, .int .u32 V, .int .i64 T, .bool M, .int .i64 L, .int .i64 K] 40)) := by kernel_rfl
def r1 : Ru := ⟨1, 0, 1, false, 1, 1⟩
theorem judge_r1 : judge [r1] [] = (5005, [miss r1], 0) := judge_miss (by decide) (fun j b hb => by simp at hb) rfl
set_option maxRecDepth 100000 in
set_option maxHeartbeats 1000000 in
theorem answers_any (w : World) (hT : Tab w) : Calls Tryd.prog 14 #[] w fun e w' => e = .returned (.bool true) ∧ Up w w' := by
  have hbs := bslice40 1 0 1 false 1 1 w
  have hbu : (Instr.build 40 #[(0, .int .u32 1), (2, .int .i64 1), (4, .int .i64 1), (5, .int .i64 1)]).run Tryd.prog w = .ok (.agg #[.int .u32 1, .int .u32 0, .int .i64 1, .bool false, .int .i64 1, .int .i64 1]) w := by kernel_rfl
  have HU := Lib.hid (up_alloc w (ruC r1))
  have HT := Lib.hid (hT.up HU.out)
  have HI := Lib.hid (inR_one w r1 ⟨by decide, by decide⟩)
  clear hT
  go_enter Tryd.func14, Tryd.ntmps14
  go_wp2_with fail
  clear hbs hbu
  have hj := judge_any (some ⟨w.heap.size, 0, none⟩) 1 1 [r1] none 0 0 [] (w.alloc (ruC r1)) HI.out (inL_nil _) HT.out (by decide) (by decide)
  rw [show ([] : List AvB).map AvB.pure = [] from rfl, judge_r1] at hj
  refine Calls.mono hj ?_
  rintro e w1 ⟨A, n, c, out, rfl, hG, hM, hn, hU⟩
  obtain rfl : n = 1 := by
    have := congrArg List.length hM.out
    rw [List.length_map, hG.out.len] at this
    exact this
  have HU1 := Lib.hid (Up.trans HU.out hU.out)
  clear hj hG hM hn hU
  go_wp2_with fail
  go_ret
  exact ⟨rfl, HU1.out⟩
theorem light_any (A : Option Addr) (m c : Nat) (B : Option Addr) (n d : Nat) (w : World) : Calls Tryd.prog 15 #[.slice A m c, .slice B n d] w fun e w' => e = .returned (.bool (decide (m ≤ 80 ∧ n ≤ 150))) ∧ w' = w := by
  by_cases h1 : m ≤ 80
  · have d1 : decide ((m : Int) ≤ 80) = true := decide_eq_true (by omega)
    by_cases h2 : n ≤ 150
    · have d2 : decide ((n : Int) ≤ 150) = true := decide_eq_true (by omega)
      rw [decide_eq_true ⟨h1, h2⟩]
      go_enter Tryd.func15, Tryd.ntmps15
      go_wp2_with fail
      go_ret
      exact ⟨rfl, rfl⟩
    · have d2 : decide ((n : Int) ≤ 150) = false := decide_eq_false (by omega)
      rw [decide_eq_false (fun h => h2 h.2)]
      go_enter Tryd.func15, Tryd.ntmps15
      go_wp2_with fail
      go_ret
      exact ⟨rfl, rfl⟩
  · have d1 : decide ((m : Int) ≤ 80) = false := decide_eq_false (by omega)
    rw [decide_eq_false (fun h => h1 h.1)]
    go_enter Tryd.func15, Tryd.ntmps15
    go_wp2_with fail
    go_ret
    exact ⟨rfl, rfl⟩
/-- A copy of the rules, in a row of one's own. -/
theorem own_inR {B0 : Nat} {w : World} {A : Option Addr} {m c : Nat} {rs : List Ru} (h : w.ownsRow B0 40 6 (.slice A m c) m (rowr rs)) (hl : rs.length = m) (ho : ∀ x ∈ rs, RuOK x) : InR w A m c rs := ⟨row_cells h, ho, row_cap h, hl⟩
theorem row40_new (w : World) : (w.alloc (.cells #[] 40)).ownsRow w.heap.size 40 6 (.slice (some ⟨w.heap.size, 0, none⟩) 0 0) 0 [] := World.ownsRow_made w _ _ (Nat.le_refl _) (by unfold maxLen; omega) (by simp)
end Go.Proofs.YtghldkjbmfbdfaaDoor
