import Derived.Test.YtpdhgjhcjnpkeaaWhCmp
import Derived.Test.YtpdhgjhcjnpkeaaStgX
import Derived.Test.YtpdhgjhcjnpkeaaSteadyX
namespace Go.Proofs.Ytpdhgjhcjnpkeaa
open Go Go.RowKit
set_option linter.unusedVariables false
/-- The order of alarms as a number. -/
def cmpT (x y : Tm.T) : Int := orI (cmpI x.2 y.2) (cmpI x.1 y.1)
/-- A slice of these two numbers. -/
def Two (x y : Int) : Value → World → Prop := fun v w => ∃ g, v = .slice (some ⟨g, 0, none⟩) 2 2 ∧ w.cell? ⟨g, 0, none⟩ = some (.int .i64 x) ∧ w.cell? ⟨g, 1, none⟩ = some (.int .i64 y)
theorem cell_lt {w : World} {A : Addr} {v : Value} (h : w.cell? A = some v) : A.block < w.heap.size := by
  unfold World.cell? at h
  cases hb : w.heap[A.block]? with
  | none => rw [hb] at h; cases h
  | some o => exact (Array.getElem?_eq_some_iff.1 hb).1
theorem cell_up {w w' : World} {A : Addr} {v : Value} (h : w.cell? A = some v) (hu : Up w w') : w'.cell? A = some v := by
  rw [← h]; exact World.cell?_of_block (hu.block _ (cell_lt h))
theorem keeps_two (x y : Int) : Keeps (Two x y) := fun v w w' ⟨g, h1, h2, h3⟩ hu => ⟨g, h1, cell_up h2 hu, cell_up h3 hu⟩
theorem bslice2 (x y : Int) (w : World) : (Instr.buildSlice 29 2 #[(0, .int .i64 x), (1, .int .i64 y)]).run Try.prog w = .ok (.slice (some ⟨w.heap.size, 0, none⟩) 2 2) (w.alloc (.cells #[.int .i64 x, .int .i64 y] 3)) := by
  kernel_rfl
theorem two_new (x y : Int) (w : World) : Two x y (.slice (some ⟨w.heap.size, 0, none⟩) 2 2) (w.alloc (.cells #[.int .i64 x, .int .i64 y] 3)) := ⟨_, rfl, cell_of (MapKept.heap_alloc w _).1 rfl, cell_of (MapKept.heap_alloc w _).1 rfl⟩
set_option maxRecDepth 100000 in
set_option maxHeartbeats 1000000 in
theorem compare_w (x y : Tm.T) (w : World) : Calls Try.prog 19 #[.agg #[.int .i64 x.1, .int .i64 x.2], .agg #[.int .i64 y.1, .int .i64 y.2]] w fun e w' => e = .returned (.int .i64 (cmpT x y)) ∧ Grown w w' := by
  go_enter Try.func19, Try.ntmps19
  go_upto_region 1 with (fail)
  have b0 : ((w.alloc (.cells #[.int .i64 x.1, .int .i64 x.2] 33)).alloc (.cells #[.int .i64 y.1, .int .i64 y.2] 33)).heap[w.heap.size]? = some (.cells #[.int .i64 x.1, .int .i64 x.2] 33) := by
    rw [(MapKept.heap_alloc _ _).2 _ (by simp)]; exact (MapKept.heap_alloc w _).1
  have b1 : ((w.alloc (.cells #[.int .i64 x.1, .int .i64 x.2] 33)).alloc (.cells #[.int .i64 y.1, .int .i64 y.2] 33)).heap[w.heap.size + 1]? = some (.cells #[.int .i64 y.1, .int .i64 y.2] 33) := by
    have := (MapKept.heap_alloc (w.alloc (.cells #[.int .i64 x.1, .int .i64 x.2] 33)) (.cells #[.int .i64 y.1, .int .i64 y.2] 33)).1
    rwa [show (w.alloc (.cells #[.int .i64 x.1, .int .i64 x.2] 33)).heap.size = w.heap.size + 1 by simp] at this
  have G0 : Grown w ((w.alloc (.cells #[.int .i64 x.1, .int .i64 x.2] 33)).alloc (.cells #[.int .i64 y.1, .int .i64 y.2] 33)) := (Grown.alloc _ _).trans (Grown.alloc _ _)
  generalize ((w.alloc (.cells #[.int .i64 x.1, .int .i64 x.2] 33)).alloc (.cells #[.int .i64 y.1, .int .i64 y.2] 33)) = W at b0 b1 G0 ⊢
  have c00 : ∀ w1, Grown W w1 → w1.cell? ⟨w.heap.size, 0, none⟩ = some (.int .i64 x.1) := fun w1 h => cell_up (cell_of b0 rfl) h.1
  have c01 : ∀ w1, Grown W w1 → w1.cell? ⟨w.heap.size, 1, none⟩ = some (.int .i64 x.2) := fun w1 h => cell_up (cell_of b0 rfl) h.1
  have c10 : ∀ w1, Grown W w1 → w1.cell? ⟨w.heap.size + 1, 0, none⟩ = some (.int .i64 y.1) := fun w1 h => cell_up (cell_of b1 rfl) h.1
  have c11 : ∀ w1, Grown W w1 → w1.cell? ⟨w.heap.size + 1, 1, none⟩ = some (.int .i64 y.2) := fun w1 h => cell_up (cell_of b1 rfl) h.1
  refine staged_lit (by kernel_rfl) (facts [Is (.pointer (some ⟨w.heap.size, 1, none⟩)), Is (.int .i64 x.2), Is (.pointer (some ⟨w.heap.size + 1, 1, none⟩)), Is (.int .i64 y.2), Is (.int .i64 (cmpI x.2 y.2)), Is (.pointer (some ⟨w.heap.size, 0, none⟩)), Is (.int .i64 x.1), Is (.pointer (some ⟨w.heap.size + 1, 0, none⟩)), Is (.int .i64 y.1), Is (.int .i64 (cmpI x.1 y.1)), Two (cmpI x.2 y.2) (cmpI x.1 y.1), Is (.int .i64 (cmpT x y)), Is (.int .i64 (cmpT x y))]) (Stg [] (fun _ w1 => Grown W w1)) 17 rfl (by decide +kernel) (by decide +kernel) (Stg.start (Grown.drew W)) ?_ ?_
  · refine ⟨?_, ?_, ?_, ?_, ?_, ?_, ?_, ?_, ?_, ?_, ?_, ?_, ?_, trivial⟩
    · refine opS_same rfl rfl fun L ac w1 hJ hl hc ho hd => ?_
      have s2 : ac.eval (.tmp 2) = .pointer (some ⟨w.heap.size, 0, none⟩) := ho 2 rfl
      exact ⟨_, x_field 33 (.tmp 2) 1 rfl s2 (fld331 _ _ _), rfl⟩
    · refine opS_same rfl rfl fun L ac w1 hJ hl hc ho hd => ?_
      have d0 : ac.eval (.tmp 5) = .pointer (some ⟨w.heap.size, 1, none⟩) := hd 0 _ _ rfl rfl rfl
      obtain ⟨_, _, hW⟩ := hJ
      exact ⟨_, x_load 3 (.tmp 5) rfl d0 (run_load1 agg3 (c01 w1 hW)), rfl⟩
    · refine opS_same rfl rfl fun L ac w1 hJ hl hc ho hd => ?_
      have s3 : ac.eval (.tmp 3) = .pointer (some ⟨w.heap.size + 1, 0, none⟩) := ho 3 rfl
      exact ⟨_, x_field 33 (.tmp 3) 1 rfl s3 (fld331 _ _ _), rfl⟩
    · refine opS_same rfl rfl fun L ac w1 hJ hl hc ho hd => ?_
      have d2 : ac.eval (.tmp 7) = .pointer (some ⟨w.heap.size + 1, 1, none⟩) := hd 2 _ _ rfl rfl rfl
      obtain ⟨_, _, hW⟩ := hJ
      exact ⟨_, x_load 3 (.tmp 7) rfl d2 (run_load1 agg3 (c11 w1 hW)), rfl⟩
    · refine opS_call rfl rfl fun L ac w1 hJ hl hc ho hd => ?_
      have d1 : ac.eval (.tmp 6) = .int .i64 x.2 := hd 1 _ _ rfl rfl rfl
      have d3 : ac.eval (.tmp 8) = .int .i64 y.2 := hd 3 _ _ rfl rfl rfl
      exact ⟨26, _, _, x_fcall 26 [.tmp 6, .tmp 8] _ rfl (by kernel_rfl), rfl, by simp only [List.map_cons, List.map_nil, d1, d3]; exact compare_int _ _ _⟩
    · refine opS_same rfl rfl fun L ac w1 hJ hl hc ho hd => ?_
      have s2 : ac.eval (.tmp 2) = .pointer (some ⟨w.heap.size, 0, none⟩) := ho 2 rfl
      exact ⟨_, x_field 33 (.tmp 2) 0 rfl s2 (fld330 _ _ _), rfl⟩
    · refine opS_same rfl rfl fun L ac w1 hJ hl hc ho hd => ?_
      have d5 : ac.eval (.tmp 10) = .pointer (some ⟨w.heap.size, 0, none⟩) := hd 5 _ _ rfl rfl rfl
      obtain ⟨_, _, hW⟩ := hJ
      exact ⟨_, x_load 3 (.tmp 10) rfl d5 (run_load1 agg3 (c00 w1 hW)), rfl⟩
    · refine opS_same rfl rfl fun L ac w1 hJ hl hc ho hd => ?_
      have s3 : ac.eval (.tmp 3) = .pointer (some ⟨w.heap.size + 1, 0, none⟩) := ho 3 rfl
      exact ⟨_, x_field 33 (.tmp 3) 0 rfl s3 (fld330 _ _ _), rfl⟩
    · refine opS_same rfl rfl fun L ac w1 hJ hl hc ho hd => ?_
      have d7 : ac.eval (.tmp 12) = .pointer (some ⟨w.heap.size + 1, 0, none⟩) := hd 7 _ _ rfl rfl rfl
      obtain ⟨_, _, hW⟩ := hJ
      exact ⟨_, x_load 3 (.tmp 12) rfl d7 (run_load1 agg3 (c10 w1 hW)), rfl⟩
    · refine opS_call rfl rfl fun L ac w1 hJ hl hc ho hd => ?_
      have d6 : ac.eval (.tmp 11) = .int .i64 x.1 := hd 6 _ _ rfl rfl rfl
      have d8 : ac.eval (.tmp 13) = .int .i64 y.1 := hd 8 _ _ rfl rfl rfl
      exact ⟨26, _, _, x_fcall 26 [.tmp 11, .tmp 13] _ rfl (by kernel_rfl), rfl, by simp only [List.map_cons, List.map_nil, d6, d8]; exact compare_int _ _ _⟩
    · refine opS_run rfl rfl fun L ac w1 hJ hl hc ho hd => ?_
      have d4 : ac.eval (.tmp 9) = .int .i64 (cmpI x.2 y.2) := hd 4 _ _ rfl rfl rfl
      have d9 : ac.eval (.tmp 14) = .int .i64 (cmpI x.1 y.1) := hd 9 _ _ rfl rfl rfl
      refine ⟨_, _, x_bslice 29 2 _ rfl (by simp only [List.map_toArray, List.map_cons, List.map_nil, d4, d9]; exact bslice2 _ _ w1), ?_, fun k hk => hk.trans (Grown.alloc _ _), fun j v hl2 hf => ?_⟩
      · exact two_new _ _ _
      · exact facts_keep (by simp [keeps_is, keeps_two]) j v _ _ hf (up_alloc _ _)
    · refine opS_call rfl rfl fun L ac w1 hJ hl hc ho hd => ?_
      have d10 := hd 10 _ _ rfl rfl rfl
      obtain ⟨g, hg, q0, q1⟩ := d10
      have d10 : ac.eval (.tmp 15) = .slice (some ⟨g, 0, none⟩) 2 2 := hg
      exact ⟨25, _, _, x_fcall 25 [.tmp 15] _ rfl (by kernel_rfl), rfl, by simp only [List.map_cons, List.map_nil, d10]; exact or_int g _ _ _ q0 q1⟩
    · refine opS_same rfl rfl fun L ac w1 hJ hl hc ho hd => ?_
      have d11 : ac.eval (.tmp 16) = .int .i64 (cmpT x y) := hd 11 _ _ rfl rfl rfl
      exact ⟨_, x_assign (.tmp 16) rfl d11, rfl⟩
  · intro L a1 w2 hI hall
    obtain ⟨_, _, hG⟩ := hI.done hall (by simp)
    have G := Lib.hid (G0.trans hG)
    clear hG G0 b0 b1 c00 c01 c10 c11
    have l0 : a1.tmps.getD 0 undef = .agg #[.int .i64 x.1, .int .i64 x.2] := hI.old 0 rfl
    have l1 : a1.tmps.getD 1 undef = .agg #[.int .i64 y.1, .int .i64 y.2] := hI.old 1 rfl
    have l2 : a1.tmps.getD 2 undef = .pointer (some ⟨w.heap.size, 0, none⟩) := hI.old 2 rfl
    have l3 : a1.tmps.getD 3 undef = .pointer (some ⟨w.heap.size + 1, 0, none⟩) := hI.old 3 rfl
    have l4 : a1.tmps.getD 4 undef = .int .i64 (cmpT x y) := hI.get hall (i := 12) rfl rfl
    have hde : a1.defers = [] := hI.defers
    have hal := act_lit a1 17 hI.size
    clear hI
    simp only [List.range, List.range.loop, List.map_cons, List.map_nil] at hal
    rw [l0, l1, l2, l3, l4, hde] at hal
    generalize a1.tmps.getD 5 undef = t5 at hal
    generalize a1.tmps.getD 6 undef = t6 at hal
    generalize a1.tmps.getD 7 undef = t7 at hal
    generalize a1.tmps.getD 8 undef = t8 at hal
    generalize a1.tmps.getD 9 undef = t9 at hal
    generalize a1.tmps.getD 10 undef = t10 at hal
    generalize a1.tmps.getD 11 undef = t11 at hal
    generalize a1.tmps.getD 12 undef = t12 at hal
    generalize a1.tmps.getD 13 undef = t13 at hal
    generalize a1.tmps.getD 14 undef = t14 at hal
    generalize a1.tmps.getD 15 undef = t15 at hal
    generalize a1.tmps.getD 16 undef = t16 at hal
    clear l0 l1 l2 l3 l4 hde
    subst hal
    go_wp2_with fail
    go_ret
    exact ⟨rfl, G.out⟩
end Go.Proofs.Ytpdhgjhcjnpkeaa
