import Derived.Test.YtpdhgjhcjnpkeaaBlkSt
import Derived.Test.YtpdhgjhcjnpkeaaLocM
namespace Go.Proofs.Ytpdhgjhcjnpkeaa
open Go Go.RowKit
set_option linter.unusedVariables false
def Tru : Value → World → Prop := fun _ _ => True
/-- It asks nothing of the world. -/
def Free (φ : Value → World → Prop) : Prop := ∀ v w w', φ v w → φ v w'
theorem free_is (x : Value) : Free (Is x) := fun _ _ _ h => h
theorem free_tru : Free Tru := fun _ _ _ _ => trivial
theorem facts_free {l : List (Value → World → Prop)} (h : ∀ φ ∈ l, Free φ) (i : Nat) (v : Value) {w w' : World} (hf : facts l i v w) : facts l i v w' := by
  unfold facts at *
  rw [List.getD] at *
  cases hx : l[i]? with
  | none => simp
  | some φ =>
    rw [hx] at hf
    exact h φ (List.mem_of_getElem? hx) v w w' hf
theorem own_of_rowB {w : World} {g c : Nat} {a : List Tm.T} (h : RowB w g c a) : w.ownsRow 0 33 2 (.slice (some ⟨g, 0, none⟩) a.length c) a.length (tcells a) := by
  obtain ⟨⟨cur, h1, h2, h3⟩, h4, h5⟩ := h
  exact ⟨tcells_length a, .inr ⟨g, c, cur, rfl, Nat.zero_le _, h1, h4, h5, h2, h3⟩⟩
theorem MapO.some_of {w : World} {M : Option Nat} {a : List Tm.T} (h : MapO w M a) (h0 : 0 < a.length) : ∃ m E, M = some m ∧ MapI w m E ∧ Loc E a := by
  cases M with
  | none => have e : a = [] := h; subst e; simp at h0
  | some m => obtain ⟨E, h1, h2⟩ := h; exact ⟨m, E, rfl, h1, h2⟩
/-- The row on its way. -/
def SwR (a : List Tm.T) (i j : Nat) : Nat → List Tm.T | 0 => a | 1 => a.set i (Hp.at_ a j) | _ + 2 => Hp.swp a i j
/-- The map on its way. -/
def SwE (E : List Ent) (b1 b2 : Nat) (i j : Int) : Nat → List Ent | 0 => E | 1 => setE E b1 i | 2 => setE E b1 i | _ + 3 => setE (setE E b1 i) b2 j
set_option maxRecDepth 100000 in
set_option maxHeartbeats 4000000 in
theorem swap_w (S : Nat → Prop) (p : Addr) (a : List Tm.T) (i j : Nat) (x y : Int) (w : World) (h : IsH S w p a) (hi : i < a.length) (hj : j < a.length) (hx : x = (i : Int)) (hy : y = (j : Int)) :
    Calls Try.prog 64 #[.agg #[.pointer (some p)], .int .i64 x, .int .i64 y] w fun e w' => e = .returned (.tuple #[]) ∧ ∃ S', IsH S' w' p (Hp.swp a i j) ∧ Sub S' S w ∧ Out S w w' := by
  obtain ⟨pb, A, c, M, rfl, rfl, h⟩ := h
  subst hx; subst hy
  obtain ⟨g, rfl, hgp, hrow⟩ := rowB_of h (by omega)
  obtain ⟨m, E, rfl, hmap, hloc⟩ := h.map.some_of (by omega)
  obtain ⟨n, hn⟩ : ∃ n, n = a.length := ⟨_, rfl⟩
  have HIJ : Hid (i < n ∧ j < n) := ⟨by omega, by omega⟩
  have HIJ2 : Hid (i < a.length ∧ j < a.length) := ⟨hi, hj⟩
  have HN := Lib.hid hn
  have hpb := h.lt pb (.inl rfl)
  have hg := h.lt g (.inr (.inl rfl))
  have hm := hmap.lt
  have hmpb : m ≠ pb := by
    rintro rfl
    obtain ⟨c1, h1, _⟩ := hmap
    rw [h.top] at h1; cases h1
  have hmg : m ≠ g := by
    rintro rfl
    obtain ⟨c1, h1, _⟩ := hmap
    obtain ⟨⟨cur, h2, _⟩, _⟩ := hrow
    rw [h2] at h1; cases h1
  have HT := Lib.hid h.top
  have HBD := Lib.hid h.bd
  have HR := Lib.hid hrow
  have HM := Lib.hid hmap
  have HL := Lib.hid hloc
  have cp0 : w.cell? ⟨pb, 0, none⟩ = some (.slice (some ⟨g, 0, none⟩) n c) := by rw [hn]; exact cell_of h.top rfl
  have CM0 := Lib.hid (show w.cell? ⟨pb, 0 + 1, none⟩ = some (.map (some m)) from cell_of h.top rfl)
  clear h hrow hmap hloc hi hj hn
  go_enter Try.func64, Try.ntmps64
  go_upto_region 1 with (fail)
  have b0 : (w.alloc (.cells #[.pointer (some ⟨pb, 0, none⟩)] 50)).heap[w.heap.size]? = some (.cells #[.pointer (some ⟨pb, 0, none⟩)] 50) := (MapKept.heap_alloc w _).1
  have G0 : Up w (w.alloc (.cells #[.pointer (some ⟨pb, 0, none⟩)] 50)) := up_alloc _ _
  generalize (w.alloc (.cells #[.pointer (some ⟨pb, 0, none⟩)] 50)) = W at b0 G0 ⊢
  have HRW := Lib.hid (HR.out.keep (G0.block g hg))
  have hbs : w.heap.size < W.heap.size := lt_of_blk b0
  have cb : ∀ w1, Out (fun k => k = g) W w1 → w1.cell? ⟨w.heap.size, 0, none⟩ = some (.pointer (some ⟨pb, 0, none⟩)) := fun w1 h => cell_of (h.blk b0 (by omega)) rfl
  have cp : ∀ w1, Out (fun k => k = g) W w1 → w1.cell? ⟨pb, 0, none⟩ = some (.slice (some ⟨g, 0, none⟩) n c) := fun w1 h => by
    rw [← cp0]
    exact World.cell?_of_block ((h.block pb (by have := G0.size; omega) (fun e => hgp e.symm)).trans (G0.block pb hpb))
  refine staged_lit (by kernel_rfl) (facts [Is (.pointer (some ⟨w.heap.size, 0, none⟩)), Is (.pointer (some ⟨pb, 0, none⟩)), Is (.pointer (some ⟨pb, 0, none⟩)), Is (.pointer (some ⟨pb, 0, none⟩)), Is (.slice (some ⟨g, 0, none⟩) n c), Is (.int .i64 (i : Int)), Is (.pointer (some ⟨w.heap.size, 0, none⟩)), Is (.pointer (some ⟨pb, 0, none⟩)), Is (.pointer (some ⟨pb, 0, none⟩)), Is (.pointer (some ⟨pb, 0, none⟩)), Is (.slice (some ⟨g, 0, none⟩) n c), Is (.int .i64 (j : Int)), Is (.pointer (some ⟨w.heap.size, 0, none⟩)), Is (.pointer (some ⟨pb, 0, none⟩)), Is (.pointer (some ⟨pb, 0, none⟩)), Is (.pointer (some ⟨pb, 0, none⟩)), Is (.slice (some ⟨g, 0, none⟩) n c), Is (.int .i64 (j : Int)), Is (.pointer (some ⟨g, 0 + j * 2, none⟩)), Is (.agg #[.int .i64 (Hp.at_ a j).1, .int .i64 (Hp.at_ a j).2]), Is (.pointer (some ⟨w.heap.size, 0, none⟩)), Is (.pointer (some ⟨pb, 0, none⟩)), Is (.pointer (some ⟨pb, 0, none⟩)), Is (.pointer (some ⟨pb, 0, none⟩)), Is (.slice (some ⟨g, 0, none⟩) n c), Is (.int .i64 (i : Int)), Is (.pointer (some ⟨g, 0 + i * 2, none⟩)), Is (.agg #[.int .i64 (Hp.at_ a i).1, .int .i64 (Hp.at_ a i).2]), Is (.pointer (some ⟨g, 0 + i * 2, none⟩)), Tru, Is (.pointer (some ⟨g, 0 + j * 2, none⟩)), Tru]) (Stg [29, 31] (fun k w1 => Out (fun k => k = g) W w1 ∧ RowB w1 g c (SwR a i j k))) 70 rfl (by decide +kernel) (by decide +kernel) (Stg.start ⟨(Up.drew W).out _, HRW.out.keep rfl⟩) ?_ ?_
  · refine ⟨?_, ?_, ?_, ?_, ?_, ?_, ?_, ?_, ?_, ?_, ?_, ?_, ?_, ?_, ?_, ?_, ?_, ?_, ?_, ?_, ?_, ?_, ?_, ?_, ?_, ?_, ?_, ?_, ?_, ?_, ?_, ?_, trivial⟩
    · refine opS_same rfl rfl fun L ac w1 hJ hl hc ho hd => ?_
      have s3 : ac.eval (.tmp 3) = .pointer (some ⟨w.heap.size, 0, none⟩) := ho 3 rfl
      exact ⟨_, x_field 50 (.tmp 3) 0 rfl s3 (fld500 _ _ _), rfl⟩
    · refine opS_same rfl rfl fun L ac w1 hJ hl hc ho hd => ?_
      have d0 : ac.eval (.tmp 6) = .pointer (some ⟨w.heap.size, 0, none⟩) := hd 0 _ _ rfl rfl rfl
      obtain ⟨_, _, hW⟩ := hJ
      exact ⟨_, x_load 48 (.tmp 6) rfl d0 (run_load1 agg48 (cb w1 hW.1)), rfl⟩
    · refine opS_same rfl rfl fun L ac w1 hJ hl hc ho hd => ?_
      have d1 : ac.eval (.tmp 7) = .pointer (some ⟨pb, 0, none⟩) := hd 1 _ _ rfl rfl rfl
      exact ⟨_, x_nil (.tmp 7) rfl d1, rfl⟩
    · refine opS_same rfl rfl fun L ac w1 hJ hl hc ho hd => ?_
      have d2 : ac.eval (.tmp 8) = .pointer (some ⟨pb, 0, none⟩) := hd 2 _ _ rfl rfl rfl
      exact ⟨_, x_field 43 (.tmp 8) 0 rfl d2 (fld430 _ _ _), rfl⟩
    · refine opS_same rfl rfl fun L ac w1 hJ hl hc ho hd => ?_
      have d3 : ac.eval (.tmp 9) = .pointer (some ⟨pb, 0, none⟩) := hd 3 _ _ rfl rfl rfl
      obtain ⟨_, _, hW⟩ := hJ
      exact ⟨_, x_load 30 (.tmp 9) rfl d3 (run_load1 agg30 (cp w1 hW.1)), rfl⟩
    · refine opS_same rfl rfl fun L ac w1 hJ hl hc ho hd => ?_
      have s1 : ac.eval (.tmp 1) = .int .i64 (i : Int) := ho 1 rfl
      exact ⟨_, x_move (.tmp 1) rfl s1, rfl⟩
    · refine opS_same rfl rfl fun L ac w1 hJ hl hc ho hd => ?_
      have s3 : ac.eval (.tmp 3) = .pointer (some ⟨w.heap.size, 0, none⟩) := ho 3 rfl
      exact ⟨_, x_field 50 (.tmp 3) 0 rfl s3 (fld500 _ _ _), rfl⟩
    · refine opS_same rfl rfl fun L ac w1 hJ hl hc ho hd => ?_
      have d6 : ac.eval (.tmp 12) = .pointer (some ⟨w.heap.size, 0, none⟩) := hd 6 _ _ rfl rfl rfl
      obtain ⟨_, _, hW⟩ := hJ
      exact ⟨_, x_load 48 (.tmp 12) rfl d6 (run_load1 agg48 (cb w1 hW.1)), rfl⟩
    · refine opS_same rfl rfl fun L ac w1 hJ hl hc ho hd => ?_
      have d7 : ac.eval (.tmp 13) = .pointer (some ⟨pb, 0, none⟩) := hd 7 _ _ rfl rfl rfl
      exact ⟨_, x_nil (.tmp 13) rfl d7, rfl⟩
    · refine opS_same rfl rfl fun L ac w1 hJ hl hc ho hd => ?_
      have d8 : ac.eval (.tmp 14) = .pointer (some ⟨pb, 0, none⟩) := hd 8 _ _ rfl rfl rfl
      exact ⟨_, x_field 43 (.tmp 14) 0 rfl d8 (fld430 _ _ _), rfl⟩
    · refine opS_same rfl rfl fun L ac w1 hJ hl hc ho hd => ?_
      have d9 : ac.eval (.tmp 15) = .pointer (some ⟨pb, 0, none⟩) := hd 9 _ _ rfl rfl rfl
      obtain ⟨_, _, hW⟩ := hJ
      exact ⟨_, x_load 30 (.tmp 15) rfl d9 (run_load1 agg30 (cp w1 hW.1)), rfl⟩
    · refine opS_same rfl rfl fun L ac w1 hJ hl hc ho hd => ?_
      have s2 : ac.eval (.tmp 2) = .int .i64 (j : Int) := ho 2 rfl
      exact ⟨_, x_move (.tmp 2) rfl s2, rfl⟩
    · refine opS_same rfl rfl fun L ac w1 hJ hl hc ho hd => ?_
      have s3 : ac.eval (.tmp 3) = .pointer (some ⟨w.heap.size, 0, none⟩) := ho 3 rfl
      exact ⟨_, x_field 50 (.tmp 3) 0 rfl s3 (fld500 _ _ _), rfl⟩
    · refine opS_same rfl rfl fun L ac w1 hJ hl hc ho hd => ?_
      have d12 : ac.eval (.tmp 18) = .pointer (some ⟨w.heap.size, 0, none⟩) := hd 12 _ _ rfl rfl rfl
      obtain ⟨_, _, hW⟩ := hJ
      exact ⟨_, x_load 48 (.tmp 18) rfl d12 (run_load1 agg48 (cb w1 hW.1)), rfl⟩
    · refine opS_same rfl rfl fun L ac w1 hJ hl hc ho hd => ?_
      have d13 : ac.eval (.tmp 19) = .pointer (some ⟨pb, 0, none⟩) := hd 13 _ _ rfl rfl rfl
      exact ⟨_, x_nil (.tmp 19) rfl d13, rfl⟩
    · refine opS_same rfl rfl fun L ac w1 hJ hl hc ho hd => ?_
      have d14 : ac.eval (.tmp 20) = .pointer (some ⟨pb, 0, none⟩) := hd 14 _ _ rfl rfl rfl
      exact ⟨_, x_field 43 (.tmp 20) 0 rfl d14 (fld430 _ _ _), rfl⟩
    · refine opS_same rfl rfl fun L ac w1 hJ hl hc ho hd => ?_
      have d15 : ac.eval (.tmp 21) = .pointer (some ⟨pb, 0, none⟩) := hd 15 _ _ rfl rfl rfl
      obtain ⟨_, _, hW⟩ := hJ
      exact ⟨_, x_load 30 (.tmp 21) rfl d15 (run_load1 agg30 (cp w1 hW.1)), rfl⟩
    · refine opS_same rfl rfl fun L ac w1 hJ hl hc ho hd => ?_
      have s2 : ac.eval (.tmp 2) = .int .i64 (j : Int) := ho 2 rfl
      exact ⟨_, x_move (.tmp 2) rfl s2, rfl⟩
    · refine opS_same rfl rfl fun L ac w1 hJ hl hc ho hd => ?_
      have d16 : ac.eval (.tmp 22) = .slice (some ⟨g, 0, none⟩) n c := hd 16 _ _ rfl rfl rfl
      have d17 : ac.eval (.tmp 23) = .int .i64 (j : Int) := hd 17 _ _ rfl rfl rfl
      exact ⟨_, x_index 30 (.tmp 22) (.tmp 23) rfl d16 d17 (run_index30 HIJ.out.2), rfl⟩
    · refine opS_same rfl rfl fun L ac w1 hJ hl hc ho hd => ?_
      have d18 : ac.eval (.tmp 24) = .pointer (some ⟨g, 0 + j * 2, none⟩) := hd 18 _ _ rfl rfl rfl
      have hW := hJ.first (reach_not hc (n := 40) (k := 29) (by kernel_rfl) hl)
      exact ⟨_, x_load 33 (.tmp 24) rfl d18 (run_load33i (hW.2.cell HIJ2.out.2)), rfl⟩
    · refine opS_same rfl rfl fun L ac w1 hJ hl hc ho hd => ?_
      have s3 : ac.eval (.tmp 3) = .pointer (some ⟨w.heap.size, 0, none⟩) := ho 3 rfl
      exact ⟨_, x_field 50 (.tmp 3) 0 rfl s3 (fld500 _ _ _), rfl⟩
    · refine opS_same rfl rfl fun L ac w1 hJ hl hc ho hd => ?_
      have d20 : ac.eval (.tmp 26) = .pointer (some ⟨w.heap.size, 0, none⟩) := hd 20 _ _ rfl rfl rfl
      obtain ⟨_, _, hW⟩ := hJ
      exact ⟨_, x_load 48 (.tmp 26) rfl d20 (run_load1 agg48 (cb w1 hW.1)), rfl⟩
    · refine opS_same rfl rfl fun L ac w1 hJ hl hc ho hd => ?_
      have d21 : ac.eval (.tmp 27) = .pointer (some ⟨pb, 0, none⟩) := hd 21 _ _ rfl rfl rfl
      exact ⟨_, x_nil (.tmp 27) rfl d21, rfl⟩
    · refine opS_same rfl rfl fun L ac w1 hJ hl hc ho hd => ?_
      have d22 : ac.eval (.tmp 28) = .pointer (some ⟨pb, 0, none⟩) := hd 22 _ _ rfl rfl rfl
      exact ⟨_, x_field 43 (.tmp 28) 0 rfl d22 (fld430 _ _ _), rfl⟩
    · refine opS_same rfl rfl fun L ac w1 hJ hl hc ho hd => ?_
      have d23 : ac.eval (.tmp 29) = .pointer (some ⟨pb, 0, none⟩) := hd 23 _ _ rfl rfl rfl
      obtain ⟨_, _, hW⟩ := hJ
      exact ⟨_, x_load 30 (.tmp 29) rfl d23 (run_load1 agg30 (cp w1 hW.1)), rfl⟩
    · refine opS_same rfl rfl fun L ac w1 hJ hl hc ho hd => ?_
      have s1 : ac.eval (.tmp 1) = .int .i64 (i : Int) := ho 1 rfl
      exact ⟨_, x_move (.tmp 1) rfl s1, rfl⟩
    · refine opS_same rfl rfl fun L ac w1 hJ hl hc ho hd => ?_
      have d24 : ac.eval (.tmp 30) = .slice (some ⟨g, 0, none⟩) n c := hd 24 _ _ rfl rfl rfl
      have d25 : ac.eval (.tmp 31) = .int .i64 (i : Int) := hd 25 _ _ rfl rfl rfl
      exact ⟨_, x_index 30 (.tmp 30) (.tmp 31) rfl d24 d25 (run_index30 HIJ.out.1), rfl⟩
    · refine opS_same rfl rfl fun L ac w1 hJ hl hc ho hd => ?_
      have d26 : ac.eval (.tmp 32) = .pointer (some ⟨g, 0 + i * 2, none⟩) := hd 26 _ _ rfl rfl rfl
      have hW := hJ.first (reach_not hc (n := 40) (k := 29) (by kernel_rfl) hl)
      exact ⟨_, x_load 33 (.tmp 32) rfl d26 (run_load33i (hW.2.cell HIJ2.out.1)), rfl⟩
    · refine opS_same rfl rfl fun L ac w1 hJ hl hc ho hd => ?_
      have d4 : ac.eval (.tmp 10) = .slice (some ⟨g, 0, none⟩) n c := hd 4 _ _ rfl rfl rfl
      have d5 : ac.eval (.tmp 11) = .int .i64 (i : Int) := hd 5 _ _ rfl rfl rfl
      exact ⟨_, x_index 30 (.tmp 10) (.tmp 11) rfl d4 d5 (run_index30 HIJ.out.1), rfl⟩
    · refine opS_write (j := 0) rfl rfl (by decide) rfl (fun _ _ h => absurd h (by omega)) fun ac w1 hW ho hd => ?_
      have d28 : ac.eval (.tmp 34) = .pointer (some ⟨g, 0 + i * 2, none⟩) := hd 28 _ _ rfl rfl rfl
      have d19 : ac.eval (.tmp 25) = .agg #[.int .i64 (Hp.at_ a j).1, .int .i64 (Hp.at_ a j).2] := hd 19 _ _ rfl rfl rfl
      obtain ⟨w2, h1, h2, h3⟩ := hW.2.store HIJ2.out.1 (Hp.at_ a j)
      exact ⟨w2, x_store 33 (.tmp 34) (.tmp 25) rfl d28 d19 h1, ⟨hW.1.trans h3 (Sub.refl _ _), h2⟩, fun _ => trivial, fun q v => facts_free (by simp [free_is, free_tru]) q v⟩
    · refine opS_same rfl rfl fun L ac w1 hJ hl hc ho hd => ?_
      have d10 : ac.eval (.tmp 16) = .slice (some ⟨g, 0, none⟩) n c := hd 10 _ _ rfl rfl rfl
      have d11 : ac.eval (.tmp 17) = .int .i64 (j : Int) := hd 11 _ _ rfl rfl rfl
      exact ⟨_, x_index 30 (.tmp 16) (.tmp 17) rfl d10 d11 (run_index30 HIJ.out.2), rfl⟩
    · refine opS_write (j := 1) rfl rfl (by decide) rfl (fun y hy _ => by cases hy; rfl) fun ac w1 hW ho hd => ?_
      have d30 : ac.eval (.tmp 35) = .pointer (some ⟨g, 0 + j * 2, none⟩) := hd 30 _ _ rfl rfl rfl
      have d27 : ac.eval (.tmp 33) = .agg #[.int .i64 (Hp.at_ a i).1, .int .i64 (Hp.at_ a i).2] := hd 27 _ _ rfl rfl rfl
      obtain ⟨w2, h1, h2, h3⟩ := (show RowB w1 g c (a.set i (Hp.at_ a j)) from hW.2).store (i := j) (by rw [List.length_set]; exact HIJ2.out.2) (Hp.at_ a i)
      exact ⟨w2, x_store 33 (.tmp 35) (.tmp 33) rfl d30 d27 h1, ⟨hW.1.trans h3 (Sub.refl _ _), h2⟩, fun _ => trivial, fun q v => facts_free (by simp [free_is, free_tru]) q v⟩
  · intro L a1 w2 hI hall
    obtain ⟨k, hk, hW1, hW2⟩ := hI.done hall (by simp)
    obtain ⟨k, rfl⟩ : ∃ q, k = q + 2 := ⟨k - 2, by simp at hk; omega⟩
    have X1 := Lib.hid hW1
    have X2 := Lib.hid (show RowB w2 g c (Hp.swp a i j) from hW2)
    clear hk hW1 hW2 cb cp k
    have l0 : a1.tmps.getD 0 undef = .agg #[.pointer (some ⟨pb, 0, none⟩)] := hI.old 0 rfl
    have l3 : a1.tmps.getD 3 undef = .pointer (some ⟨w.heap.size, 0, none⟩) := hI.old 3 rfl
    have l1 : a1.tmps.getD 1 undef = .int .i64 (i : Int) := hI.old 1 rfl
    have l2 : a1.tmps.getD 2 undef = .int .i64 (j : Int) := hI.old 2 rfl
    have hde : a1.defers = [] := hI.defers
    have hal := act_lit a1 70 hI.size
    clear hI
    simp only [List.range, List.range.loop, List.map_cons, List.map_nil] at hal
    rw [l0, l3, l1, l2, hde] at hal
    generalize a1.tmps.getD 4 undef = t4 at hal
    generalize a1.tmps.getD 5 undef = t5 at hal
    generalize a1.tmps.getD 6 undef = t6 at hal
    generalize a1.tmps.getD 7 undef = t7 at hal
    generalize a1.tmps.getD 8 undef = t8 at hal
    generalize a1.tmps.getD 9 undef = t9 at hal
    generalize a1.tmps.getD 10 undef = t10 at hal
    generalize a1.tmps.getD 11 undef = t11 at hal
    generalize a1.tmps.getD 12 undef = t12 at hal
    generalize a1.tmps.getD 13 undef = t13 at hal
    generalize a1.tmps.getD 14 undef = t14 at hal
    generalize a1.tmps.getD 15 undef = t15 at hal
    generalize a1.tmps.getD 16 undef = t16 at hal
    generalize a1.tmps.getD 17 undef = t17 at hal
    generalize a1.tmps.getD 18 undef = t18 at hal
    generalize a1.tmps.getD 19 undef = t19 at hal
    generalize a1.tmps.getD 20 undef = t20 at hal
    generalize a1.tmps.getD 21 undef = t21 at hal
    generalize a1.tmps.getD 22 undef = t22 at hal
    generalize a1.tmps.getD 23 undef = t23 at hal
    generalize a1.tmps.getD 24 undef = t24 at hal
    generalize a1.tmps.getD 25 undef = t25 at hal
    generalize a1.tmps.getD 26 undef = t26 at hal
    generalize a1.tmps.getD 27 undef = t27 at hal
    generalize a1.tmps.getD 28 undef = t28 at hal
    generalize a1.tmps.getD 29 undef = t29 at hal
    generalize a1.tmps.getD 30 undef = t30 at hal
    generalize a1.tmps.getD 31 undef = t31 at hal
    generalize a1.tmps.getD 32 undef = t32 at hal
    generalize a1.tmps.getD 33 undef = t33 at hal
    generalize a1.tmps.getD 34 undef = t34 at hal
    generalize a1.tmps.getD 35 undef = t35 at hal
    generalize a1.tmps.getD 36 undef = t36 at hal
    generalize a1.tmps.getD 37 undef = t37 at hal
    generalize a1.tmps.getD 38 undef = t38 at hal
    generalize a1.tmps.getD 39 undef = t39 at hal
    generalize a1.tmps.getD 40 undef = t40 at hal
    generalize a1.tmps.getD 41 undef = t41 at hal
    generalize a1.tmps.getD 42 undef = t42 at hal
    generalize a1.tmps.getD 43 undef = t43 at hal
    generalize a1.tmps.getD 44 undef = t44 at hal
    generalize a1.tmps.getD 45 undef = t45 at hal
    generalize a1.tmps.getD 46 undef = t46 at hal
    generalize a1.tmps.getD 47 undef = t47 at hal
    generalize a1.tmps.getD 48 undef = t48 at hal
    generalize a1.tmps.getD 49 undef = t49 at hal
    generalize a1.tmps.getD 50 undef = t50 at hal
    generalize a1.tmps.getD 51 undef = t51 at hal
    generalize a1.tmps.getD 52 undef = t52 at hal
    generalize a1.tmps.getD 53 undef = t53 at hal
    generalize a1.tmps.getD 54 undef = t54 at hal
    generalize a1.tmps.getD 55 undef = t55 at hal
    generalize a1.tmps.getD 56 undef = t56 at hal
    generalize a1.tmps.getD 57 undef = t57 at hal
    generalize a1.tmps.getD 58 undef = t58 at hal
    generalize a1.tmps.getD 59 undef = t59 at hal
    generalize a1.tmps.getD 60 undef = t60 at hal
    generalize a1.tmps.getD 61 undef = t61 at hal
    generalize a1.tmps.getD 62 undef = t62 at hal
    generalize a1.tmps.getD 63 undef = t63 at hal
    generalize a1.tmps.getD 64 undef = t64 at hal
    generalize a1.tmps.getD 65 undef = t65 at hal
    generalize a1.tmps.getD 66 undef = t66 at hal
    generalize a1.tmps.getD 67 undef = t67 at hal
    generalize a1.tmps.getD 68 undef = t68 at hal
    generalize a1.tmps.getD 69 undef = t69 at hal
    clear l0 l3 l1 l2 hde
    subst hal
    go_upto_region 2 with (fail)
    have hs2 : W.heap.size ≤ w2.heap.size := X1.out.size
    have m2 : w2.heap[m]? = w.heap[m]? := (X1.out.block m (by have := G0.size; omega) hmg).trans (G0.block m hm)
    have p2 : w2.heap[pb]? = w.heap[pb]? := (X1.out.block pb (by have := G0.size; omega) (fun e => hgp e.symm)).trans (G0.block pb hpb)
    have bb2 : w2.heap[w.heap.size]? = some (.cells #[.pointer (some ⟨pb, 0, none⟩)] 50) := X1.out.blk b0 (by omega)
    have HM2 := Lib.hid (HM.out.keep m2)
    obtain ⟨b1, hm1⟩ := HL.out.mem HIJ2.out.2
    obtain ⟨b2, hm2⟩ := HL.out.mem HIJ2.out.1
    obtain ⟨v2, hv2⟩ : ∃ u, ((Hp.at_ a i).1, u, b2) ∈ setE E b1 i := by
      by_cases e : b2 = b1
      · exact ⟨i, mem_setE.2 (.inr ⟨rfl, e, _, by rw [← e]; exact hm2⟩)⟩
      · exact ⟨_, mem_setE.2 (.inl ⟨hm2, e⟩)⟩
    have LE := Lib.hid (loc_swap HL.out HM.out.keyd HIJ2.out.1 HIJ2.out.2 hm1 hm2)
    have SW := Hp.at_swp HIJ2.out.1 HIJ2.out.2
    obtain ⟨ki, hki⟩ : ∃ k, k = (Hp.at_ a j).1 := ⟨_, rfl⟩
    obtain ⟨kj, hkj⟩ : ∃ k, k = (Hp.at_ a i).1 := ⟨_, rfl⟩
    have M1 := Lib.hid hm1
    have M2 := Lib.hid hv2
    rw [← hki] at M1
    rw [← hkj] at M2
    have ci : ∀ w1, Out (fun k => k = m) w2 w1 → w1.cell? ⟨g, 0 + i * 2, none⟩ = some (.int .i64 ki) := fun w1 h => by
      rw [Nat.zero_add, (((X2.out.keep (h.block g (by have := G0.size; omega) (fun e => hmg e.symm))).cell (i := i) (by rw [Hp.swp_length]; exact HIJ2.out.1)).1), SW, hki]
      by_cases e : i = j
      · rw [if_pos e]; subst e; rfl
      · rw [if_neg e, if_pos rfl]
    have cj : ∀ w1, Out (fun k => k = m) w2 w1 → w1.cell? ⟨g, 0 + j * 2, none⟩ = some (.int .i64 kj) := fun w1 h => by
      rw [Nat.zero_add, (((X2.out.keep (h.block g (by have := G0.size; omega) (fun e => hmg e.symm))).cell (i := j) (by rw [Hp.swp_length]; exact HIJ2.out.2)).1), SW, hkj, if_pos rfl]
    have cb : ∀ w1, Out (fun k => k = m) w2 w1 → w1.cell? ⟨w.heap.size, 0, none⟩ = some (.pointer (some ⟨pb, 0, none⟩)) := fun w1 h => cell_of (h.blk bb2 (by omega)) rfl
    have cp : ∀ w1, Out (fun k => k = m) w2 w1 → w1.cell? ⟨pb, 0, none⟩ = some (.slice (some ⟨g, 0, none⟩) n c) := fun w1 h => by
      rw [← cp0]
      exact World.cell?_of_block ((h.block pb (by have := G0.size; omega) (fun e => hmpb e.symm)).trans p2)
    have cm : ∀ w1, Out (fun k => k = m) w2 w1 → w1.cell? ⟨pb, 0 + 1, none⟩ = some (.map (some m)) := fun w1 h => by
      rw [← CM0.out]
      exact World.cell?_of_block ((h.block pb (by have := G0.size; omega) (fun e => hmpb e.symm)).trans p2)
    clear SW hm1 hm2 hv2
    refine staged_lit (by kernel_rfl) (facts [Is (.pointer (some ⟨w.heap.size, 0, none⟩)), Is (.pointer (some ⟨pb, 0, none⟩)), Is (.pointer (some ⟨pb, 0, none⟩)), Is (.pointer (some ⟨pb, 0 + 1, none⟩)), Is (.map (some m)), Is (.pointer (some ⟨w.heap.size, 0, none⟩)), Is (.pointer (some ⟨pb, 0, none⟩)), Is (.pointer (some ⟨pb, 0, none⟩)), Is (.pointer (some ⟨pb, 0, none⟩)), Is (.slice (some ⟨g, 0, none⟩) n c), Is (.int .i64 (i : Int)), Is (.pointer (some ⟨g, 0 + i * 2, none⟩)), Is (.pointer (some ⟨g, 0 + i * 2, none⟩)), Is (.int .i64 ki), Is (.pointer (some ⟨w.heap.size, 0, none⟩)), Is (.pointer (some ⟨pb, 0, none⟩)), Is (.pointer (some ⟨pb, 0, none⟩)), Is (.pointer (some ⟨pb, 0 + 1, none⟩)), Is (.map (some m)), Is (.pointer (some ⟨w.heap.size, 0, none⟩)), Is (.pointer (some ⟨pb, 0, none⟩)), Is (.pointer (some ⟨pb, 0, none⟩)), Is (.pointer (some ⟨pb, 0, none⟩)), Is (.slice (some ⟨g, 0, none⟩) n c), Is (.int .i64 (j : Int)), Is (.pointer (some ⟨g, 0 + j * 2, none⟩)), Is (.pointer (some ⟨g, 0 + j * 2, none⟩)), Is (.int .i64 kj), Is (.int .i64 (i : Int)), Is (.int .i64 (j : Int)), Is (.tuple #[.int .i64 (j : Int), .int .i64 (b1 : Int)]), Is (.int .i64 (b1 : Int)), Tru, Is (.tuple #[.int .i64 v2, .int .i64 (b2 : Int)]), Is (.int .i64 (b2 : Int)), Tru]) (Stg [32, 33, 35] (fun k w1 => Out (fun k => k = m) w2 w1 ∧ MapI w1 m (SwE E b1 b2 i j k))) 70 rfl (by decide +kernel) (by decide +kernel) (Stg.start ⟨(Up.drew w2).out _, HM2.out.keep rfl⟩) ?_ ?_
    · refine ⟨?_, ?_, ?_, ?_, ?_, ?_, ?_, ?_, ?_, ?_, ?_, ?_, ?_, ?_, ?_, ?_, ?_, ?_, ?_, ?_, ?_, ?_, ?_, ?_, ?_, ?_, ?_, ?_, ?_, ?_, ?_, ?_, ?_, ?_, ?_, ?_, trivial⟩
      · refine opS_same rfl rfl fun L ac w1 hJ hl hc ho hd => ?_
        have s3 : ac.eval (.tmp 3) = .pointer (some ⟨w.heap.size, 0, none⟩) := ho 3 rfl
        exact ⟨_, x_field 50 (.tmp 3) 0 rfl s3 (fld500 _ _ _), rfl⟩
      · refine opS_same rfl rfl fun L ac w1 hJ hl hc ho hd => ?_
        have d0 : ac.eval (.tmp 36) = .pointer (some ⟨w.heap.size, 0, none⟩) := hd 0 _ _ rfl rfl rfl
        obtain ⟨_, _, hW⟩ := hJ
        exact ⟨_, x_load 48 (.tmp 36) rfl d0 (run_load1 agg48 (cb w1 hW.1)), rfl⟩
      · refine opS_same rfl rfl fun L ac w1 hJ hl hc ho hd => ?_
        have d1 : ac.eval (.tmp 37) = .pointer (some ⟨pb, 0, none⟩) := hd 1 _ _ rfl rfl rfl
        exact ⟨_, x_nil (.tmp 37) rfl d1, rfl⟩
      · refine opS_same rfl rfl fun L ac w1 hJ hl hc ho hd => ?_
        have d2 : ac.eval (.tmp 38) = .pointer (some ⟨pb, 0, none⟩) := hd 2 _ _ rfl rfl rfl
        exact ⟨_, x_field 43 (.tmp 38) 1 rfl d2 (fld431 _ _ _), rfl⟩
      · refine opS_same rfl rfl fun L ac w1 hJ hl hc ho hd => ?_
        have d3 : ac.eval (.tmp 39) = .pointer (some ⟨pb, 0 + 1, none⟩) := hd 3 _ _ rfl rfl rfl
        obtain ⟨_, _, hW⟩ := hJ
        exact ⟨_, x_load 41 (.tmp 39) rfl d3 (run_load1 agg41 (cm w1 hW.1)), rfl⟩
      · refine opS_same rfl rfl fun L ac w1 hJ hl hc ho hd => ?_
        have s3 : ac.eval (.tmp 3) = .pointer (some ⟨w.heap.size, 0, none⟩) := ho 3 rfl
        exact ⟨_, x_field 50 (.tmp 3) 0 rfl s3 (fld500 _ _ _), rfl⟩
      · refine opS_same rfl rfl fun L ac w1 hJ hl hc ho hd => ?_
        have d5 : ac.eval (.tmp 41) = .pointer (some ⟨w.heap.size, 0, none⟩) := hd 5 _ _ rfl rfl rfl
        obtain ⟨_, _, hW⟩ := hJ
        exact ⟨_, x_load 48 (.tmp 41) rfl d5 (run_load1 agg48 (cb w1 hW.1)), rfl⟩
      · refine opS_same rfl rfl fun L ac w1 hJ hl hc ho hd => ?_
        have d6 : ac.eval (.tmp 42) = .pointer (some ⟨pb, 0, none⟩) := hd 6 _ _ rfl rfl rfl
        exact ⟨_, x_nil (.tmp 42) rfl d6, rfl⟩
      · refine opS_same rfl rfl fun L ac w1 hJ hl hc ho hd => ?_
        have d7 : ac.eval (.tmp 43) = .pointer (some ⟨pb, 0, none⟩) := hd 7 _ _ rfl rfl rfl
        exact ⟨_, x_field 43 (.tmp 43) 0 rfl d7 (fld430 _ _ _), rfl⟩
      · refine opS_same rfl rfl fun L ac w1 hJ hl hc ho hd => ?_
        have d8 : ac.eval (.tmp 44) = .pointer (some ⟨pb, 0, none⟩) := hd 8 _ _ rfl rfl rfl
        obtain ⟨_, _, hW⟩ := hJ
        exact ⟨_, x_load 30 (.tmp 44) rfl d8 (run_load1 agg30 (cp w1 hW.1)), rfl⟩
      · refine opS_same rfl rfl fun L ac w1 hJ hl hc ho hd => ?_
        have s1 : ac.eval (.tmp 1) = .int .i64 (i : Int) := ho 1 rfl
        exact ⟨_, x_move (.tmp 1) rfl s1, rfl⟩
      · refine opS_same rfl rfl fun L ac w1 hJ hl hc ho hd => ?_
        have d9 : ac.eval (.tmp 45) = .slice (some ⟨g, 0, none⟩) n c := hd 9 _ _ rfl rfl rfl
        have d10 : ac.eval (.tmp 46) = .int .i64 (i : Int) := hd 10 _ _ rfl rfl rfl
        exact ⟨_, x_index 30 (.tmp 45) (.tmp 46) rfl d9 d10 (run_index30 HIJ.out.1), rfl⟩
      · refine opS_same rfl rfl fun L ac w1 hJ hl hc ho hd => ?_
        have d11 : ac.eval (.tmp 47) = .pointer (some ⟨g, 0 + i * 2, none⟩) := hd 11 _ _ rfl rfl rfl
        exact ⟨_, x_field 33 (.tmp 47) 0 rfl d11 (fld330 _ _ _), rfl⟩
      · refine opS_same rfl rfl fun L ac w1 hJ hl hc ho hd => ?_
        have d12 : ac.eval (.tmp 48) = .pointer (some ⟨g, 0 + i * 2, none⟩) := hd 12 _ _ rfl rfl rfl
        obtain ⟨_, _, hW⟩ := hJ
        exact ⟨_, x_load 3 (.tmp 48) rfl d12 (run_load1 agg3 (ci w1 hW.1)), rfl⟩
      · refine opS_same rfl rfl fun L ac w1 hJ hl hc ho hd => ?_
        have s3 : ac.eval (.tmp 3) = .pointer (some ⟨w.heap.size, 0, none⟩) := ho 3 rfl
        exact ⟨_, x_field 50 (.tmp 3) 0 rfl s3 (fld500 _ _ _), rfl⟩
      · refine opS_same rfl rfl fun L ac w1 hJ hl hc ho hd => ?_
        have d14 : ac.eval (.tmp 50) = .pointer (some ⟨w.heap.size, 0, none⟩) := hd 14 _ _ rfl rfl rfl
        obtain ⟨_, _, hW⟩ := hJ
        exact ⟨_, x_load 48 (.tmp 50) rfl d14 (run_load1 agg48 (cb w1 hW.1)), rfl⟩
      · refine opS_same rfl rfl fun L ac w1 hJ hl hc ho hd => ?_
        have d15 : ac.eval (.tmp 51) = .pointer (some ⟨pb, 0, none⟩) := hd 15 _ _ rfl rfl rfl
        exact ⟨_, x_nil (.tmp 51) rfl d15, rfl⟩
      · refine opS_same rfl rfl fun L ac w1 hJ hl hc ho hd => ?_
        have d16 : ac.eval (.tmp 52) = .pointer (some ⟨pb, 0, none⟩) := hd 16 _ _ rfl rfl rfl
        exact ⟨_, x_field 43 (.tmp 52) 1 rfl d16 (fld431 _ _ _), rfl⟩
      · refine opS_same rfl rfl fun L ac w1 hJ hl hc ho hd => ?_
        have d17 : ac.eval (.tmp 53) = .pointer (some ⟨pb, 0 + 1, none⟩) := hd 17 _ _ rfl rfl rfl
        obtain ⟨_, _, hW⟩ := hJ
        exact ⟨_, x_load 41 (.tmp 53) rfl d17 (run_load1 agg41 (cm w1 hW.1)), rfl⟩
      · refine opS_same rfl rfl fun L ac w1 hJ hl hc ho hd => ?_
        have s3 : ac.eval (.tmp 3) = .pointer (some ⟨w.heap.size, 0, none⟩) := ho 3 rfl
        exact ⟨_, x_field 50 (.tmp 3) 0 rfl s3 (fld500 _ _ _), rfl⟩
      · refine opS_same rfl rfl fun L ac w1 hJ hl hc ho hd => ?_
        have d19 : ac.eval (.tmp 55) = .pointer (some ⟨w.heap.size, 0, none⟩) := hd 19 _ _ rfl rfl rfl
        obtain ⟨_, _, hW⟩ := hJ
        exact ⟨_, x_load 48 (.tmp 55) rfl d19 (run_load1 agg48 (cb w1 hW.1)), rfl⟩
      · refine opS_same rfl rfl fun L ac w1 hJ hl hc ho hd => ?_
        have d20 : ac.eval (.tmp 56) = .pointer (some ⟨pb, 0, none⟩) := hd 20 _ _ rfl rfl rfl
        exact ⟨_, x_nil (.tmp 56) rfl d20, rfl⟩
      · refine opS_same rfl rfl fun L ac w1 hJ hl hc ho hd => ?_
        have d21 : ac.eval (.tmp 57) = .pointer (some ⟨pb, 0, none⟩) := hd 21 _ _ rfl rfl rfl
        exact ⟨_, x_field 43 (.tmp 57) 0 rfl d21 (fld430 _ _ _), rfl⟩
      · refine opS_same rfl rfl fun L ac w1 hJ hl hc ho hd => ?_
        have d22 : ac.eval (.tmp 58) = .pointer (some ⟨pb, 0, none⟩) := hd 22 _ _ rfl rfl rfl
        obtain ⟨_, _, hW⟩ := hJ
        exact ⟨_, x_load 30 (.tmp 58) rfl d22 (run_load1 agg30 (cp w1 hW.1)), rfl⟩
      · refine opS_same rfl rfl fun L ac w1 hJ hl hc ho hd => ?_
        have s2 : ac.eval (.tmp 2) = .int .i64 (j : Int) := ho 2 rfl
        exact ⟨_, x_move (.tmp 2) rfl s2, rfl⟩
      · refine opS_same rfl rfl fun L ac w1 hJ hl hc ho hd => ?_
        have d23 : ac.eval (.tmp 59) = .slice (some ⟨g, 0, none⟩) n c := hd 23 _ _ rfl rfl rfl
        have d24 : ac.eval (.tmp 60) = .int .i64 (j : Int) := hd 24 _ _ rfl rfl rfl
        exact ⟨_, x_index 30 (.tmp 59) (.tmp 60) rfl d23 d24 (run_index30 HIJ.out.2), rfl⟩
      · refine opS_same rfl rfl fun L ac w1 hJ hl hc ho hd => ?_
        have d25 : ac.eval (.tmp 61) = .pointer (some ⟨g, 0 + j * 2, none⟩) := hd 25 _ _ rfl rfl rfl
        exact ⟨_, x_field 33 (.tmp 61) 0 rfl d25 (fld330 _ _ _), rfl⟩
      · refine opS_same rfl rfl fun L ac w1 hJ hl hc ho hd => ?_
        have d26 : ac.eval (.tmp 62) = .pointer (some ⟨g, 0 + j * 2, none⟩) := hd 26 _ _ rfl rfl rfl
        obtain ⟨_, _, hW⟩ := hJ
        exact ⟨_, x_load 3 (.tmp 62) rfl d26 (run_load1 agg3 (cj w1 hW.1)), rfl⟩
      · refine opS_same rfl rfl fun L ac w1 hJ hl hc ho hd => ?_
        have s1 : ac.eval (.tmp 1) = .int .i64 (i : Int) := ho 1 rfl
        exact ⟨_, x_move (.tmp 1) rfl s1, rfl⟩
      · refine opS_same rfl rfl fun L ac w1 hJ hl hc ho hd => ?_
        have s2 : ac.eval (.tmp 2) = .int .i64 (j : Int) := ho 2 rfl
        exact ⟨_, x_move (.tmp 2) rfl s2, rfl⟩
      · refine opS_same rfl rfl fun L ac w1 hJ hl hc ho hd => ?_
        have d4 : ac.eval (.tmp 40) = .map (some m) := hd 4 _ _ rfl rfl rfl
        have d13 : ac.eval (.tmp 49) = .int .i64 ki := hd 13 _ _ rfl rfl rfl
        have hW := hJ.first (reach_not hc (n := 40) (k := 32) (by kernel_rfl) hl)
        exact ⟨_, x_entry 41 (.tmp 40) (.tmp 49) rfl d4 d13 (run_entryI Try.underlying41 Try.underlying3 hW.2 M1.out), rfl⟩
      · refine opS_same rfl rfl fun L ac w1 hJ hl hc ho hd => ?_
        have d30 : ac.eval (.tmp 66) = .tuple #[.int .i64 (j : Int), .int .i64 (b1 : Int)] := hd 30 _ _ rfl rfl rfl
        exact ⟨_, x_extract (.tmp 66) 1 rfl d30 rfl, rfl⟩
      · refine opS_write (j := 0) rfl rfl (by decide) rfl (fun _ _ h => absurd h (by omega)) fun ac w1 hW ho hd => ?_
        have d4 : ac.eval (.tmp 40) = .map (some m) := hd 4 _ _ rfl rfl rfl
        have d31 : ac.eval (.tmp 67) = .int .i64 (b1 : Int) := hd 31 _ _ rfl rfl rfl
        have d28 : ac.eval (.tmp 64) = .int .i64 (i : Int) := hd 28 _ _ rfl rfl rfl
        obtain ⟨o, h1, h2⟩ := run_entryStoreI (P := Try.prog) (T := 41) hW.2 M1.out i
        exact ⟨_, x_estore 41 (.tmp 40) (.tmp 67) (.tmp 64) rfl d4 d31 d28 h1, ⟨hW.1.trans (setBlk_out _ _ _) (Sub.refl _ _), h2⟩, fun _ => trivial, fun q v => facts_free (by simp [free_is, free_tru]) q v⟩
      · refine opS_writeV (j := 1) rfl (by decide) rfl (fun y hy _ => by cases hy; rfl) fun ac w1 hW ho hd => ?_
        have d18 : ac.eval (.tmp 54) = .map (some m) := hd 18 _ _ rfl rfl rfl
        have d27 : ac.eval (.tmp 63) = .int .i64 kj := hd 27 _ _ rfl rfl rfl
        exact ⟨_, w1, x_entry 41 (.tmp 54) (.tmp 63) rfl d18 d27 (run_entryI Try.underlying41 Try.underlying3 hW.2 M2.out), hW, rfl, fun _ _ _ h => h⟩
      · refine opS_same rfl rfl fun L ac w1 hJ hl hc ho hd => ?_
        have d33 : ac.eval (.tmp 68) = .tuple #[.int .i64 v2, .int .i64 (b2 : Int)] := hd 33 _ _ rfl rfl rfl
        exact ⟨_, x_extract (.tmp 68) 1 rfl d33 rfl, rfl⟩
      · refine opS_write (j := 2) rfl rfl (by decide) rfl (fun y hy _ => by cases hy; rfl) fun ac w1 hW ho hd => ?_
        have d18 : ac.eval (.tmp 54) = .map (some m) := hd 18 _ _ rfl rfl rfl
        have d34 : ac.eval (.tmp 69) = .int .i64 (b2 : Int) := hd 34 _ _ rfl rfl rfl
        have d29 : ac.eval (.tmp 65) = .int .i64 (j : Int) := hd 29 _ _ rfl rfl rfl
        obtain ⟨o, h1, h2⟩ := run_entryStoreI (P := Try.prog) (T := 41) hW.2 M2.out j
        exact ⟨_, x_estore 41 (.tmp 54) (.tmp 69) (.tmp 65) rfl d18 d34 d29 h1, ⟨hW.1.trans (setBlk_out _ _ _) (Sub.refl _ _), h2⟩, fun _ => trivial, fun q v => facts_free (by simp [free_is, free_tru]) q v⟩
    · intro L a1 w3 hI hall
      obtain ⟨k, hk, hW1, hW2⟩ := hI.done hall (by simp)
      obtain ⟨k, rfl⟩ : ∃ q, k = q + 3 := ⟨k - 3, by simp at hk; omega⟩
      have Y1 := Lib.hid hW1
      have Y2 := Lib.hid (show MapI w3 m (setE (setE E b1 i) b2 j) from hW2)
      clear hk hW1 hW2 cb cp cm ci cj k
      have l0 : a1.tmps.getD 0 undef = .agg #[.pointer (some ⟨pb, 0, none⟩)] := hI.old 0 rfl
      have l3 : a1.tmps.getD 3 undef = .pointer (some ⟨w.heap.size, 0, none⟩) := hI.old 3 rfl
      have l1 : a1.tmps.getD 1 undef = .int .i64 (i : Int) := hI.old 1 rfl
      have l2 : a1.tmps.getD 2 undef = .int .i64 (j : Int) := hI.old 2 rfl
      have hde : a1.defers = [] := hI.defers
      have hal := act_lit a1 70 hI.size
      clear hI
      simp only [List.range, List.range.loop, List.map_cons, List.map_nil] at hal
      rw [l0, l3, l1, l2, hde] at hal
      generalize a1.tmps.getD 4 undef = t4 at hal
      generalize a1.tmps.getD 5 undef = t5 at hal
      generalize a1.tmps.getD 6 undef = t6 at hal
      generalize a1.tmps.getD 7 undef = t7 at hal
      generalize a1.tmps.getD 8 undef = t8 at hal
      generalize a1.tmps.getD 9 undef = t9 at hal
      generalize a1.tmps.getD 10 undef = t10 at hal
      generalize a1.tmps.getD 11 undef = t11 at hal
      generalize a1.tmps.getD 12 undef = t12 at hal
      generalize a1.tmps.getD 13 undef = t13 at hal
      generalize a1.tmps.getD 14 undef = t14 at hal
      generalize a1.tmps.getD 15 undef = t15 at hal
      generalize a1.tmps.getD 16 undef = t16 at hal
      generalize a1.tmps.getD 17 undef = t17 at hal
      generalize a1.tmps.getD 18 undef = t18 at hal
      generalize a1.tmps.getD 19 undef = t19 at hal
      generalize a1.tmps.getD 20 undef = t20 at hal
      generalize a1.tmps.getD 21 undef = t21 at hal
      generalize a1.tmps.getD 22 undef = t22 at hal
      generalize a1.tmps.getD 23 undef = t23 at hal
      generalize a1.tmps.getD 24 undef = t24 at hal
      generalize a1.tmps.getD 25 undef = t25 at hal
      generalize a1.tmps.getD 26 undef = t26 at hal
      generalize a1.tmps.getD 27 undef = t27 at hal
      generalize a1.tmps.getD 28 undef = t28 at hal
      generalize a1.tmps.getD 29 undef = t29 at hal
      generalize a1.tmps.getD 30 undef = t30 at hal
      generalize a1.tmps.getD 31 undef = t31 at hal
      generalize a1.tmps.getD 32 undef = t32 at hal
      generalize a1.tmps.getD 33 undef = t33 at hal
      generalize a1.tmps.getD 34 undef = t34 at hal
      generalize a1.tmps.getD 35 undef = t35 at hal
      generalize a1.tmps.getD 36 undef = t36 at hal
      generalize a1.tmps.getD 37 undef = t37 at hal
      generalize a1.tmps.getD 38 undef = t38 at hal
      generalize a1.tmps.getD 39 undef = t39 at hal
      generalize a1.tmps.getD 40 undef = t40 at hal
      generalize a1.tmps.getD 41 undef = t41 at hal
      generalize a1.tmps.getD 42 undef = t42 at hal
      generalize a1.tmps.getD 43 undef = t43 at hal
      generalize a1.tmps.getD 44 undef = t44 at hal
      generalize a1.tmps.getD 45 undef = t45 at hal
      generalize a1.tmps.getD 46 undef = t46 at hal
      generalize a1.tmps.getD 47 undef = t47 at hal
      generalize a1.tmps.getD 48 undef = t48 at hal
      generalize a1.tmps.getD 49 undef = t49 at hal
      generalize a1.tmps.getD 50 undef = t50 at hal
      generalize a1.tmps.getD 51 undef = t51 at hal
      generalize a1.tmps.getD 52 undef = t52 at hal
      generalize a1.tmps.getD 53 undef = t53 at hal
      generalize a1.tmps.getD 54 undef = t54 at hal
      generalize a1.tmps.getD 55 undef = t55 at hal
      generalize a1.tmps.getD 56 undef = t56 at hal
      generalize a1.tmps.getD 57 undef = t57 at hal
      generalize a1.tmps.getD 58 undef = t58 at hal
      generalize a1.tmps.getD 59 undef = t59 at hal
      generalize a1.tmps.getD 60 undef = t60 at hal
      generalize a1.tmps.getD 61 undef = t61 at hal
      generalize a1.tmps.getD 62 undef = t62 at hal
      generalize a1.tmps.getD 63 undef = t63 at hal
      generalize a1.tmps.getD 64 undef = t64 at hal
      generalize a1.tmps.getD 65 undef = t65 at hal
      generalize a1.tmps.getD 66 undef = t66 at hal
      generalize a1.tmps.getD 67 undef = t67 at hal
      generalize a1.tmps.getD 68 undef = t68 at hal
      generalize a1.tmps.getD 69 undef = t69 at hal
      clear l0 l3 l1 l2 hde
      subst hal
      go_wp2_with fail
      go_end0
      refine ⟨rfl, _, ⟨pb, some ⟨g, 0, none⟩, c, some m, rfl, rfl, ?_⟩, Sub.refl _ _, ?_⟩
      · refine ⟨?_, by rw [Hp.swp_length]; exact HBD.out, own_of_rowB (X2.out.keep (Y1.out.block g (by have := G0.size; omega) (fun e => hmg e.symm))), fun e => hgp (by simpa using e), ⟨_, Y2.out, LE.out⟩⟩
        rw [Hp.swp_length, Y1.out.block pb (by have := G0.size; omega) (fun e => hmpb e.symm), p2]
        exact HT.out
      · refine ⟨by rw [Y1.out.os, X1.out.os, G0.os], by rw [Y1.out.tape, X1.out.tape, G0.tape], by rw [Y1.out.output, X1.out.output, G0.output], by have := G0.size; have := Y1.out.size; omega, fun k hk hn => ?_⟩
        have q1 : ¬ k = m := fun e => hn (.inr (.inr (by rw [e])))
        have q2 : ¬ k = g := fun e => hn (.inr (.inl (by rw [e]; rfl)))
        rw [Y1.out.block k (by have := G0.size; omega) q1, X1.out.block k (by have := G0.size; omega) q2, G0.block k hk]
end Go.Proofs.Ytpdhgjhcjnpkeaa
