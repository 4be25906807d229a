import Derived.Test.YtbaojdfgmiphhaaCrcC2
namespace Go.Proofs.Ytbaojdfgmiphhaa
open Go Go.RowKit
set_option linter.unusedVariables false
theorem arr_zero : (#[Value.int .u32 0, Value.int .u32 0, Value.int .u32 0, Value.int .u32 0, Value.int .u32 0, Value.int .u32 0, Value.int .u32 0, Value.int .u32 0,
  Value.int .u32 0, Value.int .u32 0, Value.int .u32 0, Value.int .u32 0, Value.int .u32 0, Value.int .u32 0, Value.int .u32 0, Value.int .u32 0,
  Value.int .u32 0, Value.int .u32 0, Value.int .u32 0, Value.int .u32 0, Value.int .u32 0, Value.int .u32 0, Value.int .u32 0, Value.int .u32 0,
  Value.int .u32 0, Value.int .u32 0, Value.int .u32 0, Value.int .u32 0, Value.int .u32 0, Value.int .u32 0, Value.int .u32 0, Value.int .u32 0] : Array Value) = arr (fun _ => 0) := by rfl
theorem arr_one (f : Nat → Nat) : (arr f).all (·.oneCell') = true := by
  rw [Array.all_eq_true_iff_forall_mem]
  intro u hu
  simp [arr] at hu
  obtain ⟨x, _, rfl⟩ := hu
  rfl
theorem below_setRow {B : Nat} {a w : World} (h : Below B a w) {g : Nat} (hg : B ≤ g) (cs : Array Value) : Below B a (w.setRow g cs) :=
  ⟨h.os, h.tape, h.output, by rw [size_setRow]; exact h.size, fun i hi => (setRow_other w g i cs (by omega)).trans (h.block i hi)⟩
/-- A block of the call's own that holds an array. -/
structure Own37 (w0 w : World) (f : Nat → Nat) : Prop where
  up : Up w0 w
  res : w.heap[w0.heap.size]? = some (.cells (arr fun _ => 0) 37 (0, 0))
  arr : w.heap[w0.heap.size + 1]? = some (.cells (arr f) 37 (0, 0))
theorem own37_start (w : World) : Own37 w ((w.alloc (.cells (Go.Proofs.Ytbaojdfgmiphhaa.arr fun _ => 0) 37)).alloc (.cells (Go.Proofs.Ytbaojdfgmiphhaa.arr fun _ => 0) 37)) (fun _ => 0) :=
  ⟨((Below.refl _ _).alloc (Nat.le_refl _) _).alloc (by simp) _, heap_alloc2_old _ _ _, heap_alloc2_new _ _ _⟩
theorem Own37.up' {w0 w w' : World} {f : Nat → Nat} (h : Own37 w0 w f) (hu : Up w w') : Own37 w0 w' f := by
  have h2 := (Array.getElem?_eq_some_iff.1 h.arr).1
  exact ⟨h.up.trans hu, (hu.block _ (by omega)).trans h.res, (hu.block _ h2).trans h.arr⟩
theorem Own37.set {w0 w : World} {f : Nat → Nat} (h : Own37 w0 w f) (i v : Nat) : Own37 w0 (w.setCell ⟨w0.heap.size + 1, i, none⟩ (.int .u32 (v : Int))) (fun j => if j = i then v else f j) := by
  refine ⟨h.up.setCell (by simp) _, ?_, ?_⟩
  · rw [heap_setCell_other _ _ _ _ (by simp)]; exact h.res
  · rw [heap_setCell_same _ _ _ _ _ _ h.arr, arr_set]
theorem Own37.congr {w0 w : World} {f g : Nat → Nat} (h : Own37 w0 w f) (e : ∀ i, i < 32 → f i = g i) : Own37 w0 w g := ⟨h.up, h.res, by rw [← arr_congr e]; exact h.arr⟩
theorem Own37.cell {w0 w : World} {f : Nat → Nat} (h : Own37 w0 w f) {i : Nat} (hi : i < 32) : w.cell? ⟨w0.heap.size + 1, i, none⟩ = some (.int .u32 (f i : Int)) := by
  rw [cell_of_row _ _ _ _ _ _ h.arr, arr_get _ hi]
theorem Own37.free {w0 w : World} {f : Nat → Nat} (h : Own37 w0 w f) (i : Nat) : w.frozen? ⟨w0.heap.size + 1, i, none⟩ = false := frozen_of_row _ _ _ _ _ h.arr
set_option maxHeartbeats 400000 in
theorem through_c (n : Nat) (w : World) (h1 : 1 ≤ n) (hn : n ≤ 32) :
    Calls Try.prog 16 #[.int .i64 (n : Int)] w fun e w' => e = .returned (.agg (arr (Crc.col n))) ∧ Up w w' := by
  go_enter Try.func16, Try.ntmps16
  go_wp2_with fail
  simp only [arr_zero]
  generalize hwA : (w.alloc (.cells (arr fun _ => 0) 37)).alloc (.cells (arr fun _ => 0) 37) = wA
  have HS : Hid (Own37 w wA (fun _ => 0)) := by rw [← hwA]; exact own37_start w
  clear hwA
  go_loopw [4, 8] (fun x i wr => ∃ k : Nat, k ≤ n ∧ i = .int .i64 k ∧ x = .int .u32 ((Crc.shN k Crc.poly : Nat) : Int) ∧ Own37 w wr (fun j => if n - k ≤ j ∧ j < n then Crc.col n j else 0)) (fun _ i _ => n - (intOf i).toNat)
  case atStart => exact ⟨0, by omega, rfl, rfl, HS.out.congr fun i hi => by rw [if_neg (by omega)]⟩
  case round =>
    obtain ⟨k, hk, rfl, rfl, ho⟩ := hrel
    by_cases hlt : k < n
    · have hcell := ho.cell (i := n - 1 - k) (by omega)
      have hfree := ho.free (n - 1 - k)
      have HO := Lib.hid ho
      clear ho
      have hp : Crc.shN k Crc.poly < 4294967296 := Crc.shN_lt (by decide)
      go_wp2_with fail
      refine (step_c _ _ hp).mono ?_
      rintro e w1 ⟨rfl, rfl⟩
      go_wp2_with fail
      go_roundw
      case rel =>
        refine ⟨k + 1, by omega, by go_num, by rw [Crc.shN_succ], (HO.out.set _ _).congr fun i hi => ?_⟩
        by_cases e : i = n - 1 - k
        · subst e
          rw [if_pos rfl, if_pos (by omega), Crc.col_last n k hlt]
        · rw [if_neg e]
          by_cases h2 : n - k ≤ i ∧ i < n
          · rw [if_pos h2, if_pos (by omega)]
          · rw [if_neg h2, if_neg (by omega)]
      case measure => simp [intOf]; omega
    · obtain rfl : k = n := by omega
      have HO := Lib.hid (ho.congr (g := fun j => if j < k + 0 then Crc.col k j else 0) fun i hi => by
        by_cases h2 : i < k
        · rw [if_pos (by omega), if_pos (by omega)]
        · rw [if_neg (by omega), if_neg (by omega)])
      clear ho hlt
      go_wp2_with fail
      obtain ⟨wo, rfl⟩ : ∃ wo : World, wo = wr := ⟨_, rfl⟩
      go_loopw [6, 22] (fun _ i wr => ∃ m : Nat, m ≤ 32 - k ∧ i = .int .i64 m ∧ Own37 w wr (fun j => if j < k + m then Crc.col k j else 0)) (fun _ i _ => 32 - k - (intOf i).toNat)
      case atStart => exact ⟨0, by omega, rfl, HO.out⟩
      case round =>
        obtain ⟨m, hm, rfl, ho⟩ := hrel
        by_cases hlt : m < 32 - k
        · have hcell := ho.cell (i := k + m) (by omega)
          have hfree := ho.free (k + m)
          have HO := Lib.hid ho
          clear ho
          go_wp2_with fail
          go_roundw
          case rel =>
            have e1 : (2 : Int) ^ m % 4294967296 = ((2 ^ m : Nat) : Int) := by
              have h2 : 2 ^ m < 2 ^ 32 := Nat.pow_lt_pow_right (by omega) (by omega)
              have h3 : ((2 ^ m : Nat) : Int) < 4294967296 := by
                have : (2 : Nat) ^ 32 = 4294967296 := by decide
                omega
              have h4 : ((2 ^ m : Nat) : Int) = (2 : Int) ^ m := by simp
              rw [← h4]
              exact Int.emod_eq_of_lt (Int.natCast_nonneg _) h3
            refine ⟨m + 1, by omega, by go_num, ?_⟩
            rw [e1]
            refine (HO.out.set _ _).congr fun i hi => ?_
            by_cases e : i = k + m
            · subst e
              rw [if_pos rfl, if_pos (by omega), Crc.col_move]
            · rw [if_neg e]
              by_cases h2 : i < k + m
              · rw [if_pos h2, if_pos (by omega)]
              · rw [if_neg h2, if_neg (by omega)]
          case measure => simp [intOf]; omega
        · obtain rfl : m = 32 - k := by omega
          have HO := Lib.hid (ho.congr (g := Crc.col k) fun i hi => by rw [if_pos (by omega)])
          clear ho hlt
          have harr := HO.out.arr
          have hres := HO.out.res
          go_wp2_with (first | (refine wpList_load_row rfl 37 _ rfl _ rfl _ _ _ _ harr Try.underlying37 rfl (by rw [arr_size]; kernel_rfl) ?_) | (refine wpList_store_row rfl 37 _ _ rfl _ (arr (Crc.col k)) rfl rfl 37 _ hres (by rw [arr_size]; kernel_rfl) (by rw [arr_size, arr_size]) (arr_one _) ?_))
          exact bodyPost_ret (v := .agg (arr (Crc.col k))) (results_cell_row rfl _ _ _ 37 _ (0, 0) _ rfl (setRow_heap _ _ _ _ _ _ HO.out.res) Try.underlying37 rfl (by rw [arr_size]; kernel_rfl)) rfl ⟨rfl, below_setRow HO.out.up (Nat.le_refl _) _⟩
end Go.Proofs.Ytbaojdfgmiphhaa
