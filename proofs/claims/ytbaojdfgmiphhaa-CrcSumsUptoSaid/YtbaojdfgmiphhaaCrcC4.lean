import Derived.Test.YtbaojdfgmiphhaaCrcC3
namespace Go.Proofs.Ytbaojdfgmiphhaa
open Go Go.RowKit
set_option linter.unusedVariables false
set_option maxHeartbeats 400000 in
theorem twice_c (n g : Nat) (w : World) (hg : w.heap[g]? = some (.cells (arr (Crc.col n)) 37 (0, 0))) :
    Calls Try.prog 19 #[.pointer (some ⟨g, 0, none⟩)] w fun e w' => e = .returned (.agg (arr (Crc.col (2 * n)))) ∧ Up w w' := by
  have hlt : g < w.heap.size := (Array.getElem?_eq_some_iff.1 hg).1
  have HB : Hid (∀ wr, Up w wr → wr.heap[g]? = some (.cells (arr (Crc.col n)) 37 (0, 0))) := fun wr hu => (hu.block g hlt).trans hg
  clear hg
  go_enter Try.func19, Try.ntmps19
  go_wp2_with fail
  simp only [arr_zero]
  generalize hwA : (w.alloc (.cells (arr fun _ => 0) 37)).alloc (.cells (arr fun _ => 0) 37) = wA
  have HS : Hid (Own37 w wA (fun _ => 0)) := by rw [← hwA]; exact own37_start w
  clear hwA
  go_loopw [5] (fun i wr => ∃ k : Nat, k ≤ 32 ∧ i = .int .i64 k ∧ Own37 w wr (fun j => if j < k then Crc.col (2 * n) j else 0)) (fun i _ => 32 - (intOf i).toNat)
  case atStart => exact ⟨0, by omega, rfl, HS.out.congr fun i hi => by rw [if_neg (by omega)]⟩
  case round =>
    obtain ⟨k, hk, rfl, ho⟩ := hrel
    by_cases hlt : k < 32
    · have HO := Lib.hid ho
      clear ho
      have hcl := Crc.col_lt (n := n) hlt
      have hcell : wr.cell? ⟨g, k, none⟩ = some (.int .u32 ((Crc.col n k : Nat) : Int)) := by
        rw [cell_of_row _ _ _ _ _ _ (HB.out wr HO.out.up), arr_get _ hlt]
      go_wp2_with fail
      refine (of_c n _ g wr hcl (HB.out wr HO.out.up)).mono ?_
      rintro e w1 ⟨rfl, hu1⟩
      have HO1 := Lib.hid (HO.out.up' hu1)
      clear hu1 hcell HO
      rw [Crc.col_twice]
      have hcell := HO1.out.cell hlt
      have hfree := HO1.out.free k
      go_wp2_with fail
      go_roundw
      case rel =>
        refine ⟨k + 1, by omega, by go_num, (HO1.out.set _ _).congr fun i hi => ?_⟩
        by_cases e : i = k
        · subst e
          rw [if_pos rfl, if_pos (by omega)]
        · rw [if_neg e]
          by_cases h2 : i < k
          · rw [if_pos h2, if_pos (by omega)]
          · rw [if_neg h2, if_neg (by omega)]
      case measure => simp [intOf]; omega
    · obtain rfl : k = 32 := by omega
      have HO := Lib.hid (ho.congr (g := Crc.col (2 * n)) fun i hi => by rw [if_pos (by omega)])
      clear ho hlt
      have harr := HO.out.arr
      have hres := HO.out.res
      go_wp2_with (first | (refine wpList_load_row rfl 37 _ rfl _ rfl _ _ _ _ harr Try.underlying37 rfl (by rw [arr_size]; kernel_rfl) ?_) | (refine wpList_store_row rfl 37 _ _ rfl _ (arr (Crc.col (2 * n))) rfl rfl 37 _ hres (by rw [arr_size]; kernel_rfl) (by rw [arr_size, arr_size]) (arr_one _) ?_))
      exact bodyPost_ret (v := .agg (arr (Crc.col (2 * n)))) (results_cell_row rfl _ _ _ 37 _ (0, 0) _ rfl (setRow_heap _ _ _ _ _ _ HO.out.res) Try.underlying37 rfl (by rw [arr_size]; kernel_rfl)) rfl ⟨rfl, below_setRow HO.out.up (Nat.le_refl _) _⟩
end Go.Proofs.Ytbaojdfgmiphhaa
