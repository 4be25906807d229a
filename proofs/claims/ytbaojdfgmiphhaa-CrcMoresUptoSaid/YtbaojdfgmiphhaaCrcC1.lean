import Derived.Test.YtbaojdfgmiphhaaCrcP
import Derived.Test.YtbaojdfgmiphhaaCrcR
import Derived.Outline
import Derived.Lib.Hide
import Derived.Deep.QuietTactic
import Derived.BigQuiet
namespace Go.Proofs.Ytbaojdfgmiphhaa
open Go Go.RowKit
set_option linter.unusedVariables false
theorem ret_i {k : IntKind} {a b : Int} (h : a = b) : Ending.returned (.int k a) = .returned (.int k b) := by rw [h]
theorem step_c (c : Nat) (w : World) (hc : c < 4294967296) :
    Calls Try.prog 20 #[.int .u32 (c : Int)] w fun e w' => e = .returned (.int .u32 ((Crc.sh c : Nat) : Int)) ∧ w = w' := by
  rcases Crc.mod2_cases c with h | h
  · have h1 := and1_c c c hc rfl
    rw [h] at h1
    go_enter Try.func20, Try.ntmps20
    go_wp2_with fail
    go_ret
    refine ⟨ret_i ?_, rfl⟩
    unfold Crc.sh
    rw [h]
    exact xor_c (c / 2) 0 _ _ (by omega) (by omega) (by omega) rfl
  · have h1 := and1_c c c hc rfl
    rw [h] at h1
    go_enter Try.func20, Try.ntmps20
    go_wp2_with fail
    go_ret
    refine ⟨ret_i ?_, rfl⟩
    unfold Crc.sh
    rw [h]
    exact xor_c (c / 2) Crc.poly _ _ (by omega) (by decide) (by omega) rfl
/-- An array of 32 numbers. -/
def arr (f : Nat → Nat) : Array Value := ((List.range 32).map fun i => Value.int .u32 (f i : Int)).toArray
theorem arr_size (f : Nat → Nat) : (arr f).size = 32 := by simp [arr]
theorem arr_get (f : Nat → Nat) {i : Nat} (h : i < 32) : (arr f)[i]? = some (.int .u32 (f i : Int)) := by simp [arr, h]
theorem arr_congr {f g : Nat → Nat} (h : ∀ i, i < 32 → f i = g i) : arr f = arr g := by
  unfold arr
  congr 1
  apply List.map_congr_left
  intro i hi
  rw [h i (by simpa using hi)]
theorem arr_set (f : Nat → Nat) (i v : Nat) : (arr f).setIfInBounds i (.int .u32 (v : Int)) = arr (fun j => if j = i then v else f j) := by
  apply Array.toList_inj.1
  apply List.ext_getElem?
  intro j
  simp only [arr, Array.toList_setIfInBounds, List.getElem?_set, List.getElem?_map, List.length_map, List.length_range]
  by_cases hj : i = j
  · subst hj
    by_cases hlt : i < 32
    · simp [hlt]
    · simp [hlt]
  · by_cases hlt : j < 32
    · simp [hlt, hj, Ne.symm hj]
    · simp [hlt, hj]
end Go.Proofs.Ytbaojdfgmiphhaa
