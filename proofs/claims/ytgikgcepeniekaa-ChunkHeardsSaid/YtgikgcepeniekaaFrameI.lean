import Derived.Test.YtgikgcepeniekaaSteady
import Derived.OpenShut
namespace Go.Proofs.Ytgikgcepeniekaa
open Go Go.RowKit

/-- Integers of kind k as the model keeps them. -/
def ints (k : IntKind) (zs : List Int) : List Value := zs.map (Value.int k)
/-- What a slice of integers that came in is known to be; 'by_': the bytes of an element. -/
def IntsIn (k : IntKind) (by_ : Nat) (w : World) (a : Option Addr) (len cap : Nat) (zs : List Int) : Prop :=
  IsS w (.slice a zs.length cap) (ints k zs) ∧ len = zs.length ∧ zs.length * by_ + 4096 ≤ 140737488355328 ∧ ∀ x ∈ zs, (Lit.int k x).wf = true
theorem ints_length (k : IntKind) (zs : List Int) : (ints k zs).length = zs.length := by simp [ints]
theorem intsIn_nil (k : IntKind) (by_ : Nat) (w : World) : IntsIn k by_ w none 0 0 [] := ⟨⟨none, 0, rfl, Nat.le_refl _, Cells.nil _ _⟩, rfl, by simp, by simp⟩
theorem intsIn_mk {k : IntKind} {by_ : Nat} {w : World} {x : Addr} {len cap : Nat} {zs : List Int} (hl : len ≤ cap) (hz : zs.length = cap) (hcell : ∀ i, i < zs.length → w.cell? (x.add i) = some (.int k (zs.getD i 0))) (hwz : ∀ n ∈ zs, (Lit.int k n).wf = true) (hr : cap * by_ ≤ 140737488351232) :
    IntsIn k by_ w (some x) len cap (zs.take len) := by
  have hlen : (zs.take len).length = len := by rw [List.length_take]; omega
  have hle : len * by_ ≤ cap * by_ := Nat.mul_le_mul_right _ hl
  refine ⟨⟨some x, cap, by rw [ints_length], by rw [ints_length, hlen]; exact hl, fun hne => ?_⟩, hlen.symm, by rw [hlen]; omega, fun y hy => hwz y (List.mem_of_mem_take hy)⟩
  have h0 : 0 < len := by
    rcases Nat.eq_zero_or_pos len with h | h
    · subst h; simp [ints] at hne
    · exact h
  obtain ⟨b, off, spot⟩ := x
  have hc0 := hcell 0 (by omega)
  have hs : spot = none := by simpa [Addr.add] using World.cell?_spot hc0
  subst hs
  refine ⟨b, off, rfl, by simpa [add_flat] using World.block_lt_of_cell? w _ hc0, fun j u hu => ?_⟩
  have hj : j < len := by
    rcases Nat.lt_or_ge j len with h | h
    · exact h
    · rw [List.getElem?_eq_none (by rw [ints_length, hlen]; exact h)] at hu; cases hu
  have := hcell j (by omega)
  rw [add_flat] at this
  rw [this]
  simp [ints, hj] at hu
  obtain ⟨z, hz', rfl⟩ := hu
  simp [List.getD, hz']
end Go.Proofs.Ytgikgcepeniekaa
