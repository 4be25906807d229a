import Derived.Test.YtmbhdfgopkbpgaaGives
import Derived.OpenShut
namespace Go.Proofs.Ytmbhdfgopkbpgaa
open Go Go.RowKit

/-- What a slice of bytes that came in is known to be. -/
def ByteIn (w : World) (a : Option Addr) (len cap : Nat) (zs : List Int) : Prop :=
  BytesOf zs (.slice a zs.length cap) w ∧ len = zs.length ∧ zs.length + 4096 ≤ 140737488355328 ∧ ∀ x ∈ zs, 0 ≤ x ∧ x < 256
theorem byteIn_nil (w : World) : ByteIn w none 0 0 [] := ⟨⟨none, 0, rfl, Nat.le_refl _, Cells.nil _ _⟩, rfl, by simp, by simp⟩
theorem byteIn_mk {w : World} {x : Addr} {len cap : Nat} {zs : List Int} (hl : len ≤ cap) (hz : zs.length = cap) (hcell : ∀ i, i < zs.length → w.cell? (x.add i) = some (.int .u8 (zs.getD i 0))) (hwz : ∀ n ∈ zs, (Lit.int .u8 n).wf = true) (hr : cap ≤ 140737488351232) :
    ByteIn w (some x) len cap (zs.take len) := by
  have hlen : (zs.take len).length = len := by rw [List.length_take]; omega
  refine ⟨⟨some x, cap, by rw [u8s_length], by rw [u8s_length, hlen]; exact hl, fun hne => ?_⟩, hlen.symm, by omega, fun y hy => ?_⟩
  · have h0 : 0 < len := by
      rcases Nat.eq_zero_or_pos len with h | h
      · subst h; simp [u8s] at hne
      · exact h
    obtain ⟨b, off, spot⟩ := x
    have hc0 := hcell 0 (by omega)
    have hs : spot = none := by simpa [Addr.add] using World.cell?_spot hc0
    subst hs
    refine ⟨b, off, rfl, by simpa [add_flat] using World.block_lt_of_cell? w _ hc0, fun j u hu => ?_⟩
    have hj : j < len := by
      rcases Nat.lt_or_ge j len with h | h
      · exact h
      · rw [List.getElem?_eq_none (by rw [u8s_length, hlen]; exact h)] at hu; cases hu
    have := hcell j (by omega)
    rw [add_flat] at this
    rw [this]
    simp [u8s, hj] at hu
    obtain ⟨z, hz', rfl⟩ := hu
    simp [List.getD, hz']
  · have := bounds_u8 (hwz y (List.mem_of_mem_take hy))
    omega
end Go.Proofs.Ytmbhdfgopkbpgaa
