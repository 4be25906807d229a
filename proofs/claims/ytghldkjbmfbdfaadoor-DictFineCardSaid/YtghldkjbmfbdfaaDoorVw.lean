import Derived.Test.YtghldkjbmfbdfaaDoorAvP1
import Derived.Test.YtghldkjbmfbdfaaDoorUt
import Derived.BigQuiet
import Derived.Deep.DeepCutAuto
namespace Go.Proofs.YtghldkjbmfbdfaaDoor
open Go Go.RowKit
set_option linter.unusedVariables false
set_option linter.unusedSimpArgs false
/-! unicode/utf8's word. -/
theorem wrap_sm {x : Int} (h : 0 ≤ x) (h2 : x < 18446744073709551616) : IntKind.u64.wrap x = x := by rw [IntKind.wrap_u64, Int.emod_eq_of_lt h h2]
theorem or_sh {A : Nat} {b : Int} {k p : Nat} (hA : A < 18446744073709551616) (hb : 0 ≤ b ∧ b < 256) (hp : 2 ^ k = p) (hk : p * 256 ≤ 18446744073709551616) :
    bits .or .u64 (A : Int) (b * (p : Int)) = ((A ||| b.toNat <<< k : Nat) : Int) ∧ (A ||| b.toNat <<< k) < 18446744073709551616 := by
  obtain ⟨n, rfl⟩ := Int.eq_ofNat_of_zero_le hb.1
  have hn : n < 256 := by omega
  have h1 : n * p < 18446744073709551616 := Nat.lt_of_lt_of_le (Nat.lt_of_lt_of_le (Nat.mul_lt_mul_of_lt_of_le hn (Nat.le_refl p) (by subst hp; exact Nat.two_pow_pos k)) (by rw [Nat.mul_comm]; exact Nat.le_refl _)) hk
  rw [show ((n : Int) * (p : Int)) = ((n * p : Nat) : Int) by simp, u64_or_nat A (n * p) hA h1]
  have e : ((n : Int).toNat) <<< k = n * p := by rw [Nat.shiftLeft_eq, hp]; simp
  rw [e]
  exact ⟨rfl, by have := Nat.or_lt_two_pow (show A < 2 ^ 64 by omega) (show n * p < 2 ^ 64 by omega); omega⟩
theorem or_all {f : Nat → Int} {o : Nat} (hf : ∀ j, 0 ≤ f j ∧ f j < 256) :
    bits .or .u64 (bits .or .u64 (bits .or .u64 (bits .or .u64 (bits .or .u64 (bits .or .u64 (bits .or .u64 (f o) (f (o + 1) * 256)) (f (o + 2) * 65536)) (f (o + 3) * 16777216)) (f (o + 4) * 4294967296)) (f (o + 5) * 1099511627776)) (f (o + 6) * 281474976710656)) (f (o + 7) * 72057594037927936) = (Ut.word f o : Nat) ∧ Ut.word f o < 18446744073709551616 := by
  have h0 : ((f o).toNat : Int) = f o := Int.toNat_of_nonneg (hf o).1
  obtain ⟨e1, l1⟩ := or_sh (A := (f o).toNat) (k := 8) (p := 256) (by have := hf o; omega) (hf (o + 1)) (by decide) (by decide)
  rw [h0] at e1
  obtain ⟨e2, l2⟩ := or_sh (k := 16) (p := 65536) l1 (hf (o + 2)) (by decide) (by decide)
  obtain ⟨e3, l3⟩ := or_sh (k := 24) (p := 16777216) l2 (hf (o + 3)) (by decide) (by decide)
  obtain ⟨e4, l4⟩ := or_sh (k := 32) (p := 4294967296) l3 (hf (o + 4)) (by decide) (by decide)
  obtain ⟨e5, l5⟩ := or_sh (k := 40) (p := 1099511627776) l4 (hf (o + 5)) (by decide) (by decide)
  obtain ⟨e6, l6⟩ := or_sh (k := 48) (p := 281474976710656) l5 (hf (o + 6)) (by decide) (by decide)
  obtain ⟨e7, l7⟩ := or_sh (k := 56) (p := 72057594037927936) l6 (hf (o + 7)) (by decide) (by decide)
  refine ⟨?_, l7⟩
  rw [show ((256 : Nat) : Int) = 256 from rfl] at e1
  rw [show ((65536 : Nat) : Int) = 65536 from rfl] at e2
  rw [show ((16777216 : Nat) : Int) = 16777216 from rfl] at e3
  rw [show ((4294967296 : Nat) : Int) = 4294967296 from rfl] at e4
  rw [show ((1099511627776 : Nat) : Int) = 1099511627776 from rfl] at e5
  rw [show ((281474976710656 : Nat) : Int) = 281474976710656 from rfl] at e6
  rw [show ((72057594037927936 : Nat) : Int) = 72057594037927936 from rfl] at e7
  rw [e1, e2, e3, e4, e5, e6, e7]
  rfl
def byt (xs : List Int) (j : Nat) : Int := xs[j]?.getD 0
theorem byt_byt {xs : List Int} (h : Byt xs) (j : Nat) : 0 ≤ byt xs j ∧ byt xs j < 256 := by
  unfold byt
  cases e : xs[j]? with
  | none => exact ⟨Int.le_refl _, by decide⟩
  | some x => exact h x (List.mem_of_getElem? e)
theorem byt_cell {w : World} {g o m c : Nat} {xs : List Int} (h : InB w (some ⟨g, o, none⟩) m c xs) {j : Nat} (hj : j < m) : w.cell? ⟨g, o + j, none⟩ = some (.int .u8 (byt xs j)) := by
  obtain ⟨g', o', e, -, hc⟩ := h.cells (fun e => by have h1 := congrArg List.length e; rw [ints_length, h.len, List.length_nil] at h1; omega)
  cases e
  refine hc j _ ?_
  have hlt : j < xs.length := by rw [h.len]; exact hj
  simp [ints, byt, List.getElem?_eq_getElem hlt]
set_option maxRecDepth 100000 in
set_option maxHeartbeats 4000000 in
theorem word_at (g o m c : Nat) (f : Nat → Int) (w : World) (hm : 8 ≤ m) (hf : ∀ j, 0 ≤ f j ∧ f j < 256) (hc : ∀ j, j < 8 → w.cell? ⟨g, o + j, none⟩ = some (.int .u8 (f j))) :
    Calls Tryd.prog 51 #[.slice (some ⟨g, o, none⟩) m c] w fun e w' => e = .returned (.int .u64 (Ut.word f 0 : Nat)) ∧ ∃ q, w' = w.drewN q := by
  have hall := or_all (f := f) (o := 0) hf
  simp only [Nat.zero_add] at hall
  have h0 : w.cell? ⟨g, o, none⟩ = some (.int .u8 (f 0)) := hc 0 (by omega)
  have h1 := hc 1 (by omega)
  have h2 := hc 2 (by omega)
  have h3 := hc 3 (by omega)
  have h4 := hc 4 (by omega)
  have h5 := hc 5 (by omega)
  have h6 := hc 6 (by omega)
  have h7 := hc 7 (by omega)
  have B0 := hf 0
  have B1 := hf 1
  have B2 := hf 2
  have B3 := hf 3
  have B4 := hf 4
  have B5 := hf 5
  have B6 := hf 6
  have B7 := hf 7
  clear hc hf
  generalize hW : Ut.word f 0 = W at hall ⊢
  clear hW
  generalize f 0 = b0 at *
  generalize f 1 = b1 at *
  generalize f 2 = b2 at *
  generalize f 3 = b3 at *
  generalize f 4 = b4 at *
  generalize f 5 = b5 at *
  generalize f 6 = b6 at *
  generalize f 7 = b7 at *
  replace hall := Lib.hid hall
  go_enter Tryd.func51, Tryd.ntmps51
  go_upto_region 2 with (fail)
  go_quiet (fail)
  rw [hall.out.1]
  go_wp2_with fail
  go_ret
  exact ⟨rfl, _, rfl⟩
theorem word_any (A : Option Addr) (m c : Nat) (xs : List Int) (w : World) (hin : InB w A m c xs) (h8 : 8 ≤ m) :
    Calls Tryd.prog 51 #[.slice A m c] w fun e w' => e = .returned (.int .u64 (Ut.word (byt xs) 0 : Nat)) ∧ ∃ q, w' = w.drewN q := by
  obtain ⟨g, o, rfl, -, -⟩ := hin.cells (fun e => by have h1 := congrArg List.length e; rw [ints_length, hin.len, List.length_nil] at h1; omega)
  exact word_at g o m c (byt xs) w h8 (byt_byt hin.byt) fun j hj => byt_cell hin (by omega)
end Go.Proofs.YtghldkjbmfbdfaaDoor
