import Derived.Test.YthncpkjnalmpkaaWRef
import Derived.Test.YthncpkjnalmpkaaWireC
import Derived.Test.YthncpkjnalmpkaaCk0
import Derived.Test.YthncpkjnalmpkaaBytes
import Derived.Lib.Bytes
namespace Go.Proofs.Ythncpkjnalmpkaa
open Go Go.RowKit
set_option linter.unusedVariables false
set_option linter.unusedSimpArgs false
/-! The reference's SameChunk, SameHello, SamePiece. -/
theorem conv_up {A : Option Addr} {n c : Nat} {xs : List Int} {w w' : World} (h : InB w A n c xs) (hu : Up w w') : (convert 26 9 (.slice A n c)).run Try.prog w' = .ok (.string (strOfNums xs)) w' := conv_I (P := Try.prog) Try.underlying26 Try.underlying5 Try.underlying9 (h.up hu).isI
theorem map_u8 : ∀ {xs ys : List Int}, Byt xs → Byt ys → xs.map (fun n => UInt8.ofNat n.toNat) = ys.map (fun n => UInt8.ofNat n.toNat) → xs = ys
  | [], [], _, _, _ => rfl
  | [], _ :: _, _, _, h => by simp at h
  | _ :: _, [], _, _, h => by simp at h
  | x :: xs, y :: ys, hx, hy, h => by
    simp only [List.map_cons, List.cons.injEq] at h
    have h1 := hx x (by simp)
    have h2 := hy y (by simp)
    have h3 := congrArg UInt8.toNat h.1
    simp only [UInt8.toNat_ofNat'] at h3
    have h4 : x = y := by omega
    rw [h4, map_u8 (fun z hz => hx z (by simp [hz])) (fun z hz => hy z (by simp [hz])) h.2]
theorem str_eq {xs ys : List Int} (hx : Byt xs) (hy : Byt ys) : ((strOfNums xs).toList == (strOfNums ys).toList) = decide (xs = ys) := by
  by_cases h : xs = ys
  · subst h; simp
  · rw [decide_eq_false h, beq_eq_false_iff_ne]
    intro e
    rw [Lib.strOfNums_toList, Lib.strOfNums_toList] at e
    exact h (map_u8 hx hy e)
def RetB (b : Bool) (w : World) (e : Ending) (w' : World) : Prop := e = .returned (.bool b) ∧ Hid (Up w w')
end Go.Proofs.Ythncpkjnalmpkaa
