import Derived.Test.YtahpejcejbgcpaaBytes
import Derived.Test.YtahpejcejbgcpaaFineM
import Derived.Laws.BytesArg
import Derived.Laws.BytesString
namespace Go.Proofs.Ytahpejcejbgcpaa
open Go Go.RowKit
set_option linter.unusedVariables false
theorem conv_I {P : Program} {T E S : TypeId} (hT : P.underlying T = some (.slice E)) (hE : P.underlying E = some (.int .u8)) (hS : P.underlying S = some .string) {xs : List Int} {v : Value} {w : World} (h : IsI .u8 xs v w) : (convert T S v).run P w = .ok (.string (strOfNums xs)) w := by
  obtain ⟨A, c, rfl, hc, hx⟩ := h
  rw [ints_length]
  by_cases hn : xs = []
  · subst hn
    cases A with
    | none => exact run_convert_bytes_nil w T E hT hE _ _ S hS
    | some a =>
      rw [run_convert_bytes_string w T S E _ _ c hT hE hS]
      have h0 : (loadCells a 0).run P w = .ok #[] w := by simpa using run_loadCells_list (P := P) w a [] (by simp)
      exact run_bytesToString w a 0 c [] (by simpa using h0)
  · obtain ⟨b, o, rfl, hlt, hcl⟩ := hx (by simpa [ints] using hn)
    refine run_convert_bytes_arg w T E hT hE b o _ c xs rfl (fun i hi => ?_) S hS
    refine hcl i _ ?_
    simp [ints, List.getD, hi]
theorem InB.isI {w : World} {A : Option Addr} {n c : Nat} {xs : List Int} (h : InB w A n c xs) : IsI .u8 xs (.slice A n c) w := ⟨A, c, by rw [ints_length, h.len], by rw [ints_length, h.len]; exact h.cap, h.cells⟩
theorem OwnI.isI {k : IntKind} {E : TypeId} {base : Nat} {w : World} {A : Option Addr} {N c : Nat} {xs : List Int} (h : OwnI k E base w A N c xs) : IsI k xs (.slice A N c) w := h.isS
end Go.Proofs.Ytahpejcejbgcpaa
