import Derived.Test.YtpdhgjhcjnpkeaaOps
import Derived.Test.YtpdhgjhcjnpkeaaWhC
import Derived.Shelf.SlicesQ.Load
namespace Go.Proofs.Ytpdhgjhcjnpkeaa
open Go Go.RowKit
theorem fld500 (b o : Nat) (w : World) : (Instr.fieldAt 50 (.pointer (some ⟨b, o, none⟩)) 0).run Try.prog w = .ok (.pointer (some ⟨b, o, none⟩)) w := by kernel_rfl
theorem fld430 (b o : Nat) (w : World) : (Instr.fieldAt 43 (.pointer (some ⟨b, o, none⟩)) 0).run Try.prog w = .ok (.pointer (some ⟨b, o, none⟩)) w := by kernel_rfl
theorem fld431 (b o : Nat) (w : World) : (Instr.fieldAt 43 (.pointer (some ⟨b, o, none⟩)) 1).run Try.prog w = .ok (.pointer (some ⟨b, o + 1, none⟩)) w := by kernel_rfl
theorem fld450 (b o : Nat) (w : World) : (Instr.fieldAt 45 (.pointer (some ⟨b, o, none⟩)) 0).run Try.prog w = .ok (.pointer (some ⟨b, o, none⟩)) w := by kernel_rfl
theorem fld330 (b o : Nat) (w : World) : (Instr.fieldAt 33 (.pointer (some ⟨b, o, none⟩)) 0).run Try.prog w = .ok (.pointer (some ⟨b, o, none⟩)) w := by kernel_rfl
theorem fld331 (b o : Nat) (w : World) : (Instr.fieldAt 33 (.pointer (some ⟨b, o, none⟩)) 1).run Try.prog w = .ok (.pointer (some ⟨b, o + 1, none⟩)) w := by kernel_rfl
theorem agg3 (w : World) : (isAgg 3).run Try.prog w = .ok false w := by kernel_rfl
theorem agg30 (w : World) : (isAgg 30).run Try.prog w = .ok false w := by kernel_rfl
theorem agg41 (w : World) : (isAgg 41).run Try.prog w = .ok false w := by kernel_rfl
theorem agg48 (w : World) : (isAgg 48).run Try.prog w = .ok false w := by kernel_rfl
theorem agg33 (w : World) : (isAgg 33).run Try.prog w = .ok true w := by kernel_rfl
theorem siz33 (w : World) : (Go.sizeOf 33).run Try.prog w = .ok 2 w := by kernel_rfl
theorem siz3 (w : World) : (Go.sizeOf 3).run Try.prog w = .ok 1 w := by kernel_rfl
theorem siz30 (w : World) : (Go.sizeOf 30).run Try.prog w = .ok 1 w := by kernel_rfl
theorem run_load1 {P : Program} {t : TypeId} (h : ∀ w, (isAgg t).run P w = .ok false w) {A : Addr} {v : Value} {w : World} (hc : w.cell? A = some v) : (Instr.loadAt t (.pointer (some A))).run P w = .ok v w := by
  simp [Instr.loadAt, Instr.sureAddr, loadVar, h, Result.andThen, hc]
theorem run_load33 {A : Addr} {cs : List Value} {w : World} (hl : cs.length = 2) (hc : ∀ j v, cs[j]? = some v → w.cell? (A.add j) = some v) : (Instr.loadAt 33 (.pointer (some A))).run Try.prog w = .ok (.agg cs.toArray) w := by
  simp [Instr.loadAt, Instr.sureAddr, loadVar, Result.andThen, loadCells, run_loadCellsFrom_list _ w A cs 2 hl hc]
theorem run_index30 {b o n c : Nat} {i : Nat} {w : World} (hi : i < n) : (Instr.indexAt 30 (.slice (some ⟨b, o, none⟩) n c) (.int .i64 (i : Int))).run Try.prog w = .ok (.pointer (some ⟨b, o + i * 2, none⟩)) w := by
  have h1 : (0 : Int) ≤ i ∧ (i : Int) < n := by omega
  simp [Instr.indexAt, asIntOf, run_underlying Try.underlying30, Result.andThen, h1, Nat.not_le.2 hi, Addr.add_lit]
end Go.Proofs.Ytpdhgjhcjnpkeaa
