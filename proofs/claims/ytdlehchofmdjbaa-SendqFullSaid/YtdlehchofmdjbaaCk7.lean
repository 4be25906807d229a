import Derived.Test.YtdlehchofmdjbaaCk0
import Derived.Test.YtdlehchofmdjbaaChecked
import Derived.BigQuiet
import Derived.Deep.DeepCutAuto
namespace Go.Proofs.Ytdlehchofmdjbaa
open Go Go.RowKit
set_option linter.unusedVariables false
set_option linter.unusedSimpArgs false
/-! What a side says of itself: the values, and the program's checkHello. -/
namespace Ck
end Ck
def RetI (k : Int) (w : World) (e : Ending) (w' : World) : Prop := e = .returned (.int .i64 k) ∧ Hid (Up w w')
end Go.Proofs.Ytdlehchofmdjbaa
namespace Go.Proofs.Ytdlehchofmdjbaa
open Go Go.RowKit
set_option linter.unusedVariables false
set_option linter.unusedSimpArgs false
def chV (ty fl : Int) (v : Value) : Value := .agg #[.int .u8 ty, .int .u8 fl, v]
/-- At b lie the cells cs, at q a chunk that is empty yet, at g a writer with these bytes. -/
def FH (b q g : Nat) (T : TypeId) (cs : Array Value) (w0 : World) (xs : List Int) (w : World) : Prop :=
  ∃ S, IsW S w g xs ∧ w.heap[b]? = some (.cells cs T (0, 0)) ∧ w.heap[q]? = some (.cells #[.int .u8 0, .int .u8 0, .slice none 0 0] 61 (0, 0)) ∧ (¬ S b ∧ ¬ S q) ∧ (∀ k, S k → w0.heap.size ≤ k) ∧ Up w0 w
section
variable {b q g : Nat} {T : TypeId} {cs : Array Value} {w0 w : World} {xs : List Int}
theorem FH.cell (h : FH b q g T cs w0 xs w) {j : Nat} {v : Value} (hv : cs[j]? = some v) : w.cell? ⟨b, j, none⟩ = some v := by
  obtain ⟨S, h1, h2, h3, h4, h5, h6⟩ := h
  exact cell_of h2 hv
theorem FH.start (hb : w.heap[b]? = some (.cells cs T (0, 0))) (hq : w.heap[q]? = some (.cells #[.int .u8 0, .int .u8 0, .slice none 0 0] 61 (0, 0))) (hu : Up w0 w) :
    FH b q w.heap.size T cs w0 [] (w.alloc (.cells #[.slice none 0 0] 73)) := by
  have u := up_alloc w (.cells #[.slice none 0 0] 73)
  refine ⟨fun k => k = w.heap.size, ⟨none, 0, 0, new_at _ _, ownI_nil _ _ _ _, rfl, fun k hk => by cases hk⟩, (u.block b (lt_of_blk hb)).trans hb, (u.block q (lt_of_blk hq)).trans hq, ⟨fun e => ?_, fun e => ?_⟩, fun k hk => by rw [hk]; exact hu.size, hu.trans u⟩
  · have := lt_of_blk hb; omega
  · have := lt_of_blk hq; omega
theorem FH.step (h : FH b q g T cs w0 xs w) {f : FuncId} {args : Array Value} {ys : List Int} (hc : ∀ S, IsW S w g xs → (∀ k, S k → w0.heap.size ≤ k) → Calls Try.prog f args w (WPost S g ys w)) : Calls Try.prog f args w fun e w' => e = .returned (.tuple #[]) ∧ Hid (FH b q g T cs w0 ys w') := by
  obtain ⟨S, h1, h2, h3, h4, h5, h6⟩ := h
  refine (hc S h1 h5).mono fun e w' ⟨he, S', k1, k2, k3⟩ => ⟨he, Lib.hid ⟨S', k1, k3.blk h2 h4.1, k3.blk h3 h4.2, ⟨fun hs => ?_, fun hs => ?_⟩, fun k hk => ?_, Below.out h6 k3 h5 h6.size⟩⟩
  · rcases k2 _ hs with h | h
    · exact h4.1 h
    · have := lt_of_blk h2; omega
  · rcases k2 _ hs with h | h
    · exact h4.2 h
    · have := lt_of_blk h3; omega
  · rcases k2 _ hk with h | h
    · exact h5 k h
    · have := h6.size; omega
theorem FH.two {n : Int} (h : FH b q g T cs w0 xs w) (h0 : 0 ≤ n) (h1 : n < 65536) (hk : xs.length ≤ 900000) : Calls Try.prog 27 #[.pointer (some ⟨g, 0, none⟩), .int .u16 n] w fun e w' => e = .returned (.tuple #[]) ∧ Hid (FH b q g T cs w0 (xs ++ be n 2) w') :=
  h.step fun S hS _ => wtwo n w hS h0 h1 hk
theorem FH.four {n : Int} (h : FH b q g T cs w0 xs w) (h0 : 0 ≤ n) (h1 : n < 4294967296) (hk : xs.length ≤ 900000) : Calls Try.prog 26 #[.pointer (some ⟨g, 0, none⟩), .int .u32 n] w fun e w' => e = .returned (.tuple #[]) ∧ Hid (FH b q g T cs w0 (xs ++ be n 4) w') :=
  h.step fun S hS _ => wfour n w hS h0 h1 hk
theorem FH.bytes {A : Option Addr} {m c : Nat} {ys : List Int} (h : FH b q g T cs w0 xs w) (hy : InB w0 A m c ys) (hk : xs.length + m ≤ 1000000) : Calls Try.prog 42 #[.pointer (some ⟨g, 0, none⟩), .slice A m c] w fun e w' => e = .returned (.tuple #[]) ∧ Hid (FH b q g T cs w0 (xs ++ ys) w') := by
  have hu : Up w0 w := h.choose_spec.2.2.2.2.2
  exact h.step fun S hS hB => wbytes A m c ys w hS (hy.up hu) hk
/-- What lies there at the end. -/
theorem FH.fin (h : FH b q g T cs w0 xs w) : ∃ A N c, w.cell? ⟨g, 0, none⟩ = some (.slice A N c) ∧ Hid (N = xs.length) ∧ Hid (OwnI .u8 5 w0.heap.size w A N c xs) ∧ Hid (w.heap[q]? = some (.cells #[.int .u8 0, .int .u8 0, .slice none 0 0] 61 (0, 0))) ∧ Hid (∀ k, blk? A = some k → k ≠ q) ∧ Hid (Up w0 w) := by
  obtain ⟨S, h1, h2, h3, h4, h5, h6⟩ := h
  obtain ⟨A, N, c, k1, k2, k3, k4⟩ := h1.ex
  exact ⟨A, N, c, cell_of k1 rfl, Lib.hid k2.len.symm, Lib.hid (k2.rebase fun k hk => h5 k (k4 k hk).1), Lib.hid h3, Lib.hid (fun k hk e => by subst e; exact h4.2 (k4 k hk).1), Lib.hid h6⟩
end
theorem results_row_tmp {P : Program} {fn : Func} {p u : Tmp} {ty : TypeId} (h : fn.results = #[.cell p ty, .tmp u]) (tmps : Array Value) (w : World) (g : Nat) (t : TypeId) (cs : Array Value) (fr : Nat × Nat) (d : TypeDesc)
    (hp : tmps.getD p undef = .pointer (some ⟨g, 0, none⟩)) (hg : w.heap[g]? = some (.cells cs t fr))
    (hu : P.underlying ty = some d) (hd : (match d with | .struct _ | .array _ _ => true | _ => false) = true) (hi : (P.info? ty).map (·.size) = some cs.size) :
    (results fn tmps).run P w = .ok (.tuple #[.agg cs, tmps.getD u undef]) w := by
  have hp' : tmps[p]?.getD undef = .pointer (some ⟨g, 0, none⟩) := by simpa using hp
  simp [results, h, hp', asAddr, run_loadVar_row w g t ty cs fr d hg hu hd hi, Result.andThen]
/-- A chunk is answered, with bytes of its own; nothing has turned. -/
def ChPost (ty fl : Int) (ys : List Int) (w : World) (e : Ending) (w' : World) : Prop := ∃ A N c, e = .returned (.tuple #[chV ty fl (.slice A N c), .int .i64 0]) ∧ Hid (N = ys.length) ∧ Hid (OwnI .u8 5 w.heap.size w' A N c ys) ∧ Hid (Up w w')
/-- No chunk, but an error. -/
def ChErr (k : Int) (w : World) (e : Ending) (w' : World) : Prop := e = .returned (.tuple #[chV 0 0 (.slice none 0 0), .int .i64 k]) ∧ Hid (Up w w')
/-- Three stores into the result. -/
theorem set3 {w : World} {q : Nat} {cs : Array Value} {a b c : Value} {T : TypeId} (h : w.heap[q]? = some (.cells cs T (0, 0))) (hs : cs.size = 3) :
    (((w.setCell ⟨q, 0, none⟩ a).setCell ⟨q, 1, none⟩ b).setCell ⟨q, 2, none⟩ c).heap[q]? = some (.cells #[a, b, c] T (0, 0)) ∧ Out (fun k => k = q) w (((w.setCell ⟨q, 0, none⟩ a).setCell ⟨q, 1, none⟩ b).setCell ⟨q, 2, none⟩ c) := by
  refine ⟨?_, ((setCell_out _ _ _ _).trans (setCell_out _ _ _ _) (Sub.refl _ _)).trans (setCell_out _ _ _ _) (Sub.refl _ _)⟩
  rw [setCell_at _ (setCell_at _ (setCell_at _ h))]
  obtain ⟨l⟩ := cs
  match l, hs with
  | [x, y, z], _ => rfl
end Go.Proofs.Ytdlehchofmdjbaa
