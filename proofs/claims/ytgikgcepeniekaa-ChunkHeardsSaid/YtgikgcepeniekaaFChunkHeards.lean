/-
  WHAT IS PROVED. P7.4: how what came is written and read; for everything heard and every chunk. No condition.
-/
import Derived.Test.YtgikgcepeniekaaRows
import Derived.Test.YtgikgcepeniekaaCk58
import Derived.Test.YtgikgcepeniekaaCkF
import Derived.SizedLaws
import Derived.WalkKit
import Derived.ProofKit
import Derived.OpenShut
import Derived.ShutString
import Derived.ChangeOld
import Derived.Below
namespace Go.Proofs.Ytgikgcepeniekaa.chunkHeards
open Go.ChangeShapes Go.WideShapes Go.ChangeAt Go.RowKit
open Go.ChangeMaps (open_string shut_string)
set_option linter.unusedVariables false

theorem own : ownKnob Try.prog.godebug = none := by kernel_rfl
theorem laidOut : laidOutB Try.prog = true := by kernel_rfl

set_option maxRecDepth 100000 in
theorem lifted (os : Os) (started : os.Started) (H : Type) (enc : TypeId × Value → H) :
    ReturnsInHanded {} Try.checked os 8 .any (Rows.chunkHeardsSpec.pre6 enc Try.prog Try.f8 Rows.chunkHeardsRow.domain false) (Rows.chunkHeardsSpec.post enc Try.prog Try.f8 false true false false) := by
  refine returnsInHanded_of_change_sized (C := Try.checked) own started (by kernel_rfl) Try.func8
    (ChangeSpec.witness6 (enc := enc) (C := Try.checked) false ⟨#[], #[.agg #[.int .u32 0, .int .u32 0, .slice none 0 0, .slice none 0 0], .agg #[.int .u8 0, .int .u8 0, .slice none 0 0]], []⟩ 8 (by kernel_rfl) (by kernel_rfl) (by kernel_rfl) (by kernel_rfl)) ?_
  intro W base args ds gs before hval0 hW hcnd hsz _
  have hval : ∀ (j : Nat) t v, Try.f8.params[j]? = some t → args[j]? = some v → Value.okWide Try.prog W .any base t v := hval0
  have hW' := hW
  obtain ⟨p, q, hA0, hV, rfl, hfz, hnd⟩ := hW
  have hA : DataW.TrodAll enc Try.prog W 0 (fun _ => true) true Try.f8.params.toList args.toList ds p := hA0
  rw [Try.params8] at hA hval
  obtain ⟨v0, vs0, d0, ds0, p0, q0, hargs, rfl, rfl, h0, r0⟩ := trodAll_cons hA
  obtain ⟨v1, vs1, d1, ds1, p1, q1, rfl, rfl, rfl, h1, r1⟩ := trodAll_cons r0
  obtain ⟨rfl, rfl, rfl⟩ := trodAll_nil r1
  obtain rfl : args = #[v0, v1] := by cases args; simp_all
  obtain ⟨rfl, rfl⟩ := trodVars_none hV
  have hwt : ∀ (j : Nat) (t : TypeId) (d : DataW H), Try.f8.params.toList[j]? = some t → [d0, d1][j]? = some d → ∀ m ∈ d.weights Try.prog t, m ≤ reachBytes := fun j t d ht hd m hm => by
    have := List.all_eq_true.1 hsz m (DataW.weights_mem_each (j := j) (t := t) ht hd m hm)
    simpa using this
  have k0 := h0
  have lt0 : ∀ x ∈ p0, x.block < W.heap.size := by obtain ⟨m, hm⟩ := k0; exact DataW.trod_lt m _ _ _ hm
  have k1 := h1
  have lt1 : ∀ x ∈ p1, x.block < W.heap.size := by obtain ⟨m, hm⟩ := k1; exact DataW.trod_lt m _ _ _ hm
  obtain ⟨x0, a0, b0, len0, cap0, m0, c0, e0, o0, w0, y0, u0, t0⟩ : ∃ (x : Ck.Hrd) (A B : Option Addr) (l c m d : Nat), v0.cells.toList = [.int .u32 x.cum, .int .u32 x.win, .slice A l c, .slice B m d] ∧ Ck.HrdOk x ∧ InG W A l c x.gaps ∧ InD W B m d x.dups ∧ l * 4 ≤ 140737488351232 ∧ m * 4 ≤ 140737488351232 := by
    obtain ⟨fuel, hf⟩ := h0
    exact heard_elem hf (hwt 0 59 _ rfl rfl)
  obtain rfl := agg_of Try.underlying59 (hval 0 59 v0 rfl rfl) e0
  clear e0
  obtain ⟨x1, e1, w1⟩ : ∃ x, v1.cells.toList = chc x ∧ ChIn W x := by
    obtain ⟨fuel, hf⟩ := h1
    exact chunk_elem hf (hwt 1 41 _ rfl rfl)
  obtain rfl := agg_of Try.underlying41 (hval 1 41 v1 rfl rfl) e1
  clear e1
  clear hA0 hval0
  refine (law_heards x0 a0 b0 len0 cap0 m0 c0 x1 W w0 y0 o0 u0 t0 w1 : Calls Try.prog 8 _ W (RetB true W)).mono fun e W' ⟨he, hU⟩ => ?_
  have bel := hU.out
  subst he
  exact ⟨_, rfl, _, _, _, [], _, [], hW', trodAll_mk1 (shut_bool Try.underlying4 _), (trodAll_cons_mk (Below.trod laidOut (by kernel_rfl) (of_decide_eq_true (by kernel_rfl)) k0 bel lt0) (trodAll_cons_mk (Below.trod laidOut (by kernel_rfl) (of_decide_eq_true (by kernel_rfl)) k1 bel lt1) trodAll_mk0)), rfl, bel.frame _, fun h => by cases h⟩

theorem over : Rows.chunkHeardsRow.holds Try.pinned (OpenSpec.ofChange Rows.chunkHeardsSpec) :=
  OpenClaim.holds_of_wide 8 Try.f8 rfl rfl rfl rfl rfl rfl rfl ⟨rfl, rfl, rfl, rfl, rfl⟩ rfl rfl rfl rfl rfl (by kernel_rfl) Try.func8 (by kernel_rfl)
    (of_decide_eq_true (by kernel_rfl)) (by unfold Func.isWrapper; first | (rw [if_pos (by decide +kernel)]; kernel_rfl) | (rw [if_neg (by decide +kernel)]; exact ⟨rfl, rfl⟩))
    (fun os started H enc _ => lifted os started H enc)

/-- The statement. -/
theorem proved : Rows.ChunkHeardsSaid := over
#print axioms proved
end Go.Proofs.Ytgikgcepeniekaa.chunkHeards
