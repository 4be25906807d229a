/-
  WHAT IS PROVED. P17.2: attributes that are fine are fine in any order, and with one more that no rule knows and that is no Must; for all rules, attributes, orders and such ones. The two tables of unicode/utf8 lie as its text lays them.
-/
import Derived.Test.YtghldkjbmfbdfaaDoorCards
import Derived.Test.YtghldkjbmfbdfaaDoorTie
import Derived.Test.YtghldkjbmfbdfaaDoorDcF
import Derived.Test.YtghldkjbmfbdfaaDoorAvFR
import Derived.Test.YtghldkjbmfbdfaaDoorTb
import Derived.Test.YtghldkjbmfbdfaaDoorVa
import Derived.SizedLaws
import Derived.WalkKit
import Derived.ProofKit
import Derived.OpenShut
import Derived.ShutString
import Derived.ChangeOld
import Derived.Below
namespace Go.Proofs.YtghldkjbmfbdfaaDoor.dictFine
open Go.ChangeShapes Go.WideShapes Go.ChangeAt Go.RowKit
open Go.ChangeMaps (open_string shut_string)
set_option linter.unusedVariables false

theorem own : ownKnob Tryd.prog.godebug = none := by kernel_rfl
theorem laidOut : laidOutB Tryd.prog = true := by kernel_rfl

theorem witness (os : Os) {H : Type} (enc : TypeId × Value → H) :
    (OpenSpec.ofChange Rows.dictFineSpec).preRow enc Tryd.prog Tryd.f5 Rows.dictFineRow.domain false Rows.dictFineRow.laid ((laidWorld os).forCall (fun _ _ => 0) ⟨#[], #[.slice none 0 0, .slice none 0 0, .slice none 0 0, .agg #[.int .u32 0, .int .u32 0, .bool false, .bool false, .slice none 0 0]], []⟩).memory #[.slice none 0 0, .slice none 0 0, .slice none 0 0, .agg #[.int .u32 0, .int .u32 0, .bool false, .bool false, .slice none 0 0]] := by
  have hw : (DataW.whole enc Tryd.prog ((laidWorld os).forCall (fun _ _ => 0) ⟨#[], #[.slice none 0 0, .slice none 0 0, .slice none 0 0, .agg #[.int .u32 0, .int .u32 0, .bool false, .bool false, .slice none 0 0]], []⟩).memory Tryd.f5.params.toList Rows.dictFineSpec.vars false (#[.slice none 0 0, .slice none 0 0, .slice none 0 0, .agg #[.int .u32 0, .int .u32 0, .bool false, .bool false, .slice none 0 0]] : Array Value).toList 8).isSome = true := by kernel_rfl
  obtain ⟨⟨x1, x2, x3⟩, hx⟩ := Option.isSome_iff_exists.1 hw
  exact OpenSpec.preRow_of_cond 8 hx (by kernel_rfl) (fun k hk => by cases hk) (by kernel_rfl) (laid_met os _)

set_option maxRecDepth 100000 in
theorem lifted (os : Os) (started : os.Started) (H : Type) (enc : TypeId × Value → H) (F : Stop.Interp) :
    ReturnsInHanded {} Tryd.checked os 5 .any ((OpenSpec.ofChange Rows.dictFineSpec).preRow enc Tryd.prog Tryd.f5 Rows.dictFineRow.domain false Rows.dictFineRow.laid) (((OpenSpec.ofChange Rows.dictFineSpec).at F).post enc Tryd.prog Tryd.f5 false true false false) := by
  refine returnsInHanded_of_row (C := Tryd.checked) (s := OpenSpec.ofChange Rows.dictFineSpec) own started (by kernel_rfl) Tryd.func5
    (witness_row_at (enc := enc) (C := Tryd.checked) false (laidWorld os) #[.slice none 0 0, .slice none 0 0, .slice none 0 0, .agg #[.int .u32 0, .int .u32 0, .bool false, .bool false, .slice none 0 0]] rfl (by kernel_rfl) (by kernel_rfl) (by kernel_rfl) (witness os enc)) ?_
  intro W base args ds gs before hval0 hW hcnd _ hsz hL _ _
  have hTab : Tab W := tab_of hL
  have hval : ∀ (j : Nat) t v, Tryd.f5.params[j]? = some t → args[j]? = some v → Value.okWide Tryd.prog W .any base t v := hval0
  have hW' := hW
  obtain ⟨p, q, hA0, hV, rfl, hfz, hnd⟩ := hW
  have hA : DataW.TrodAll enc Tryd.prog W 0 (fun _ => true) true Tryd.f5.params.toList args.toList ds p := hA0
  rw [Tryd.params5] at hA hval
  obtain ⟨v0, vs0, d0, ds0, p0, q0, hargs, rfl, rfl, h0, r0⟩ := trodAll_cons hA
  obtain ⟨v1, vs1, d1, ds1, p1, q1, rfl, rfl, rfl, h1, r1⟩ := trodAll_cons r0
  obtain ⟨v2, vs2, d2, ds2, p2, q2, rfl, rfl, rfl, h2, r2⟩ := trodAll_cons r1
  obtain ⟨v3, vs3, d3, ds3, p3, q3, rfl, rfl, rfl, h3, r3⟩ := trodAll_cons r2
  obtain ⟨rfl, rfl, rfl⟩ := trodAll_nil r3
  obtain rfl : args = #[v0, v1, v2, v3] := by cases args; simp_all
  obtain ⟨rfl, rfl⟩ := trodVars_none hV
  have hwt : ∀ (j : Nat) (t : TypeId) (d : DataW H), Tryd.f5.params.toList[j]? = some t → [d0, d1, d2, d3][j]? = some d → ∀ m ∈ d.weights Tryd.prog t, m ≤ reachBytes := fun j t d ht hd m hm => by
    have := List.all_eq_true.1 hsz m (DataW.weights_mem_each (j := j) (t := t) ht hd m hm)
    simpa using this
  have k0 := h0
  have lt0 : ∀ x ∈ p0, x.block < W.heap.size := by obtain ⟨m, hm⟩ := k0; exact DataW.trod_lt m _ _ _ hm
  have k1 := h1
  have lt1 : ∀ x ∈ p1, x.block < W.heap.size := by obtain ⟨m, hm⟩ := k1; exact DataW.trod_lt m _ _ _ hm
  have k2 := h2
  have lt2 : ∀ x ∈ p2, x.block < W.heap.size := by obtain ⟨m, hm⟩ := k2; exact DataW.trod_lt m _ _ _ hm
  have k3 := h3
  have lt3 : ∀ x ∈ p3, x.block < W.heap.size := by obtain ⟨m, hm⟩ := k3; exact DataW.trod_lt m _ _ _ hm
  obtain ⟨a0, len0, cap0, rfl⟩ := okWide_slice Tryd.underlying28 (hval 0 28 v0 rfl rfl)
  obtain ⟨z0, _, _, _, e0, w0, u0⟩ : ∃ xs A l c, Value.slice a0 len0 cap0 = .slice A l c ∧ InR W A l c xs ∧ l ≤ 140737488351232 := by
    obtain ⟨fuel, hf⟩ := h0
    exact rules_elem hf (hwt 0 28 _ rfl rfl)
  injection e0 with e0a e0b e0c
  subst e0a; subst e0b; subst e0c
  obtain ⟨a1, len1, cap1, rfl⟩ := okWide_slice Tryd.underlying29 (hval 1 29 v1 rfl rfl)
  obtain ⟨z1, _, _, _, e1, w1, u1⟩ : ∃ xs A l c, Value.slice a1 len1 cap1 = .slice A l c ∧ InL W A l c xs ∧ l ≤ 140737488351232 := by
    obtain ⟨fuel, hf⟩ := h1
    exact avs_elem hf (hwt 1 29 _ rfl rfl)
  injection e1 with e1a e1b e1c
  subst e1a; subst e1b; subst e1c
  obtain ⟨a2, len2, cap2, rfl⟩ := okWide_slice Tryd.underlying22 (hval 2 22 v2 rfl rfl)
  obtain ⟨z2, _, _, _, e2, w2, u2⟩ : ∃ xs A l c, Value.slice a2 len2 cap2 = .slice A l c ∧ InB W A l c xs ∧ l ≤ 140737488351232 := by
    obtain ⟨fuel, hf⟩ := h2
    exact bytes_elem hf (hwt 2 22 _ rfl rfl)
  injection e2 with e2a e2b e2c
  subst e2a; subst e2b; subst e2c
  obtain ⟨x3, e3, w3⟩ : ∃ x, v3.cells.toList = avc x ∧ AvIn W x := by
    obtain ⟨fuel, hf⟩ := h3
    exact avp_elem hf (hwt 3 38 _ rfl rfl)
  obtain rfl := agg_of Tryd.underlying38 (hval 3 38 v3 rfl rfl) e3
  clear e3
  clear hA0 hval0
  refine (law_fine a0 a1 a2 len0 cap0 len1 cap1 len2 cap2 z0 z1 z2 x3 W w0 w1 w2 w3 hTab u0 u1 u2 : Calls Tryd.prog 5 _ W (RetB true W)).mono fun e W' ⟨he, hU⟩ => ?_
  have bel := hU.out
  subst he
  exact ⟨_, rfl, _, _, _, [], _, [], hW', trodAll_mk1 (shut_bool Tryd.underlying4 _), (trodAll_cons_mk (Below.trod laidOut (by kernel_rfl) (of_decide_eq_true (by kernel_rfl)) k0 bel lt0) (trodAll_cons_mk (Below.trod laidOut (by kernel_rfl) (of_decide_eq_true (by kernel_rfl)) k1 bel lt1) (trodAll_cons_mk (Below.trod laidOut (by kernel_rfl) (of_decide_eq_true (by kernel_rfl)) k2 bel lt2) (trodAll_cons_mk (Below.trod laidOut (by kernel_rfl) (of_decide_eq_true (by kernel_rfl)) k3 bel lt3) trodAll_mk0)))), rfl, bel.frame _, fun h => by cases h⟩

theorem said : Rows.DictFineSaid :=
  OpenClaim.holds_of_cond 5 Tryd.f5 rfl rfl rfl rfl rfl rfl rfl ⟨rfl, rfl, rfl, rfl, rfl⟩ rfl rfl rfl rfl rfl (by kernel_rfl) Tryd.func5 (by kernel_rfl)
    (of_decide_eq_true (by kernel_rfl)) (by unfold Func.isWrapper; first | (rw [if_pos (by decide +kernel)]; kernel_rfl) | (rw [if_neg (by decide +kernel)]; exact ⟨rfl, rfl⟩))
    (fun os started H enc _ F => by rw [OpenClaim.pre_eq_preRow]; exact lifted os started H enc F)

theorem plain (f : FuncId) (fn : Func) (hf : Tryd.pinned.checked.prog.funcNamed Rows.dictFineRow.func = some f) (hfn : Tryd.pinned.checked.prog.funcs[f]? = some fn) :
    false = Tryd.pinned.checked.prog.looks [] ∧ ∀ (j : Nat) t, fn.params[j]? = some t → Tryd.pinned.checked.prog.wantsStandIn t = false := by
  obtain rfl : f = 5 := Option.some.inj ((show Tryd.prog.funcNamed Rows.dictFineRow.func = some 5 by kernel_rfl).symm.trans hf) |>.symm
  obtain rfl : fn = Tryd.f5 := (Option.some.inj (Tryd.func5.symm.trans hfn)).symm
  refine ⟨by kernel_rfl, fun j t ht => ?_⟩
  rw [Tryd.params5] at ht
  have hall : ((#[28, 29, 22, 38] : Array TypeId).all fun t => !Tryd.prog.wantsStandIn t) = true := by kernel_rfl
  have := Array.all_eq_true.1 hall
  have hm := Array.mem_of_getElem? ht
  obtain ⟨k, hk, rfl⟩ := Array.mem_iff_getElem.1 hm
  have e : Tryd.prog.wantsStandIn ((#[28, 29, 22, 38] : Array TypeId)[k]) = false := by simpa using this k hk
  exact e

/-- The statement. -/
theorem proved : Rows.DictFineCardSaid :=
  Claim7.holds_tied_plain_at .later [] _ _ _ _ said (fun _ h => by cases h) (by kernel_rfl) (fun _ h => by cases h) dictFine_row_tie rfl ⟨rfl, rfl⟩ (by kernel_rfl) rfl plain (by kernel_rfl)
#print axioms proved
end Go.Proofs.YtghldkjbmfbdfaaDoor.dictFine
