import Derived.Test.YtahpejcejbgcpaaRt22
import Derived.Deep.Slices
import Derived.SizedLaws
import Derived.ChangeOld
namespace Go.Proofs.Ytahpejcejbgcpaa
open Go Go.RowKit Go.ChangeShapes Go.WideShapes
set_option linter.unusedVariables false
/-! What comes in to the laws of rto: ways, steps, lists of them. -/
theorem wf_u8n {n : Int} (h : (Lit.int .u8 n).wf = true) : 0 ≤ n ∧ n < 256 := by
  simp [Lit.wf] at h
  have h1 : IntKind.u8.min = 0 := by rfl
  have h2 : IntKind.u8.max = 255 := by rfl
  omega
theorem wf_i64n {n : Int} (h : (Lit.int .i64 n).wf = true) : n ≤ 9223372036854775807 := by
  simp [Lit.wf] at h
  have h2 : IntKind.i64.max = 9223372036854775807 := by rfl
  omega
theorem cof3 : Try.prog.cellsOf 3 = 1 := by kernel_rfl
theorem cof4 : Try.prog.cellsOf 4 = 1 := by kernel_rfl
theorem cof23 : Try.prog.cellsOf 23 = 7 := by kernel_rfl
theorem cof38 : Try.prog.cellsOf 38 = 3 := by kernel_rfl
section
variable {H : Type} {enc : TypeId × Value → H} {w : World} {held : Bool}
/-- The cells of a slice whose elements take s cells each. -/
theorem cells_of_each {α : Type} [Inhabited α] {x : Addr} {s l : Nat} (hs : 0 < s) (enc1 : α → List Value) (q : Nat → α) (hlen : ∀ a, (enc1 a).length = s)
    (hq : ∀ i, i < l → ∀ j v, (enc1 (q i))[j]? = some v → w.cell? ((x.add (i * s)).add j) = some v) : Cells w (some x) (((List.range l).map q).flatMap enc1) := by
  intro hne
  have h0 : 0 < l := by
    rcases Nat.eq_zero_or_pos l with h | h
    · subst h; exact absurd rfl hne
    · exact h
  obtain ⟨b, o, sp⟩ := x
  have h00 := hq 0 h0 0 ((enc1 (q 0))[0]'(by rw [hlen]; exact hs)) (List.getElem?_eq_getElem _)
  have hsp : sp = none := by
    rw [Nat.zero_mul, Addr.add_zero', Addr.add_zero'] at h00
    cases sp with
    | none => rfl
    | some s => simp [World.cell?] at h00; split at h00 <;> simp at h00
  subst hsp
  have hb : b < w.heap.size := by
    rw [Nat.zero_mul, Addr.add_zero', Addr.add_zero'] at h00
    simp only [World.cell?] at h00
    rcases Nat.lt_or_ge b w.heap.size with h | h
    · exact h
    · rw [Array.getElem?_eq_none (by omega)] at h00; simp at h00
  refine ⟨b, o, rfl, hb, fun j u hu => ?_⟩
  have key : ∀ (L : List α) (j : Nat) (u : Value), (L.flatMap enc1)[j]? = some u → ∃ a, L[j / s]? = some a ∧ (enc1 a)[j % s]? = some u := by
    intro L
    induction L with
    | nil => intro j u h; simp at h
    | cons a L ih =>
      intro j u h
      simp only [List.flatMap_cons] at h
      by_cases hj : j < s
      · rw [List.getElem?_append_left (by rw [hlen]; exact hj)] at h
        exact ⟨a, by rw [Nat.div_eq_of_lt hj]; rfl, by rw [Nat.mod_eq_of_lt hj]; exact h⟩
      · rw [List.getElem?_append_right (by rw [hlen]; omega), hlen] at h
        obtain ⟨a', h1, h2⟩ := ih _ _ h
        refine ⟨a', ?_, ?_⟩
        · rw [show j / s = (j - s) / s + 1 by rw [Nat.div_eq_sub_div hs (by omega)]]
          simpa using h1
        · rw [Nat.mod_eq_sub_mod (by omega)]; exact h2
  obtain ⟨a, h1, h2⟩ := key _ j u hu
  have hil : j / s < l := by have := (List.getElem?_eq_some_iff.1 h1).1; simpa using this
  have ha : q (j / s) = a := by simpa [hil] using h1
  have := hq (j / s) hil (j % s) u (by rw [ha]; exact h2)
  rw [Addr.add_lit, Addr.add_lit] at this
  rw [show o + j = o + j / s * s + j % s by rw [Nat.add_assoc, Nat.mul_comm, Nat.div_add_mod]]
  exact this
set_option maxRecDepth 100000 in
theorem way_elem {n : Nat} {cs : List Value} {y : DataW H × List MemPlace} (h : DataW.trod enc Try.prog w 0 (fun _ => true) held n 23 cs = some y) : ∃ x : Wy, cs = x.cs.toList := by
  obtain ⟨xs, k, hk, hxy, hcl, hxl, hf⟩ := DataW.trod_struct Try.underlying23 h
  rw [cof23] at hcl
  match xs, hxl, cs, hcl with
  | [y0, y1, y2, y3, y4, y5, y6], _, [v0, v1, v2, v3, v4, v5, v6], _ =>
    have g0 := hf 0 _ rfl
    have g1 := hf 1 _ rfl
    have g2 := hf 2 _ rfl
    have g3 := hf 3 _ rfl
    have g4 := hf 4 _ rfl
    have g5 := hf 5 _ rfl
    have g6 := hf 6 _ rfl
    simp [cof3] at g0 g1 g2 g3 g4 g5 g6
    obtain ⟨a0, e0, _, w0⟩ := DataW.trod_int Try.underlying3 g0
    obtain ⟨a1, e1, _, w1⟩ := DataW.trod_int Try.underlying3 g1
    obtain ⟨a2, e2, _, w2⟩ := DataW.trod_int Try.underlying3 g2
    obtain ⟨a3, e3, _, w3⟩ := DataW.trod_int Try.underlying3 g3
    obtain ⟨a4, e4, _, w4⟩ := DataW.trod_int Try.underlying3 g4
    obtain ⟨a5, e5, _, w5⟩ := DataW.trod_int Try.underlying3 g5
    obtain ⟨a6, e6, _, w6⟩ := DataW.trod_int Try.underlying3 g6
    simp only [List.cons.injEq, and_true] at e0 e1 e2 e3 e4 e5 e6
    subst e0; subst e1; subst e2; subst e3; subst e4; subst e5; subst e6
    exact ⟨⟨a0, a1, a2, a3, a4, a5, a6⟩, rfl⟩
set_option maxRecDepth 100000 in
theorem step_elem {n : Nat} {cs : List Value} {y : DataW H × List MemPlace} (h : DataW.trod enc Try.prog w 0 (fun _ => true) held n 38 cs = some y) : ∃ x : StB, cs = stc x := by
  obtain ⟨xs, k, hk, hxy, hcl, hxl, hf⟩ := DataW.trod_struct Try.underlying38 h
  rw [cof38] at hcl
  match xs, hxl, cs, hcl with
  | [y0, y1, y2], _, [v0, v1, v2], _ =>
    have g0 := hf 0 _ rfl
    have g1 := hf 1 _ rfl
    have g2 := hf 2 _ rfl
    simp [cof3, cof4] at g0 g1 g2
    obtain ⟨a0, e0, _, w0⟩ := DataW.trod_int Try.underlying3 g0
    obtain ⟨a1, e1, _, w1⟩ := DataW.trod_int Try.underlying3 g1
    obtain ⟨a2, e2, _⟩ := DataW.trod_bool Try.underlying4 g2
    simp only [List.cons.injEq, and_true] at e0 e1 e2
    subst e0; subst e1; subst e2
    exact ⟨⟨a0, a1, a2⟩, rfl⟩
set_option maxRecDepth 100000 in
theorem steps_elem {n : Nat} {v : Value} {y : DataW H × List MemPlace} (h : DataW.trod enc Try.prog w 0 (fun _ => true) held n 34 [v] = some y) :
    ∃ (xs : List StB) (A : Option Addr) (l c : Nat), v = .slice A l c ∧ InT w A l c xs := by
  rcases Go.Deep.open_slice Try.underlying34 h with ⟨hcs, _⟩ | ⟨x, l, c, m, k, D, Pl, hcs, _, hl, hm, hmm, hx, hel⟩
  · simp at hcs
    exact ⟨[], none, 0, 0, by simpa using hcs, ⟨Cells.nil _ _, rfl⟩⟩
  · simp at hcs
    simp only [if_true] at hmm
    subst hmm
    have each : ∀ i, i < l → ∃ q : StB, (∀ j v, (stc q)[j]? = some v → w.cell? ((x.add (i * 3)).add j) = some v) := by
      intro i hi
      obtain ⟨cs', h1, h2⟩ := hel i (by omega)
      rw [cof38] at h1
      obtain ⟨_, hlen, hcell⟩ := World.cells?_some h1
      obtain ⟨g, rfl⟩ := step_elem h2
      refine ⟨g, fun j v hv => ?_⟩
      have := hcell j (by have := (List.getElem?_eq_some_iff.1 hv).1; simpa [stc] using this)
      rw [this]; exact hv
    haveI : Inhabited StB := ⟨⟨0, 0, false⟩⟩
    obtain ⟨q, hq⟩ := Go.Deep.choose_lt each
    exact ⟨(List.range l).map q, some x, l, m, hcs, ⟨cells_of_each (by omega) stc q (fun _ => rfl) (fun i hi => hq i hi), by simp⟩⟩
/-- A struct that is an argument: its cells. -/
theorem agg_of {v : Value} {t : TypeId} {fs : Array Field} {base : Nat} {l : List Value} (ht : Try.prog.underlying t = some (.struct fs)) (hv : Value.okWide Try.prog w .any base t v) (hc : v.cells.toList = l) : v = .agg ⟨l⟩ := by
  obtain ⟨cs, rfl, _⟩ := okWide_struct ht hv
  subst hc
  simp [Value.cells]
end
end Go.Proofs.Ytahpejcejbgcpaa
