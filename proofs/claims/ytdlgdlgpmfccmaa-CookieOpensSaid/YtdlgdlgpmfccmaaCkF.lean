import Derived.Test.YtdlgdlgpmfccmaaCk0
import Derived.Test.YtdlgdlgpmfccmaaBytes
import Derived.Deep.Slices
import Derived.SizedLaws
import Derived.ChangeOld
import Derived.Test.YtdlgdlgpmfccmaaCo0
namespace Go.Proofs.Ytdlgdlgpmfccmaa
open Go Go.RowKit Go.ChangeShapes Go.WideShapes
set_option linter.unusedVariables false
/-! What comes in: bytes, chunks, lists of them, packets. -/
theorem wf_u8n {n : Int} (h : (Lit.int .u8 n).wf = true) : 0 ≤ n ∧ n < 256 := by
  simp [Lit.wf] at h
  have h1 : IntKind.u8.min = 0 := by rfl
  have h2 : IntKind.u8.max = 255 := by rfl
  omega
theorem wf_u16n {n : Int} (h : (Lit.int .u16 n).wf = true) : 0 ≤ n ∧ n < 65536 := by
  simp [Lit.wf] at h
  have h1 : IntKind.u16.min = 0 := by rfl
  have h2 : IntKind.u16.max = 65535 := by rfl
  omega
theorem wf_u32n {n : Int} (h : (Lit.int .u32 n).wf = true) : 0 ≤ n ∧ n < 4294967296 := by
  simp [Lit.wf] at h
  have h1 : IntKind.u32.min = 0 := by rfl
  have h2 : IntKind.u32.max = 4294967295 := by rfl
  omega
theorem bof5 : Try.prog.bytesOf 5 = 1 := by kernel_rfl
section
variable {H : Type} {enc : TypeId × Value → H} {w : World} {held : Bool}
set_option maxRecDepth 100000 in
theorem bytes_elem {n : Nat} {v : Value} {y : DataW H × List MemPlace} (h : DataW.trod enc Try.prog w 0 (fun _ => true) held n 26 [v] = some y) (hw : ∀ m ∈ y.1.weights Try.prog 26, m ≤ reachBytes) :
    ∃ (xs : List Int) (A : Option Addr) (l c : Nat), v = .slice A l c ∧ InB w A l c xs ∧ l ≤ 140737488351232 := by
  rcases open_ints Try.underlying26 Try.underlying5 (by kernel_rfl) h with ⟨hcs, _⟩ | ⟨x, l, c, zs, hcs, _, hl, hm, hz, hx, hcell, hwz⟩
  · simp at hcs
    exact ⟨[], none, 0, 0, by simpa using hcs, inB_nil w, by simp⟩
  · simp at hcs
    simp only [if_true] at hz
    have hr := hw ((l + (zs.length - l)) * 1) (by
      rw [hx]
      simp only [DataW.weights, Try.underlying26, bof5, List.mem_cons]
      left
      simp only [lits, List.length_map, List.length_take, List.length_drop]
      congr 2; omega)
    have hi := intsIn_mk (by_ := 1) (k := .u8) (w := w) (x := x) hl hz hcell hwz (by simp only [reachBytes] at hr; omega)
    exact ⟨zs.take l, some x, l, c, hcs, inB_of hi, reach_of hi⟩
/-- The cells of a slice whose elements take s cells each. -/
theorem cells_of_each {α : Type} [Inhabited α] {x : Addr} {s l : Nat} (hs : 0 < s) (enc1 : α → List Value) (q : Nat → α) (hlen : ∀ a, (enc1 a).length = s)
    (hq : ∀ i, i < l → ∀ j v, (enc1 (q i))[j]? = some v → w.cell? ((x.add (i * s)).add j) = some v) : Cells w (some x) (((List.range l).map q).flatMap enc1) := by
  intro hne
  have h0 : 0 < l := by
    rcases Nat.eq_zero_or_pos l with h | h
    · subst h; exact absurd rfl hne
    · exact h
  obtain ⟨b, o, sp⟩ := x
  have h00 := hq 0 h0 0 ((enc1 (q 0))[0]'(by rw [hlen]; exact hs)) (List.getElem?_eq_getElem _)
  have hsp : sp = none := by
    rw [Nat.zero_mul, Addr.add_zero', Addr.add_zero'] at h00
    cases sp with
    | none => rfl
    | some s => simp [World.cell?] at h00; split at h00 <;> simp at h00
  subst hsp
  have hb : b < w.heap.size := by
    rw [Nat.zero_mul, Addr.add_zero', Addr.add_zero'] at h00
    simp only [World.cell?] at h00
    rcases Nat.lt_or_ge b w.heap.size with h | h
    · exact h
    · rw [Array.getElem?_eq_none (by omega)] at h00; simp at h00
  refine ⟨b, o, rfl, hb, fun j u hu => ?_⟩
  have key : ∀ (L : List α) (j : Nat) (u : Value), (L.flatMap enc1)[j]? = some u → ∃ a, L[j / s]? = some a ∧ (enc1 a)[j % s]? = some u := by
    intro L
    induction L with
    | nil => intro j u h; simp at h
    | cons a L ih =>
      intro j u h
      simp only [List.flatMap_cons] at h
      by_cases hj : j < s
      · rw [List.getElem?_append_left (by rw [hlen]; exact hj)] at h
        exact ⟨a, by rw [Nat.div_eq_of_lt hj]; rfl, by rw [Nat.mod_eq_of_lt hj]; exact h⟩
      · rw [List.getElem?_append_right (by rw [hlen]; omega), hlen] at h
        obtain ⟨a', h1, h2⟩ := ih _ _ h
        refine ⟨a', ?_, ?_⟩
        · rw [show j / s = (j - s) / s + 1 by rw [Nat.div_eq_sub_div hs (by omega)]]
          simpa using h1
        · rw [Nat.mod_eq_sub_mod (by omega)]; exact h2
  obtain ⟨a, h1, h2⟩ := key _ j u hu
  have hil : j / s < l := by have := (List.getElem?_eq_some_iff.1 h1).1; simpa using this
  have ha : q (j / s) = a := by simpa [hil] using h1
  have := hq (j / s) hil (j % s) u (by rw [ha]; exact h2)
  rw [Addr.add_lit, Addr.add_lit] at this
  rw [show o + j = o + j / s * s + j % s by rw [Nat.add_assoc, Nat.mul_comm, Nat.div_add_mod]]
  exact this
set_option maxRecDepth 100000 in
/-- A struct that is an argument: its cells. -/
theorem agg_of {v : Value} {t : TypeId} {fs : Array Field} {base : Nat} {l : List Value} (ht : Try.prog.underlying t = some (.struct fs)) (hv : Value.okWide Try.prog w .any base t v) (hc : v.cells.toList = l) : v = .agg ⟨l⟩ := by
  obtain ⟨cs, rfl, _⟩ := okWide_struct ht hv
  subst hc
  simp [Value.cells]
end
end Go.Proofs.Ytdlgdlgpmfccmaa
namespace Go.Proofs.Ytdlgdlgpmfccmaa
open Go Go.RowKit Go.ChangeShapes Go.WideShapes
set_option linter.unusedVariables false
/-! What comes in: a crumb. -/
theorem wf_i64n {n : Int} (h : (Lit.int .i64 n).wf = true) : -9223372036854775808 ≤ n ∧ n < 9223372036854775808 := by
  simp [Lit.wf] at h
  have h1 : IntKind.i64.min = -9223372036854775808 := by rfl
  have h2 : IntKind.i64.max = 9223372036854775807 := by rfl
  omega
theorem cofC : Try.prog.cellsOf 25 = 8 := by kernel_rfl
theorem cofI : Try.prog.cellsOf 3 = 1 := by kernel_rfl
theorem cofU : Try.prog.cellsOf 23 = 1 := by kernel_rfl
section
variable {H : Type} {enc : TypeId × Value → H} {w : World} {held : Bool}
set_option maxRecDepth 100000 in
theorem crumb_elem {n : Nat} {cs : List Value} {y : DataW H × List MemPlace} (h : DataW.trod enc Try.prog w 0 (fun _ => true) held n 25 cs = some y) :
    ∃ x : Cr, cs = x.cells.toList ∧ x.Ok := by
  obtain ⟨xs, k, hk, hxy, hcl, hxl, hf⟩ := DataW.trod_struct Try.underlying25 h
  rw [cofC] at hcl
  match xs, hxl, cs, hcl with
  | [y0, y1, y2, y3, y4, y5, y6, y7], _, [v0, v1, v2, v3, v4, v5, v6, v7], _ =>
    have g0 := hf 0 _ rfl
    have g1 := hf 1 _ rfl
    have g2 := hf 2 _ rfl
    have g3 := hf 3 _ rfl
    have g4 := hf 4 _ rfl
    have g5 := hf 5 _ rfl
    have g6 := hf 6 _ rfl
    have g7 := hf 7 _ rfl
    simp [cofI, cofU] at g0 g1 g2 g3 g4 g5 g6 g7
    obtain ⟨a0, e0, _, w0⟩ := DataW.trod_int Try.underlying3 g0
    obtain ⟨a1, e1, _, w1⟩ := DataW.trod_int Try.underlying23 g1
    obtain ⟨a2, e2, _, w2⟩ := DataW.trod_int Try.underlying23 g2
    obtain ⟨a3, e3, _, w3⟩ := DataW.trod_int Try.underlying23 g3
    obtain ⟨a4, e4, _, w4⟩ := DataW.trod_int Try.underlying23 g4
    obtain ⟨a5, e5, _, w5⟩ := DataW.trod_int Try.underlying23 g5
    obtain ⟨a6, e6, _, w6⟩ := DataW.trod_int Try.underlying23 g6
    obtain ⟨a7, e7, _, w7⟩ := DataW.trod_int Try.underlying23 g7
    simp only [List.cons.injEq, and_true] at e0 e1 e2 e3 e4 e5 e6 e7
    subst e0; subst e1; subst e2; subst e3; subst e4; subst e5; subst e6; subst e7
    exact ⟨⟨a0, a1, a2, a3, a4, a5, a6, a7⟩, rfl, ⟨wf_i64n w0, wf_u32n w1, wf_u32n w2, wf_u32n w3, wf_u32n w4, wf_u32n w5, wf_u32n w6, wf_u32n w7⟩⟩
end
end Go.Proofs.Ytdlgdlgpmfccmaa
