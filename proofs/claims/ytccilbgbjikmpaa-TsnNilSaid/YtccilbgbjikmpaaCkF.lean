import Derived.Test.YtccilbgbjikmpaaCk17
import Derived.Test.YtccilbgbjikmpaaCk21
import Derived.Test.YtccilbgbjikmpaaCk0
import Derived.Test.YtccilbgbjikmpaaBytes
import Derived.Deep.Slices
import Derived.SizedLaws
import Derived.ChangeOld
namespace Go.Proofs.Ytccilbgbjikmpaa
open Go Go.RowKit Go.ChangeShapes Go.WideShapes
set_option linter.unusedVariables false
/-! What comes in to the laws of chunk: chunks, lists of them, hellos, pieces, heards. -/
theorem wf_u8n {n : Int} (h : (Lit.int .u8 n).wf = true) : 0 ≤ n ∧ n < 256 := by
  simp [Lit.wf] at h
  have h1 : IntKind.u8.min = 0 := by rfl
  have h2 : IntKind.u8.max = 255 := by rfl
  omega
theorem wf_u16n {n : Int} (h : (Lit.int .u16 n).wf = true) : 0 ≤ n ∧ n < 65536 := by
  simp [Lit.wf] at h
  have h1 : IntKind.u16.min = 0 := by rfl
  have h2 : IntKind.u16.max = 65535 := by rfl
  omega
theorem wf_u32n {n : Int} (h : (Lit.int .u32 n).wf = true) : 0 ≤ n ∧ n < 4294967296 := by
  simp [Lit.wf] at h
  have h1 : IntKind.u32.min = 0 := by rfl
  have h2 : IntKind.u32.max = 4294967295 := by rfl
  omega
theorem bof5 : Try.prog.bytesOf 5 = 1 := by kernel_rfl
theorem bof36 : Try.prog.bytesOf 22 = 4 := by kernel_rfl
theorem weightsAll_mem {H : Type} {P : Program} {e : TypeId} {d : DataW H} : ∀ {L : List (DataW H)}, d ∈ L → ∀ n ∈ d.weights P e, n ∈ DataW.weightsAll P e L
  | [], h, _, _ => by cases h
  | x :: L, h, n, hn => by
    simp only [DataW.weightsAll, List.mem_append]
    rcases List.mem_cons.1 h with rfl | h
    · exact .inl hn
    · exact .inr (weightsAll_mem h n hn)
section
variable {H : Type} {enc : TypeId × Value → H} {w : World} {held : Bool}
set_option maxRecDepth 100000 in
theorem bytes_elem {n : Nat} {v : Value} {y : DataW H × List MemPlace} (h : DataW.trod enc Try.prog w 0 (fun _ => true) held n 23 [v] = some y) (hw : ∀ m ∈ y.1.weights Try.prog 23, m ≤ reachBytes) :
    ∃ (xs : List Int) (A : Option Addr) (l c : Nat), v = .slice A l c ∧ InB w A l c xs ∧ l ≤ 140737488351232 := by
  rcases open_ints Try.underlying23 Try.underlying5 (by kernel_rfl) h with ⟨hcs, _⟩ | ⟨x, l, c, zs, hcs, _, hl, hm, hz, hx, hcell, hwz⟩
  · simp at hcs
    exact ⟨[], none, 0, 0, by simpa using hcs, inB_nil w, by simp⟩
  · simp at hcs
    simp only [if_true] at hz
    have hr := hw ((l + (zs.length - l)) * 1) (by
      rw [hx]
      simp only [DataW.weights, Try.underlying23, bof5, List.mem_cons]
      left
      simp only [lits, List.length_map, List.length_take, List.length_drop]
      congr 2; omega)
    have hi := intsIn_mk (by_ := 1) (k := .u8) (w := w) (x := x) hl hz hcell hwz (by simp only [reachBytes] at hr; omega)
    exact ⟨zs.take l, some x, l, c, hcs, inB_of hi, reach_of hi⟩
set_option maxRecDepth 100000 in
theorem dups_elem {n : Nat} {v : Value} {y : DataW H × List MemPlace} (h : DataW.trod enc Try.prog w 0 (fun _ => true) held n 24 [v] = some y) (hw : ∀ m ∈ y.1.weights Try.prog 24, m ≤ reachBytes) :
    ∃ (xs : List Int) (A : Option Addr) (l c : Nat), v = .slice A l c ∧ InD w A l c xs ∧ l * 4 ≤ 140737488351232 := by
  rcases open_ints Try.underlying24 Try.underlying22 (by kernel_rfl) h with ⟨hcs, _⟩ | ⟨x, l, c, zs, hcs, _, hl, hm, hz, hx, hcell, hwz⟩
  · simp at hcs
    exact ⟨[], none, 0, 0, by simpa using hcs, ⟨Cells.nil _ _, (fun d hd => by cases hd), Nat.le_refl _, rfl⟩, by simp⟩
  · simp at hcs
    simp only [if_true] at hz
    have hr := hw ((l + (zs.length - l)) * 4) (by
      rw [hx]
      simp only [DataW.weights, Try.underlying24, bof36, List.mem_cons]
      left
      simp only [lits, List.length_map, List.length_take, List.length_drop]
      congr 2; omega)
    have hi := intsIn_mk (by_ := 4) (k := .u32) (w := w) (x := x) hl hz hcell hwz (by simp only [reachBytes] at hr; omega)
    obtain ⟨⟨A, c', e, hc, hx'⟩, h2, h3, h4⟩ := hi
    injection e with e1 e2 e3
    subst e1; subst e3
    refine ⟨zs.take l, some x, l, c, hcs, ⟨hx', fun d hd => wf_u32n (h4 d hd), hl, h2.symm⟩, by simp only [reachBytes] at hr; omega⟩
set_option maxRecDepth 100000 in
/-- A struct that is an argument: its cells. -/
theorem agg_of {v : Value} {t : TypeId} {fs : Array Field} {base : Nat} {l : List Value} (ht : Try.prog.underlying t = some (.struct fs)) (hv : Value.okWide Try.prog w .any base t v) (hc : v.cells.toList = l) : v = .agg ⟨l⟩ := by
  obtain ⟨cs, rfl, _⟩ := okWide_struct ht hv
  subst hc
  simp [Value.cells]
end
end Go.Proofs.Ytccilbgbjikmpaa
