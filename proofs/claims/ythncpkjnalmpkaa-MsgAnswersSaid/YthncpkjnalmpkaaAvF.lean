import Derived.Test.YthncpkjnalmpkaaAvR
import Derived.Test.YthncpkjnalmpkaaBytesF
import Derived.Deep.Slices
import Derived.SizedLaws
import Derived.ChangeOld
namespace Go.Proofs.Ythncpkjnalmpkaa
open Go Go.RowKit Go.ChangeShapes Go.WideShapes
set_option linter.unusedVariables false
/-! What comes in to the laws of avp. -/
theorem wf_u8n {n : Int} (h : (Lit.int .u8 n).wf = true) : 0 ≤ n ∧ n < 256 := by
  simp [Lit.wf] at h
  have h1 : IntKind.u8.min = 0 := by rfl
  have h2 : IntKind.u8.max = 255 := by rfl
  omega
theorem wf_u32n {n : Int} (h : (Lit.int .u32 n).wf = true) : 0 ≤ n ∧ n < 4294967296 := by
  simp [Lit.wf] at h
  have h1 : IntKind.u32.min = 0 := by rfl
  have h2 : IntKind.u32.max = 4294967295 := by rfl
  omega
theorem cof4 : Try.prog.cellsOf 4 = 1 := by kernel_rfl
theorem cof5 : Try.prog.cellsOf 5 = 1 := by kernel_rfl
theorem cof23 : Try.prog.cellsOf 26 = 1 := by kernel_rfl
theorem cof36 : Try.prog.cellsOf 22 = 1 := by kernel_rfl
theorem cof38 : Try.prog.cellsOf 56 = 5 := by kernel_rfl
theorem bof5 : Try.prog.bytesOf 5 = 1 := by kernel_rfl
theorem bof38 : Try.prog.bytesOf 56 = 40 := by kernel_rfl
theorem weightsAll_mem {H : Type} {P : Program} {e : TypeId} {d : DataW H} : ∀ {L : List (DataW H)}, d ∈ L → ∀ n ∈ d.weights P e, n ∈ DataW.weightsAll P e L
  | [], h, _, _ => by cases h
  | x :: L, h, n, hn => by
    simp only [DataW.weightsAll, List.mem_append]
    rcases List.mem_cons.1 h with rfl | h
    · exact .inl hn
    · exact .inr (weightsAll_mem h n hn)
section
variable {H : Type} {enc : TypeId × Value → H} {w : World} {held : Bool}
set_option maxRecDepth 100000 in
theorem bytes_elem {n : Nat} {v : Value} {y : DataW H × List MemPlace} (h : DataW.trod enc Try.prog w 0 (fun _ => true) held n 26 [v] = some y) (hw : ∀ m ∈ y.1.weights Try.prog 26, m ≤ reachBytes) :
    ∃ (xs : List Int) (A : Option Addr) (l c : Nat), v = .slice A l c ∧ InB w A l c xs ∧ l ≤ 140737488351232 := by
  rcases open_ints Try.underlying26 Try.underlying5 (by kernel_rfl) h with ⟨hcs, _⟩ | ⟨x, l, c, zs, hcs, _, hl, hm, hz, hx, hcell, hwz⟩
  · simp at hcs
    exact ⟨[], none, 0, 0, by simpa using hcs, inB_nil w, by simp⟩
  · simp at hcs
    simp only [if_true] at hz
    have hr := hw ((l + (zs.length - l)) * 1) (by
      rw [hx]
      simp only [DataW.weights, Try.underlying26, bof5, List.mem_cons]
      left
      simp only [lits, List.length_map, List.length_take, List.length_drop]
      congr 2; omega)
    have hi := intsIn_mk (by_ := 1) (k := .u8) (w := w) (x := x) hl hz hcell hwz (by simp only [reachBytes] at hr; omega)
    exact ⟨zs.take l, some x, l, c, hcs, inB_of hi, reach_of hi⟩
/-- The cells of a slice whose elements take s cells each. -/
theorem cells_of_each {α : Type} [Inhabited α] {x : Addr} {s l : Nat} (hs : 0 < s) (enc1 : α → List Value) (q : Nat → α) (hlen : ∀ a, (enc1 a).length = s)
    (hq : ∀ i, i < l → ∀ j v, (enc1 (q i))[j]? = some v → w.cell? ((x.add (i * s)).add j) = some v) : Cells w (some x) (((List.range l).map q).flatMap enc1) := by
  intro hne
  have h0 : 0 < l := by
    rcases Nat.eq_zero_or_pos l with h | h
    · subst h; exact absurd rfl hne
    · exact h
  obtain ⟨b, o, sp⟩ := x
  have h00 := hq 0 h0 0 ((enc1 (q 0))[0]'(by rw [hlen]; exact hs)) (List.getElem?_eq_getElem _)
  have hsp : sp = none := by
    rw [Nat.zero_mul, Addr.add_zero', Addr.add_zero'] at h00
    cases sp with
    | none => rfl
    | some s => simp [World.cell?] at h00; split at h00 <;> simp at h00
  subst hsp
  have hb : b < w.heap.size := by
    rw [Nat.zero_mul, Addr.add_zero', Addr.add_zero'] at h00
    simp only [World.cell?] at h00
    rcases Nat.lt_or_ge b w.heap.size with h | h
    · exact h
    · rw [Array.getElem?_eq_none (by omega)] at h00; simp at h00
  refine ⟨b, o, rfl, hb, fun j u hu => ?_⟩
  have key : ∀ (L : List α) (j : Nat) (u : Value), (L.flatMap enc1)[j]? = some u → ∃ a, L[j / s]? = some a ∧ (enc1 a)[j % s]? = some u := by
    intro L
    induction L with
    | nil => intro j u h; simp at h
    | cons a L ih =>
      intro j u h
      simp only [List.flatMap_cons] at h
      by_cases hj : j < s
      · rw [List.getElem?_append_left (by rw [hlen]; exact hj)] at h
        exact ⟨a, by rw [Nat.div_eq_of_lt hj]; rfl, by rw [Nat.mod_eq_of_lt hj]; exact h⟩
      · rw [List.getElem?_append_right (by rw [hlen]; omega), hlen] at h
        obtain ⟨a', h1, h2⟩ := ih _ _ h
        refine ⟨a', ?_, ?_⟩
        · rw [show j / s = (j - s) / s + 1 by rw [Nat.div_eq_sub_div hs (by omega)]]
          simpa using h1
        · rw [Nat.mod_eq_sub_mod (by omega)]; exact h2
  obtain ⟨a, h1, h2⟩ := key _ j u hu
  have hil : j / s < l := by have := (List.getElem?_eq_some_iff.1 h1).1; simpa using this
  have ha : q (j / s) = a := by simpa [hil] using h1
  have := hq (j / s) hil (j % s) u (by rw [ha]; exact h2)
  rw [Addr.add_lit, Addr.add_lit] at this
  rw [show o + j = o + j / s * s + j % s by rw [Nat.add_assoc, Nat.mul_comm, Nat.div_add_mod]]
  exact this
set_option maxRecDepth 100000 in
theorem avp_elem {n : Nat} {cs : List Value} {y : DataW H × List MemPlace} (h : DataW.trod enc Try.prog w 0 (fun _ => true) held n 56 cs = some y) (hw : ∀ m ∈ y.1.weights Try.prog 56, m ≤ reachBytes) :
    ∃ x : AvB, cs = avc x ∧ AvIn w x := by
  obtain ⟨xs, k, hk, hxy, hcl, hxl, hf⟩ := DataW.trod_struct Try.underlying56 h
  rw [cof38] at hcl
  match xs, hxl, cs, hcl with
  | [y0, y1, y2, y3, y4], _, [v0, v1, v2, v3, v4], _ =>
    have g0 := hf 0 _ rfl
    have g1 := hf 1 _ rfl
    have g2 := hf 2 _ rfl
    have g3 := hf 3 _ rfl
    have g4 := hf 4 _ rfl
    simp [cof4, cof23, cof36] at g0 g1 g2 g3 g4
    obtain ⟨a0, e0, _, w0⟩ := DataW.trod_int Try.underlying22 g0
    obtain ⟨a1, e1, _, w1⟩ := DataW.trod_int Try.underlying22 g1
    obtain ⟨a2, e2, _⟩ := DataW.trod_bool Try.underlying4 g2
    obtain ⟨a3, e3, _⟩ := DataW.trod_bool Try.underlying4 g3
    obtain ⟨bs, A, l, c, rfl, hB, hr⟩ := bytes_elem g4 (fun m hm => hw m (by
      rw [hxy]
      simp only [DataW.weights, Try.underlying56]
      exact DataW.weights_mem_each (j := 4) rfl rfl m hm))
    simp only [List.cons.injEq, and_true] at e0 e1 e2 e3
    subst e0; subst e1; subst e2; subst e3
    exact ⟨⟨a0, a1, a2, a3, A, l, c, bs⟩, rfl, hB, ⟨wf_u32n w0, wf_u32n w1, hB.byt⟩, hr⟩
set_option maxRecDepth 100000 in
theorem avs_elem {n : Nat} {v : Value} {y : DataW H × List MemPlace} (h : DataW.trod enc Try.prog w 0 (fun _ => true) held n 23 [v] = some y) (hw : ∀ m ∈ y.1.weights Try.prog 23, m ≤ reachBytes) :
    ∃ (xs : List AvB) (A : Option Addr) (l c : Nat), v = .slice A l c ∧ InL w A l c xs ∧ l ≤ 140737488351232 := by
  rcases Go.Deep.open_slice Try.underlying23 h with ⟨hcs, _⟩ | ⟨x, l, c, m, k, D, Pl, hcs, _, hl, hm, hmm, hx, hel⟩
  · simp at hcs
    exact ⟨[], none, 0, 0, by simpa using hcs, inL_nil w, by simp⟩
  · simp at hcs
    simp only [if_true] at hmm
    subst hmm
    have each : ∀ i, i < l → ∃ q : AvB, (∀ j v, (avc q)[j]? = some v → w.cell? ((x.add (i * 5)).add j) = some v) ∧ AvIn w q := by
      intro i hi
      obtain ⟨cs', h1, h2⟩ := hel i (by omega)
      rw [cof38] at h1
      obtain ⟨_, hlen, hcell⟩ := World.cells?_some h1
      obtain ⟨g, rfl, hok⟩ := avp_elem h2 (fun m hm => hw m (by
        rw [hx]
        simp only [DataW.weights, Try.underlying23, List.mem_cons, List.mem_append]
        right; left
        exact weightsAll_mem (List.mem_map.2 ⟨i, List.mem_range.2 hi, rfl⟩) m hm))
      refine ⟨g, fun j v hv => ?_, hok⟩
      have := hcell j (by have := (List.getElem?_eq_some_iff.1 hv).1; simpa [avc, avcL] using this)
      rw [this]; exact hv
    haveI : Inhabited AvB := ⟨⟨0, 0, false, false, none, 0, 0, []⟩⟩
    obtain ⟨q, hq⟩ := Go.Deep.choose_lt each
    have hr : l * 40 ≤ reachBytes := by
      have := hw ((l + (m - l)) * 40) (by
        rw [hx]
        simp only [DataW.weights, Try.underlying23, bof38, List.mem_cons]
        left
        simp)
      omega
    refine ⟨(List.range l).map q, some x, l, m, hcs, ⟨cells_of_each (by omega) avc q (fun _ => rfl) (fun i hi => (hq i hi).1), fun g hg => ?_, hl, by simp⟩, by simp only [reachBytes] at hr; omega⟩
    obtain ⟨i, hi, rfl⟩ := List.mem_map.1 hg
    exact (hq i (List.mem_range.1 hi)).2
set_option maxRecDepth 100000 in
/-- A struct that is an argument: its cells. -/
theorem agg_of {v : Value} {t : TypeId} {fs : Array Field} {base : Nat} {l : List Value} (ht : Try.prog.underlying t = some (.struct fs)) (hv : Value.okWide Try.prog w .any base t v) (hc : v.cells.toList = l) : v = .agg ⟨l⟩ := by
  obtain ⟨cs, rfl, _⟩ := okWide_struct ht hv
  subst hc
  simp [Value.cells]
end
end Go.Proofs.Ythncpkjnalmpkaa
