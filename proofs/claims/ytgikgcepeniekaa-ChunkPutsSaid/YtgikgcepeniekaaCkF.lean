import Derived.Test.YtgikgcepeniekaaCk17
import Derived.Test.YtgikgcepeniekaaCk21
import Derived.Test.YtgikgcepeniekaaCk7
import Derived.Test.YtgikgcepeniekaaCk13
import Derived.Test.YtgikgcepeniekaaBytesF
import Derived.Deep.Slices
import Derived.SizedLaws
import Derived.ChangeOld
namespace Go.Proofs.Ytgikgcepeniekaa
open Go Go.RowKit Go.ChangeShapes Go.WideShapes
set_option linter.unusedVariables false
/-! What comes in to the laws of chunk: chunks, lists of them, hellos, pieces, heards. -/
theorem wf_u8n {n : Int} (h : (Lit.int .u8 n).wf = true) : 0 ≤ n ∧ n < 256 := by
  simp [Lit.wf] at h
  have h1 : IntKind.u8.min = 0 := by rfl
  have h2 : IntKind.u8.max = 255 := by rfl
  omega
theorem wf_u16n {n : Int} (h : (Lit.int .u16 n).wf = true) : 0 ≤ n ∧ n < 65536 := by
  simp [Lit.wf] at h
  have h1 : IntKind.u16.min = 0 := by rfl
  have h2 : IntKind.u16.max = 65535 := by rfl
  omega
theorem wf_u32n {n : Int} (h : (Lit.int .u32 n).wf = true) : 0 ≤ n ∧ n < 4294967296 := by
  simp [Lit.wf] at h
  have h1 : IntKind.u32.min = 0 := by rfl
  have h2 : IntKind.u32.max = 4294967295 := by rfl
  omega
theorem cof4 : Try.prog.cellsOf 4 = 1 := by kernel_rfl
theorem cof5 : Try.prog.cellsOf 5 = 1 := by kernel_rfl
theorem cof23 : Try.prog.cellsOf 23 = 1 := by kernel_rfl
theorem cof36 : Try.prog.cellsOf 36 = 1 := by kernel_rfl
theorem cof37 : Try.prog.cellsOf 37 = 1 := by kernel_rfl
theorem cof56 : Try.prog.cellsOf 56 = 1 := by kernel_rfl
theorem cof57 : Try.prog.cellsOf 57 = 1 := by kernel_rfl
theorem cof39 : Try.prog.cellsOf 39 = 6 := by kernel_rfl
theorem cof41 : Try.prog.cellsOf 41 = 3 := by kernel_rfl
theorem cof50 : Try.prog.cellsOf 50 = 7 := by kernel_rfl
theorem cof59 : Try.prog.cellsOf 59 = 4 := by kernel_rfl
theorem cof93 : Try.prog.cellsOf 93 = 2 := by kernel_rfl
theorem bof5 : Try.prog.bytesOf 5 = 1 := by kernel_rfl
theorem bof36 : Try.prog.bytesOf 36 = 4 := by kernel_rfl
theorem bof41 : Try.prog.bytesOf 41 = 32 := by kernel_rfl
theorem bof93 : Try.prog.bytesOf 93 = 4 := by kernel_rfl
theorem weightsAll_mem {H : Type} {P : Program} {e : TypeId} {d : DataW H} : ∀ {L : List (DataW H)}, d ∈ L → ∀ n ∈ d.weights P e, n ∈ DataW.weightsAll P e L
  | [], h, _, _ => by cases h
  | x :: L, h, n, hn => by
    simp only [DataW.weightsAll, List.mem_append]
    rcases List.mem_cons.1 h with rfl | h
    · exact .inl hn
    · exact .inr (weightsAll_mem h n hn)
section
variable {H : Type} {enc : TypeId × Value → H} {w : World} {held : Bool}
set_option maxRecDepth 100000 in
theorem bytes_elem {n : Nat} {v : Value} {y : DataW H × List MemPlace} (h : DataW.trod enc Try.prog w 0 (fun _ => true) held n 23 [v] = some y) (hw : ∀ m ∈ y.1.weights Try.prog 23, m ≤ reachBytes) :
    ∃ (xs : List Int) (A : Option Addr) (l c : Nat), v = .slice A l c ∧ InB w A l c xs ∧ l ≤ 140737488351232 := by
  rcases open_ints Try.underlying23 Try.underlying5 (by kernel_rfl) h with ⟨hcs, _⟩ | ⟨x, l, c, zs, hcs, _, hl, hm, hz, hx, hcell, hwz⟩
  · simp at hcs
    exact ⟨[], none, 0, 0, by simpa using hcs, inB_nil w, by simp⟩
  · simp at hcs
    simp only [if_true] at hz
    have hr := hw ((l + (zs.length - l)) * 1) (by
      rw [hx]
      simp only [DataW.weights, Try.underlying23, bof5, List.mem_cons]
      left
      simp only [lits, List.length_map, List.length_take, List.length_drop]
      congr 2; omega)
    have hi := intsIn_mk (by_ := 1) (k := .u8) (w := w) (x := x) hl hz hcell hwz (by simp only [reachBytes] at hr; omega)
    exact ⟨zs.take l, some x, l, c, hcs, inB_of hi, reach_of hi⟩
set_option maxRecDepth 100000 in
theorem dups_elem {n : Nat} {v : Value} {y : DataW H × List MemPlace} (h : DataW.trod enc Try.prog w 0 (fun _ => true) held n 57 [v] = some y) (hw : ∀ m ∈ y.1.weights Try.prog 57, m ≤ reachBytes) :
    ∃ (xs : List Int) (A : Option Addr) (l c : Nat), v = .slice A l c ∧ InD w A l c xs ∧ l * 4 ≤ 140737488351232 := by
  rcases open_ints Try.underlying57 Try.underlying36 (by kernel_rfl) h with ⟨hcs, _⟩ | ⟨x, l, c, zs, hcs, _, hl, hm, hz, hx, hcell, hwz⟩
  · simp at hcs
    exact ⟨[], none, 0, 0, by simpa using hcs, ⟨Cells.nil _ _, (fun d hd => by cases hd), Nat.le_refl _, rfl⟩, by simp⟩
  · simp at hcs
    simp only [if_true] at hz
    have hr := hw ((l + (zs.length - l)) * 4) (by
      rw [hx]
      simp only [DataW.weights, Try.underlying57, bof36, List.mem_cons]
      left
      simp only [lits, List.length_map, List.length_take, List.length_drop]
      congr 2; omega)
    have hi := intsIn_mk (by_ := 4) (k := .u32) (w := w) (x := x) hl hz hcell hwz (by simp only [reachBytes] at hr; omega)
    obtain ⟨⟨A, c', e, hc, hx'⟩, h2, h3, h4⟩ := hi
    injection e with e1 e2 e3
    subst e1; subst e3
    refine ⟨zs.take l, some x, l, c, hcs, ⟨hx', fun d hd => wf_u32n (h4 d hd), hl, h2.symm⟩, by simp only [reachBytes] at hr; omega⟩
set_option maxRecDepth 100000 in
theorem gap_elem {n : Nat} {cs : List Value} {y : DataW H × List MemPlace} (h : DataW.trod enc Try.prog w 0 (fun _ => true) held n 93 cs = some y) :
    ∃ g : Int × Int, cs = gpc g ∧ (0 ≤ g.1 ∧ g.1 < 65536) ∧ 0 ≤ g.2 ∧ g.2 < 65536 := by
  obtain ⟨xs, k, hk, hxy, hcl, hxl, hf⟩ := DataW.trod_struct Try.underlying93 h
  rw [cof93] at hcl
  match xs, hxl, cs, hcl with
  | [y0, y1], _, [v0, v1], _ =>
    have g0 := hf 0 _ rfl
    have g1 := hf 1 _ rfl
    simp [cof37] at g0 g1
    obtain ⟨a0, e0, _, w0⟩ := DataW.trod_int Try.underlying37 g0
    obtain ⟨a1, e1, _, w1⟩ := DataW.trod_int Try.underlying37 g1
    simp only [List.cons.injEq, and_true] at e0 e1
    subst e0; subst e1
    exact ⟨(a0, a1), rfl, wf_u16n w0, wf_u16n w1⟩
/-- The cells of a slice whose elements take s cells each. -/
theorem cells_of_each {α : Type} [Inhabited α] {x : Addr} {s l : Nat} (hs : 0 < s) (enc1 : α → List Value) (q : Nat → α) (hlen : ∀ a, (enc1 a).length = s)
    (hq : ∀ i, i < l → ∀ j v, (enc1 (q i))[j]? = some v → w.cell? ((x.add (i * s)).add j) = some v) : Cells w (some x) (((List.range l).map q).flatMap enc1) := by
  intro hne
  have h0 : 0 < l := by
    rcases Nat.eq_zero_or_pos l with h | h
    · subst h; exact absurd rfl hne
    · exact h
  obtain ⟨b, o, sp⟩ := x
  have h00 := hq 0 h0 0 ((enc1 (q 0))[0]'(by rw [hlen]; exact hs)) (List.getElem?_eq_getElem _)
  have hsp : sp = none := by
    rw [Nat.zero_mul, Addr.add_zero', Addr.add_zero'] at h00
    cases sp with
    | none => rfl
    | some s => simp [World.cell?] at h00; split at h00 <;> simp at h00
  subst hsp
  have hb : b < w.heap.size := by
    rw [Nat.zero_mul, Addr.add_zero', Addr.add_zero'] at h00
    simp only [World.cell?] at h00
    rcases Nat.lt_or_ge b w.heap.size with h | h
    · exact h
    · rw [Array.getElem?_eq_none (by omega)] at h00; simp at h00
  refine ⟨b, o, rfl, hb, fun j u hu => ?_⟩
  have key : ∀ (L : List α) (j : Nat) (u : Value), (L.flatMap enc1)[j]? = some u → ∃ a, L[j / s]? = some a ∧ (enc1 a)[j % s]? = some u := by
    intro L
    induction L with
    | nil => intro j u h; simp at h
    | cons a L ih =>
      intro j u h
      simp only [List.flatMap_cons] at h
      by_cases hj : j < s
      · rw [List.getElem?_append_left (by rw [hlen]; exact hj)] at h
        exact ⟨a, by rw [Nat.div_eq_of_lt hj]; rfl, by rw [Nat.mod_eq_of_lt hj]; exact h⟩
      · rw [List.getElem?_append_right (by rw [hlen]; omega), hlen] at h
        obtain ⟨a', h1, h2⟩ := ih _ _ h
        refine ⟨a', ?_, ?_⟩
        · rw [show j / s = (j - s) / s + 1 by rw [Nat.div_eq_sub_div hs (by omega)]]
          simpa using h1
        · rw [Nat.mod_eq_sub_mod (by omega)]; exact h2
  obtain ⟨a, h1, h2⟩ := key _ j u hu
  have hil : j / s < l := by have := (List.getElem?_eq_some_iff.1 h1).1; simpa using this
  have ha : q (j / s) = a := by simpa [hil] using h1
  have := hq (j / s) hil (j % s) u (by rw [ha]; exact h2)
  rw [Addr.add_lit, Addr.add_lit] at this
  rw [show o + j = o + j / s * s + j % s by rw [Nat.add_assoc, Nat.mul_comm, Nat.div_add_mod]]
  exact this
set_option maxRecDepth 100000 in
theorem gaps_elem {n : Nat} {v : Value} {y : DataW H × List MemPlace} (h : DataW.trod enc Try.prog w 0 (fun _ => true) held n 56 [v] = some y) (hw : ∀ m ∈ y.1.weights Try.prog 56, m ≤ reachBytes) :
    ∃ (xs : List (Int × Int)) (A : Option Addr) (l c : Nat), v = .slice A l c ∧ InG w A l c xs ∧ l * 4 ≤ 140737488351232 := by
  rcases Go.Deep.open_slice Try.underlying56 h with ⟨hcs, _⟩ | ⟨x, l, c, m, k, D, Pl, hcs, _, hl, hm, hmm, hx, hel⟩
  · simp at hcs
    exact ⟨[], none, 0, 0, by simpa using hcs, ⟨Cells.nil _ _, (fun d hd => by cases hd), Nat.le_refl _, rfl⟩, by simp⟩
  · simp at hcs
    simp only [if_true] at hmm
    subst hmm
    have each : ∀ i, i < l → ∃ g : Int × Int, (∀ j v, (gpc g)[j]? = some v → w.cell? ((x.add (i * 2)).add j) = some v) ∧ (0 ≤ g.1 ∧ g.1 < 65536) ∧ 0 ≤ g.2 ∧ g.2 < 65536 := by
      intro i hi
      obtain ⟨cs', h1, h2⟩ := hel i (by omega)
      rw [cof93] at h1
      obtain ⟨_, hlen, hcell⟩ := World.cells?_some h1
      obtain ⟨g, rfl, hok⟩ := gap_elem h2
      refine ⟨g, fun j v hv => ?_, hok⟩
      have := hcell j (by have := (List.getElem?_eq_some_iff.1 hv).1; simpa [gpc] using this)
      rw [this]; exact hv
    obtain ⟨q, hq⟩ := Go.Deep.choose_lt each
    have hr : l * 4 ≤ reachBytes := by
      have := hw ((l + (m - l)) * 4) (by
        rw [hx]
        simp only [DataW.weights, Try.underlying56, bof93, List.mem_cons]
        left
        simp)
      omega
    refine ⟨(List.range l).map q, some x, l, m, hcs, ⟨cells_of_each (by omega) gpc q (fun _ => rfl) (fun i hi => (hq i hi).1), fun g hg => ?_, hl, by simp⟩, by simpa [reachBytes] using hr⟩
    obtain ⟨i, hi, rfl⟩ := List.mem_map.1 hg
    exact (hq i (List.mem_range.1 hi)).2
set_option maxRecDepth 100000 in
theorem chunk_elem {n : Nat} {cs : List Value} {y : DataW H × List MemPlace} (h : DataW.trod enc Try.prog w 0 (fun _ => true) held n 41 cs = some y) (hw : ∀ m ∈ y.1.weights Try.prog 41, m ≤ reachBytes) :
    ∃ x : ChB, cs = chc x ∧ ChIn w x := by
  obtain ⟨xs, k, hk, hxy, hcl, hxl, hf⟩ := DataW.trod_struct Try.underlying41 h
  rw [cof41] at hcl
  match xs, hxl, cs, hcl with
  | [y0, y1, y2], _, [v0, v1, v2], _ =>
    have g0 := hf 0 _ rfl
    have g1 := hf 1 _ rfl
    have g2 := hf 2 _ rfl
    simp [cof5, cof23] at g0 g1 g2
    obtain ⟨a0, e0, _, w0⟩ := DataW.trod_int Try.underlying5 g0
    obtain ⟨a1, e1, _, w1⟩ := DataW.trod_int Try.underlying5 g1
    obtain ⟨bs, A, l, c, rfl, hB, hr⟩ := bytes_elem g2 (fun m hm => hw m (by
      rw [hxy]
      simp only [DataW.weights, Try.underlying41]
      exact DataW.weights_mem_each (j := 2) rfl rfl m hm))
    simp only [List.cons.injEq, and_true] at e0 e1
    subst e0; subst e1
    exact ⟨⟨a0, a1, A, l, c, bs⟩, rfl, hB, wf_u8n w0, wf_u8n w1, hr⟩
set_option maxRecDepth 100000 in
theorem hello_elem {n : Nat} {cs : List Value} {y : DataW H × List MemPlace} (h : DataW.trod enc Try.prog w 0 (fun _ => true) held n 39 cs = some y) (hw : ∀ m ∈ y.1.weights Try.prog 39, m ≤ reachBytes) :
    ∃ (x : Ck.Hel) (A : Option Addr) (l c : Nat), cs = [.int .u32 x.tag, .int .u32 x.win, .int .u16 x.out, .int .u16 x.inn, .int .u32 x.tsn, .slice A l c] ∧ Ck.HelOk x ∧ InB w A l c x.ck ∧ l ≤ 140737488351232 := by
  obtain ⟨xs, k, hk, hxy, hcl, hxl, hf⟩ := DataW.trod_struct Try.underlying39 h
  rw [cof39] at hcl
  match xs, hxl, cs, hcl with
  | [y0, y1, y2, y3, y4, y5], _, [v0, v1, v2, v3, v4, v5], _ =>
    have g0 := hf 0 _ rfl
    have g1 := hf 1 _ rfl
    have g2 := hf 2 _ rfl
    have g3 := hf 3 _ rfl
    have g4 := hf 4 _ rfl
    have g5 := hf 5 _ rfl
    simp [cof36, cof37, cof23] at g0 g1 g2 g3 g4 g5
    obtain ⟨a0, e0, _, w0⟩ := DataW.trod_int Try.underlying36 g0
    obtain ⟨a1, e1, _, w1⟩ := DataW.trod_int Try.underlying36 g1
    obtain ⟨a2, e2, _, w2⟩ := DataW.trod_int Try.underlying37 g2
    obtain ⟨a3, e3, _, w3⟩ := DataW.trod_int Try.underlying37 g3
    obtain ⟨a4, e4, _, w4⟩ := DataW.trod_int Try.underlying36 g4
    obtain ⟨bs, A, l, c, rfl, hB, hr⟩ := bytes_elem g5 (fun m hm => hw m (by
      rw [hxy]
      simp only [DataW.weights, Try.underlying39]
      exact DataW.weights_mem_each (j := 5) rfl rfl m hm))
    simp only [List.cons.injEq, and_true] at e0 e1 e2 e3 e4
    subst e0; subst e1; subst e2; subst e3; subst e4
    exact ⟨⟨a0, a1, a2, a3, a4, bs⟩, A, l, c, rfl, ⟨wf_u32n w0, wf_u32n w1, wf_u16n w2, wf_u16n w3, wf_u32n w4⟩, hB, hr⟩
set_option maxRecDepth 100000 in
theorem piece_elem {n : Nat} {cs : List Value} {y : DataW H × List MemPlace} (h : DataW.trod enc Try.prog w 0 (fun _ => true) held n 50 cs = some y) (hw : ∀ m ∈ y.1.weights Try.prog 50, m ≤ reachBytes) :
    ∃ (x : Ck.Pc) (A : Option Addr) (l c : Nat), cs = [.int .u32 x.tsn, .int .u16 x.str, .int .u16 x.seq, .bool x.bg, .bool x.en, .bool x.un, .slice A l c] ∧ Ck.PcOk x ∧ InB w A l c x.bs ∧ l ≤ 140737488351232 := by
  obtain ⟨xs, k, hk, hxy, hcl, hxl, hf⟩ := DataW.trod_struct Try.underlying50 h
  rw [cof50] at hcl
  match xs, hxl, cs, hcl with
  | [y0, y1, y2, y3, y4, y5, y6], _, [v0, v1, v2, v3, v4, v5, v6], _ =>
    have g0 := hf 0 _ rfl
    have g1 := hf 1 _ rfl
    have g2 := hf 2 _ rfl
    have g3 := hf 3 _ rfl
    have g4 := hf 4 _ rfl
    have g5 := hf 5 _ rfl
    have g6 := hf 6 _ rfl
    simp [cof36, cof37, cof23, cof4] at g0 g1 g2 g3 g4 g5 g6
    obtain ⟨a0, e0, _, w0⟩ := DataW.trod_int Try.underlying36 g0
    obtain ⟨a1, e1, _, w1⟩ := DataW.trod_int Try.underlying37 g1
    obtain ⟨a2, e2, _, w2⟩ := DataW.trod_int Try.underlying37 g2
    obtain ⟨a3, e3, _⟩ := DataW.trod_bool Try.underlying4 g3
    obtain ⟨a4, e4, _⟩ := DataW.trod_bool Try.underlying4 g4
    obtain ⟨a5, e5, _⟩ := DataW.trod_bool Try.underlying4 g5
    obtain ⟨bs, A, l, c, rfl, hB, hr⟩ := bytes_elem g6 (fun m hm => hw m (by
      rw [hxy]
      simp only [DataW.weights, Try.underlying50]
      exact DataW.weights_mem_each (j := 6) rfl rfl m hm))
    simp only [List.cons.injEq, and_true] at e0 e1 e2 e3 e4 e5
    subst e0; subst e1; subst e2; subst e3; subst e4; subst e5
    exact ⟨⟨a0, a1, a2, a3, a4, a5, bs⟩, A, l, c, rfl, ⟨wf_u32n w0, wf_u16n w1, wf_u16n w2⟩, hB, hr⟩
set_option maxRecDepth 100000 in
theorem heard_elem {n : Nat} {cs : List Value} {y : DataW H × List MemPlace} (h : DataW.trod enc Try.prog w 0 (fun _ => true) held n 59 cs = some y) (hw : ∀ m ∈ y.1.weights Try.prog 59, m ≤ reachBytes) :
    ∃ (x : Ck.Hrd) (A B : Option Addr) (l c m d : Nat), cs = [.int .u32 x.cum, .int .u32 x.win, .slice A l c, .slice B m d] ∧ Ck.HrdOk x ∧ InG w A l c x.gaps ∧ InD w B m d x.dups ∧ l * 4 ≤ 140737488351232 ∧ m * 4 ≤ 140737488351232 := by
  obtain ⟨xs, k, hk, hxy, hcl, hxl, hf⟩ := DataW.trod_struct Try.underlying59 h
  rw [cof59] at hcl
  match xs, hxl, cs, hcl with
  | [y0, y1, y2, y3], _, [v0, v1, v2, v3], _ =>
    have g0 := hf 0 _ rfl
    have g1 := hf 1 _ rfl
    have g2 := hf 2 _ rfl
    have g3 := hf 3 _ rfl
    simp [cof36, cof56, cof57] at g0 g1 g2 g3
    obtain ⟨a0, e0, _, w0⟩ := DataW.trod_int Try.underlying36 g0
    obtain ⟨a1, e1, _, w1⟩ := DataW.trod_int Try.underlying36 g1
    obtain ⟨gs, A, l, c, rfl, hG, hr⟩ := gaps_elem g2 (fun m hm => hw m (by
      rw [hxy]
      simp only [DataW.weights, Try.underlying59]
      exact DataW.weights_mem_each (j := 2) rfl rfl m hm))
    obtain ⟨ds, B, m, d, rfl, hD, hs⟩ := dups_elem g3 (fun m hm => hw m (by
      rw [hxy]
      simp only [DataW.weights, Try.underlying59]
      exact DataW.weights_mem_each (j := 3) rfl rfl m hm))
    simp only [List.cons.injEq, and_true] at e0 e1
    subst e0; subst e1
    exact ⟨⟨a0, a1, gs, ds⟩, A, B, l, c, m, d, rfl, ⟨wf_u32n w0, wf_u32n w1, hG.ok, hD.ok⟩, hG, hD, hr, hs⟩
set_option maxRecDepth 100000 in
theorem chunks_elem {n : Nat} {v : Value} {y : DataW H × List MemPlace} (h : DataW.trod enc Try.prog w 0 (fun _ => true) held n 22 [v] = some y) (hw : ∀ m ∈ y.1.weights Try.prog 22, m ≤ reachBytes) :
    ∃ (xs : List ChB) (A : Option Addr) (l c : Nat), v = .slice A l c ∧ InL w A l c xs ∧ l ≤ 140737488351232 := by
  rcases Go.Deep.open_slice Try.underlying22 h with ⟨hcs, _⟩ | ⟨x, l, c, m, k, D, Pl, hcs, _, hl, hm, hmm, hx, hel⟩
  · simp at hcs
    exact ⟨[], none, 0, 0, by simpa using hcs, inL_nil w, by simp⟩
  · simp at hcs
    simp only [if_true] at hmm
    subst hmm
    have each : ∀ i, i < l → ∃ q : ChB, (∀ j v, (chc q)[j]? = some v → w.cell? ((x.add (i * 3)).add j) = some v) ∧ ChIn w q := by
      intro i hi
      obtain ⟨cs', h1, h2⟩ := hel i (by omega)
      rw [cof41] at h1
      obtain ⟨_, hlen, hcell⟩ := World.cells?_some h1
      obtain ⟨g, rfl, hok⟩ := chunk_elem h2 (fun m hm => hw m (by
        rw [hx]
        simp only [DataW.weights, Try.underlying22, List.mem_cons, List.mem_append]
        right; left
        exact weightsAll_mem (List.mem_map.2 ⟨i, List.mem_range.2 hi, rfl⟩) m hm))
      refine ⟨g, fun j v hv => ?_, hok⟩
      have := hcell j (by have := (List.getElem?_eq_some_iff.1 hv).1; simpa [chc] using this)
      rw [this]; exact hv
    haveI : Inhabited ChB := ⟨⟨0, 0, none, 0, 0, []⟩⟩
    obtain ⟨q, hq⟩ := Go.Deep.choose_lt each
    have hr : l * 32 ≤ reachBytes := by
      have := hw ((l + (m - l)) * 32) (by
        rw [hx]
        simp only [DataW.weights, Try.underlying22, bof41, List.mem_cons]
        left
        simp)
      omega
    refine ⟨(List.range l).map q, some x, l, m, hcs, ⟨cells_of_each (by omega) chc q (fun _ => rfl) (fun i hi => (hq i hi).1), fun g hg => ?_, hl, by simp⟩, by simp only [reachBytes] at hr; omega⟩
    obtain ⟨i, hi, rfl⟩ := List.mem_map.1 hg
    exact (hq i (List.mem_range.1 hi)).2
set_option maxRecDepth 100000 in
/-- A struct that is an argument: its cells. -/
theorem agg_of {v : Value} {t : TypeId} {fs : Array Field} {base : Nat} {l : List Value} (ht : Try.prog.underlying t = some (.struct fs)) (hv : Value.okWide Try.prog w .any base t v) (hc : v.cells.toList = l) : v = .agg ⟨l⟩ := by
  obtain ⟨cs, rfl, _⟩ := okWide_struct ht hv
  subst hc
  simp [Value.cells]
end
end Go.Proofs.Ytgikgcepeniekaa
