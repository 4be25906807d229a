import Derived.Test.YtgcabidhpnaoiaaLwC
import Derived.Deep.Slices
import Derived.SizedLaws
import Derived.ChangeOld
namespace Go.Proofs.Ytgcabidhpnaoiaa
open Go Go.RowKit Go.ChangeShapes Go.WideShapes Fg
set_option linter.unusedVariables false
/-! What comes in to the laws of frag: bytes, messages, cuts, pieces, lists of them. -/
theorem inB_of {w : World} {a : Option Addr} {len cap : Nat} {zs : List Int} (h : IntsIn .u8 1 w a len cap zs) : InB w a len cap zs := by
  obtain ⟨⟨A, c, e, hc, hx⟩, rfl, _, hw⟩ := h
  injection e with e1 e2 e3
  subst e1; subst e3
  refine ⟨hx, fun x hx => ?_, by rw [ints_length] at hc; exact hc, rfl⟩
  have := hw x hx
  simp [Lit.wf] at this
  have h1 : IntKind.u8.min = 0 := by rfl
  have h2 : IntKind.u8.max = 255 := by rfl
  omega
theorem reach_of {w : World} {a : Option Addr} {len cap : Nat} {zs : List Int} (h : IntsIn .u8 1 w a len cap zs) : len ≤ 140737488351232 := by
  obtain ⟨_, rfl, h, _⟩ := h
  omega
theorem wf_u8n {n : Int} (h : (Lit.int .u8 n).wf = true) : 0 ≤ n ∧ n < 256 := by
  simp [Lit.wf] at h
  have h1 : IntKind.u8.min = 0 := by rfl
  have h2 : IntKind.u8.max = 255 := by rfl
  omega
theorem wf_u16n {n : Int} (h : (Lit.int .u16 n).wf = true) : 0 ≤ n ∧ n < 65536 := by
  simp [Lit.wf] at h
  have h1 : IntKind.u16.min = 0 := by rfl
  have h2 : IntKind.u16.max = 65535 := by rfl
  omega
theorem wf_u32n {n : Int} (h : (Lit.int .u32 n).wf = true) : 0 ≤ n ∧ n < 4294967296 := by
  simp [Lit.wf] at h
  have h1 : IntKind.u32.min = 0 := by rfl
  have h2 : IntKind.u32.max = 4294967295 := by rfl
  omega
theorem cof3 : Try.prog.cellsOf 3 = 1 := by kernel_rfl
theorem cof4 : Try.prog.cellsOf 4 = 1 := by kernel_rfl
theorem cof5 : Try.prog.cellsOf 5 = 1 := by kernel_rfl
theorem cof26 : Try.prog.cellsOf 26 = 1 := by kernel_rfl
theorem cof30 : Try.prog.cellsOf 30 = 1 := by kernel_rfl
theorem cof32 : Try.prog.cellsOf 32 = 2 := by kernel_rfl
theorem cof34 : Try.prog.cellsOf 34 = 4 := by kernel_rfl
theorem cof49 : Try.prog.cellsOf 49 = 1 := by kernel_rfl
theorem cof51 : Try.prog.cellsOf 51 = 7 := by kernel_rfl
theorem bof5 : Try.prog.bytesOf 5 = 1 := by kernel_rfl
theorem bof34 : Try.prog.bytesOf 34 = 48 := by kernel_rfl
theorem bof51 : Try.prog.bytesOf 51 = 40 := by kernel_rfl
theorem weightsAll_mem {H : Type} {P : Program} {e : TypeId} {d : DataW H} : ∀ {L : List (DataW H)}, d ∈ L → ∀ n ∈ d.weights P e, n ∈ DataW.weightsAll P e L
  | [], h, _, _ => by cases h
  | x :: L, h, n, hn => by
    simp only [DataW.weightsAll, List.mem_append]
    rcases List.mem_cons.1 h with rfl | h
    · exact .inl hn
    · exact .inr (weightsAll_mem h n hn)
section
variable {H : Type} {enc : TypeId × Value → H} {w : World} {held : Bool}
set_option maxRecDepth 100000 in
theorem bytes_elem {n : Nat} {v : Value} {y : DataW H × List MemPlace} (h : DataW.trod enc Try.prog w 0 (fun _ => true) held n 30 [v] = some y) (hw : ∀ m ∈ y.1.weights Try.prog 30, m ≤ reachBytes) :
    ∃ (xs : List Int) (A : Option Addr) (l c : Nat), v = .slice A l c ∧ InB w A l c xs ∧ l ≤ 140737488351232 := by
  rcases open_ints Try.underlying30 Try.underlying5 (by kernel_rfl) h with ⟨hcs, _⟩ | ⟨x, l, c, zs, hcs, _, hl, hm, hz, hx, hcell, hwz⟩
  · simp at hcs
    exact ⟨[], none, 0, 0, by simpa using hcs, inB_nil w, by simp⟩
  · simp at hcs
    simp only [if_true] at hz
    have hr := hw ((l + (zs.length - l)) * 1) (by
      rw [hx]
      simp only [DataW.weights, Try.underlying30, bof5, List.mem_cons]
      left
      simp only [lits, List.length_map, List.length_take, List.length_drop]
      congr 2; omega)
    have hi := intsIn_mk (by_ := 1) (k := .u8) (w := w) (x := x) hl hz hcell hwz (by simp only [reachBytes] at hr; omega)
    exact ⟨zs.take l, some x, l, c, hcs, inB_of hi, reach_of hi⟩
/-- The cells of a slice whose elements take s cells each. -/
theorem cells_of_each {α : Type} [Inhabited α] {x : Addr} {s l : Nat} (hs : 0 < s) (enc1 : α → List Value) (q : Nat → α) (hlen : ∀ a, (enc1 a).length = s)
    (hq : ∀ i, i < l → ∀ j v, (enc1 (q i))[j]? = some v → w.cell? ((x.add (i * s)).add j) = some v) : Cells w (some x) (((List.range l).map q).flatMap enc1) := by
  intro hne
  have h0 : 0 < l := by
    rcases Nat.eq_zero_or_pos l with h | h
    · subst h; exact absurd rfl hne
    · exact h
  obtain ⟨b, o, sp⟩ := x
  have h00 := hq 0 h0 0 ((enc1 (q 0))[0]'(by rw [hlen]; exact hs)) (List.getElem?_eq_getElem _)
  have hsp : sp = none := by
    rw [Nat.zero_mul, Addr.add_zero', Addr.add_zero'] at h00
    cases sp with
    | none => rfl
    | some s => simp [World.cell?] at h00; split at h00 <;> simp at h00
  subst hsp
  have hb : b < w.heap.size := by
    rw [Nat.zero_mul, Addr.add_zero', Addr.add_zero'] at h00
    simp only [World.cell?] at h00
    rcases Nat.lt_or_ge b w.heap.size with h | h
    · exact h
    · rw [Array.getElem?_eq_none (by omega)] at h00; simp at h00
  refine ⟨b, o, rfl, hb, fun j u hu => ?_⟩
  have key : ∀ (L : List α) (j : Nat) (u : Value), (L.flatMap enc1)[j]? = some u → ∃ a, L[j / s]? = some a ∧ (enc1 a)[j % s]? = some u := by
    intro L
    induction L with
    | nil => intro j u h; simp at h
    | cons a L ih =>
      intro j u h
      simp only [List.flatMap_cons] at h
      by_cases hj : j < s
      · rw [List.getElem?_append_left (by rw [hlen]; exact hj)] at h
        exact ⟨a, by rw [Nat.div_eq_of_lt hj]; rfl, by rw [Nat.mod_eq_of_lt hj]; exact h⟩
      · rw [List.getElem?_append_right (by rw [hlen]; omega), hlen] at h
        obtain ⟨a', h1, h2⟩ := ih _ _ h
        refine ⟨a', ?_, ?_⟩
        · rw [show j / s = (j - s) / s + 1 by rw [Nat.div_eq_sub_div hs (by omega)]]
          simpa using h1
        · rw [Nat.mod_eq_sub_mod (by omega)]; exact h2
  obtain ⟨a, h1, h2⟩ := key _ j u hu
  have hil : j / s < l := by have := (List.getElem?_eq_some_iff.1 h1).1; simpa using this
  have ha : q (j / s) = a := by simpa [hil] using h1
  have := hq (j / s) hil (j % s) u (by rw [ha]; exact h2)
  rw [Addr.add_lit, Addr.add_lit] at this
  rw [show o + j = o + j / s * s + j % s by rw [Nat.add_assoc, Nat.mul_comm, Nat.div_add_mod]]
  exact this
set_option maxRecDepth 100000 in
theorem piece_elem {n : Nat} {cs : List Value} {y : DataW H × List MemPlace} (h : DataW.trod enc Try.prog w 0 (fun _ => true) held n 51 cs = some y) (hw : ∀ m ∈ y.1.weights Try.prog 51, m ≤ reachBytes) :
    ∃ x : PcB, cs = pcc x ∧ InB w x.A x.p.bs.length x.c x.p.bs ∧ x.p.bs.length ≤ 140737488351232 ∧ x.p.tsn < 4294967296 ∧ x.p.st < 65536 ∧ x.p.sq < 65536 := by
  obtain ⟨xs, k, hk, hxy, hcl, hxl, hf⟩ := DataW.trod_struct Try.underlying51 h
  rw [cof51] at hcl
  match xs, hxl, cs, hcl with
  | [y0, y1, y2, y3, y4, y5, y6], _, [v0, v1, v2, v3, v4, v5, v6], _ =>
    have g0 := hf 0 _ rfl
    have g1 := hf 1 _ rfl
    have g2 := hf 2 _ rfl
    have g3 := hf 3 _ rfl
    have g4 := hf 4 _ rfl
    have g5 := hf 5 _ rfl
    have g6 := hf 6 _ rfl
    simp [cof49, cof26, cof30, cof4] at g0 g1 g2 g3 g4 g5 g6
    obtain ⟨a0, e0, _, w0⟩ := DataW.trod_int Try.underlying49 g0
    obtain ⟨a1, e1, _, w1⟩ := DataW.trod_int Try.underlying26 g1
    obtain ⟨a2, e2, _, w2⟩ := DataW.trod_int Try.underlying26 g2
    obtain ⟨a3, e3, _⟩ := DataW.trod_bool Try.underlying4 g3
    obtain ⟨a4, e4, _⟩ := DataW.trod_bool Try.underlying4 g4
    obtain ⟨a5, e5, _⟩ := DataW.trod_bool Try.underlying4 g5
    obtain ⟨bs, A, l, c, rfl, hB, hr⟩ := bytes_elem g6 (fun m hm => hw m (by
      rw [hxy]
      simp only [DataW.weights, Try.underlying51]
      exact DataW.weights_mem_each (j := 6) rfl rfl m hm))
    simp only [List.cons.injEq, and_true] at e0 e1 e2 e3 e4 e5
    subst e0; subst e1; subst e2; subst e3; subst e4; subst e5
    obtain ⟨h0, h0'⟩ := wf_u32n w0
    obtain ⟨h1, h1'⟩ := wf_u16n w1
    obtain ⟨h2, h2'⟩ := wf_u16n w2
    obtain ⟨n0, rfl⟩ := Int.eq_ofNat_of_zero_le h0
    obtain ⟨n1, rfl⟩ := Int.eq_ofNat_of_zero_le h1
    obtain ⟨n2, rfl⟩ := Int.eq_ofNat_of_zero_le h2
    obtain rfl := hB.len
    exact ⟨⟨⟨n0, n1, n2, a5, a3, a4, bs⟩, A, c⟩, rfl, hB, hr, Int.ofNat_lt.1 h0', Int.ofNat_lt.1 h1', Int.ofNat_lt.1 h2'⟩
set_option maxRecDepth 100000 in
theorem msg_elem {n : Nat} {cs : List Value} {y : DataW H × List MemPlace} (h : DataW.trod enc Try.prog w 0 (fun _ => true) held n 32 cs = some y) (hw : ∀ m ∈ y.1.weights Try.prog 32, m ≤ reachBytes) :
    ∃ (st : Nat) (bs : List Int) (A : Option Addr) (c : Nat), cs = [.int .u16 (st : Int), .slice A bs.length c] ∧ InB w A bs.length c bs ∧ bs.length ≤ 140737488351232 := by
  obtain ⟨xs, k, hk, hxy, hcl, hxl, hf⟩ := DataW.trod_struct Try.underlying32 h
  rw [cof32] at hcl
  match xs, hxl, cs, hcl with
  | [y0, y1], _, [v0, v1], _ =>
    have g0 := hf 0 _ rfl
    have g1 := hf 1 _ rfl
    simp [cof26, cof30] at g0 g1
    obtain ⟨a0, e0, _, w0⟩ := DataW.trod_int Try.underlying26 g0
    obtain ⟨bs, A, l, c, rfl, hB, hr⟩ := bytes_elem g1 (fun m hm => hw m (by
      rw [hxy]
      simp only [DataW.weights, Try.underlying32]
      exact DataW.weights_mem_each (j := 1) rfl rfl m hm))
    simp only [List.cons.injEq, and_true] at e0
    subst e0
    obtain ⟨h0, h0'⟩ := wf_u16n w0
    obtain ⟨n0, rfl⟩ := Int.eq_ofNat_of_zero_le h0
    obtain rfl := hB.len
    exact ⟨n0, bs, A, c, rfl, hB, hr⟩
set_option maxRecDepth 100000 in
theorem cut_elem {n : Nat} {cs : List Value} {y : DataW H × List MemPlace} (h : DataW.trod enc Try.prog w 0 (fun _ => true) held n 34 cs = some y) (hw : ∀ m ∈ y.1.weights Try.prog 34, m ≤ reachBytes) :
    ∃ x : CtB, cs = ctc x ∧ InB w x.A x.bs.length x.c x.bs ∧ x.bs.length ≤ 140737488351232 := by
  obtain ⟨xs, k, hk, hxy, hcl, hxl, hf⟩ := DataW.trod_struct Try.underlying34 h
  rw [cof34] at hcl
  match xs, hxl, cs, hcl with
  | [y0, y1, y2], _, [v0, v1, v2, v3], _ =>
    have g0 := hf 0 _ rfl
    have g1 := hf 1 _ rfl
    have g2 := hf 2 _ rfl
    simp [cof32, cof4, cof3] at g0 g1 g2
    obtain ⟨st, bs, A, c, e0, hB, hr⟩ := msg_elem g0 (fun m hm => hw m (by
      rw [hxy]
      simp only [DataW.weights, Try.underlying34]
      exact DataW.weights_mem_each (j := 0) rfl rfl m hm))
    obtain ⟨a1, e1, _⟩ := DataW.trod_bool Try.underlying4 g1
    obtain ⟨a2, e2, _, _⟩ := DataW.trod_int Try.underlying3 g2
    simp only [List.cons.injEq, and_true] at e0 e1 e2
    obtain ⟨rfl, rfl⟩ := e0
    subst e1; subst e2
    exact ⟨⟨st, bs, a1, a2, A, c⟩, rfl, hB, hr⟩
set_option maxRecDepth 100000 in
theorem cuts_elem {n : Nat} {v : Value} {y : DataW H × List MemPlace} (h : DataW.trod enc Try.prog w 0 (fun _ => true) held n 22 [v] = some y) (hw : ∀ m ∈ y.1.weights Try.prog 22, m ≤ reachBytes) :
    ∃ (xs : List CtB) (A : Option Addr) (l c : Nat), v = .slice A l c ∧ InC w A l c xs ∧ ∀ x ∈ xs, True := by
  rcases Go.Deep.open_slice Try.underlying22 h with ⟨hcs, _⟩ | ⟨x, l, c, m, k, D, Pl, hcs, _, hl, hm, hmm, hx, hel⟩
  · simp at hcs
    exact ⟨[], none, 0, 0, by simpa using hcs, ⟨Cells.nil _ _, (fun d hd => by cases hd), rfl⟩, (fun d hd => by cases hd)⟩
  · simp at hcs
    simp only [if_true] at hmm
    subst hmm
    have each : ∀ i, i < l → ∃ q : CtB, (∀ j v, (ctc q)[j]? = some v → w.cell? ((x.add (i * 4)).add j) = some v) ∧ InB w q.A q.bs.length q.c q.bs ∧ q.bs.length ≤ 140737488351232 := by
      intro i hi
      obtain ⟨cs', h1, h2⟩ := hel i (by omega)
      rw [cof34] at h1
      obtain ⟨_, hlen, hcell⟩ := World.cells?_some h1
      obtain ⟨g, rfl, hok⟩ := cut_elem h2 (fun m hm => hw m (by
        rw [hx]
        simp only [DataW.weights, Try.underlying22, List.mem_cons, List.mem_append]
        right; left
        exact weightsAll_mem (List.mem_map.2 ⟨i, List.mem_range.2 hi, rfl⟩) m hm))
      refine ⟨g, fun j v hv => ?_, hok⟩
      have := hcell j (by have := (List.getElem?_eq_some_iff.1 hv).1; simpa [ctc] using this)
      rw [this]; exact hv
    haveI : Inhabited CtB := ⟨⟨0, [], false, 0, none, 0⟩⟩
    obtain ⟨q, hq⟩ := Go.Deep.choose_lt each
    refine ⟨(List.range l).map q, some x, l, m, hcs, ⟨cells_of_each (by omega) ctc q (fun _ => rfl) (fun i hi => (hq i hi).1), fun g hg => ?_, by simp⟩, fun g hg => ?_⟩
    · obtain ⟨i, hi, rfl⟩ := List.mem_map.1 hg
      exact (hq i (List.mem_range.1 hi)).2
    · obtain ⟨i, hi, rfl⟩ := List.mem_map.1 hg
      exact trivial
set_option maxRecDepth 100000 in
theorem pieces_elem {n : Nat} {v : Value} {y : DataW H × List MemPlace} (h : DataW.trod enc Try.prog w 0 (fun _ => true) held n 35 [v] = some y) (hw : ∀ m ∈ y.1.weights Try.prog 35, m ≤ reachBytes) :
    ∃ (xs : List PcB) (A : Option Addr) (l c : Nat), v = .slice A l c ∧ InP w A l c xs ∧ ∀ x ∈ xs, x.p.bs.length ≤ 140737488351232 ∧ x.p.tsn < 4294967296 ∧ x.p.st < 65536 ∧ x.p.sq < 65536 := by
  rcases Go.Deep.open_slice Try.underlying35 h with ⟨hcs, _⟩ | ⟨x, l, c, m, k, D, Pl, hcs, _, hl, hm, hmm, hx, hel⟩
  · simp at hcs
    exact ⟨[], none, 0, 0, by simpa using hcs, ⟨Cells.nil _ _, (fun d hd => by cases hd), rfl⟩, (fun d hd => by cases hd)⟩
  · simp at hcs
    simp only [if_true] at hmm
    subst hmm
    have each : ∀ i, i < l → ∃ q : PcB, (∀ j v, (pcc q)[j]? = some v → w.cell? ((x.add (i * 7)).add j) = some v) ∧ InB w q.A q.p.bs.length q.c q.p.bs ∧ q.p.bs.length ≤ 140737488351232 ∧ q.p.tsn < 4294967296 ∧ q.p.st < 65536 ∧ q.p.sq < 65536 := by
      intro i hi
      obtain ⟨cs', h1, h2⟩ := hel i (by omega)
      rw [cof51] at h1
      obtain ⟨_, hlen, hcell⟩ := World.cells?_some h1
      obtain ⟨g, rfl, hok⟩ := piece_elem h2 (fun m hm => hw m (by
        rw [hx]
        simp only [DataW.weights, Try.underlying35, List.mem_cons, List.mem_append]
        right; left
        exact weightsAll_mem (List.mem_map.2 ⟨i, List.mem_range.2 hi, rfl⟩) m hm))
      refine ⟨g, fun j v hv => ?_, hok⟩
      have := hcell j (by have := (List.getElem?_eq_some_iff.1 hv).1; simpa [pcc] using this)
      rw [this]; exact hv
    haveI : Inhabited PcB := ⟨⟨⟨0, 0, 0, false, false, false, []⟩, none, 0⟩⟩
    obtain ⟨q, hq⟩ := Go.Deep.choose_lt each
    refine ⟨(List.range l).map q, some x, l, m, hcs, ⟨cells_of_each (by omega) pcc q (fun _ => rfl) (fun i hi => (hq i hi).1), fun g hg => ?_, by simp⟩, fun g hg => ?_⟩
    · obtain ⟨i, hi, rfl⟩ := List.mem_map.1 hg
      exact (hq i (List.mem_range.1 hi)).2.1
    · obtain ⟨i, hi, rfl⟩ := List.mem_map.1 hg
      exact (hq i (List.mem_range.1 hi)).2.2
set_option maxRecDepth 100000 in
/-- A struct that is an argument: its cells. -/
theorem agg_of {v : Value} {t : TypeId} {fs : Array Field} {base : Nat} {l : List Value} (ht : Try.prog.underlying t = some (.struct fs)) (hv : Value.okWide Try.prog w .any base t v) (hc : v.cells.toList = l) : v = .agg ⟨l⟩ := by
  obtain ⟨cs, rfl, _⟩ := okWide_struct ht hv
  subst hc
  simp [Value.cells]
end
end Go.Proofs.Ytgcabidhpnaoiaa
