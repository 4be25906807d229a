import Derived.Test.YtfbjhialjepodaaNtC
import Derived.Test.YtfbjhialjepodaaBytesF
import Derived.Deep.Slices
import Derived.SizedLaws
import Derived.ChangeOld
namespace Go.Proofs.Ytfbjhialjepodaa
open Go Go.RowKit Go.ChangeShapes Go.WideShapes
set_option linter.unusedVariables false
/-- An act that came in. -/
structure ActD where
  kind : Int
  k : Int
  at_ : Int
  fh : Int
  fp : Int
  th : Int
  tp : Int
  bytes : List Int
  bits : Int
  down : Bool
instance : Inhabited ActD := ⟨⟨0, 0, 0, 0, 0, 0, 0, [], 0, false⟩⟩
structure ActOk (w : World) (x : ActD) (Ai : Option Addr) (ci : Nat) : Prop where
  bytes : InB w Ai x.bytes.length ci x.bytes
  reach : x.bytes.length ≤ 140737488351232
  i64 : I64n x.kind ∧ I64n x.k ∧ I64n x.at_ ∧ I64n x.fh ∧ I64n x.fp ∧ I64n x.th ∧ I64n x.tp
  bits : 0 ≤ x.bits ∧ x.bits < 256
def actCells (x : ActD) (Ai : Option Addr) (ci : Nat) : List Value := [.int .i64 x.kind, .int .i64 x.k, .int .i64 x.at_, .int .i64 x.fh, .int .i64 x.fp, .int .i64 x.th, .int .i64 x.tp, .slice Ai x.bytes.length ci, .int .u8 x.bits, .bool x.down]
theorem wf_i64n {n : Int} (h : (Lit.int .i64 n).wf = true) : I64n n := by
  simp [Lit.wf] at h
  have h1 : IntKind.i64.min = -9223372036854775808 := by rfl
  have h2 : IntKind.i64.max = 9223372036854775807 := by rfl
  unfold I64n
  omega
theorem wf_u8n {n : Int} (h : (Lit.int .u8 n).wf = true) : 0 ≤ n ∧ n < 256 := by
  simp [Lit.wf] at h
  have h1 : IntKind.u8.min = 0 := by rfl
  have h2 : IntKind.u8.max = 255 := by rfl
  omega
theorem cof3 : Try.prog.cellsOf 3 = 1 := by kernel_rfl
theorem cof4 : Try.prog.cellsOf 4 = 1 := by kernel_rfl
theorem cof5 : Try.prog.cellsOf 5 = 1 := by kernel_rfl
theorem cof38 : Try.prog.cellsOf 38 = 1 := by kernel_rfl
theorem cof37 : Try.prog.cellsOf 37 = 2 := by kernel_rfl
theorem cof40 : Try.prog.cellsOf 40 = 10 := by kernel_rfl
theorem bof40 : Try.prog.bytesOf 40 = 88 := by kernel_rfl
theorem weightsAll_mem {H : Type} {P : Program} {e : TypeId} {d : DataW H} : ∀ {L : List (DataW H)}, d ∈ L → ∀ n ∈ d.weights P e, n ∈ DataW.weightsAll P e L
  | [], h, _, _ => by cases h
  | x :: L, h, n, hn => by
    simp only [DataW.weightsAll, List.mem_append]
    rcases List.mem_cons.1 h with rfl | h
    · exact .inl hn
    · exact .inr (weightsAll_mem h n hn)
theorem bof5 : Try.prog.bytesOf 5 = 1 := by kernel_rfl
section
variable {H : Type} {enc : TypeId × Value → H} {w : World} {held : Bool}
theorem addr_elem {n : Nat} {v0 v1 : Value} {y : DataW H × List MemPlace} (h : DataW.trod enc Try.prog w 0 (fun _ => true) held n 37 [v0, v1] = some y) : ∃ a b : Int, v0 = .int .i64 a ∧ v1 = .int .i64 b ∧ I64n a ∧ I64n b := by
  obtain ⟨xs, k, hk, hxy, _, hxl, hf⟩ := DataW.trod_struct Try.underlying37 h
  match xs, hxl with
  | [y0, y1], _ =>
    have g0 := hf 0 _ rfl
    have g1 := hf 1 _ rfl
    simp [cof3] at g0 g1
    obtain ⟨a, e0, _, w0⟩ := DataW.trod_int Try.underlying3 g0
    obtain ⟨b, e1, _, w1⟩ := DataW.trod_int Try.underlying3 g1
    simp only [List.cons.injEq, and_true] at e0 e1
    exact ⟨a, b, e0, e1, wf_i64n w0, wf_i64n w1⟩
theorem bytes_elem {n : Nat} {v : Value} {y : DataW H × List MemPlace} (h : DataW.trod enc Try.prog w 0 (fun _ => true) held n 38 [v] = some y) (hw : ∀ m ∈ y.1.weights Try.prog 38, m ≤ reachBytes) :
    ∃ (xs : List Int) (Ai : Option Addr) (ci : Nat), v = .slice Ai xs.length ci ∧ InB w Ai xs.length ci xs ∧ xs.length ≤ 140737488351232 := by
  rcases open_ints Try.underlying38 Try.underlying5 (by kernel_rfl) h with ⟨hcs, _⟩ | ⟨x, l, c, zs, hcs, _, hl, hm, hz, hx, hcell, hwz⟩
  · simp at hcs
    exact ⟨[], none, 0, by simpa using hcs, inB_nil w, by simp⟩
  · simp at hcs
    simp only [if_true] at hz
    have hr := hw ((l + (zs.length - l)) * 1) (by
      rw [hx]
      simp only [DataW.weights, Try.underlying38, bof5, List.mem_cons]
      left
      simp only [lits, List.length_map, List.length_take, List.length_drop]
      congr 2; omega)
    have hi := intsIn_mk (by_ := 1) (k := .u8) (w := w) (x := x) hl hz hcell hwz (by simp only [reachBytes] at hr; omega)
    have hb := inB_of hi
    have hlen : (zs.take l).length = l := hb.len
    refine ⟨zs.take l, some x, c, by rw [hlen]; exact hcs, by rw [hlen]; exact hb, by rw [hlen]; exact reach_of hi⟩
theorem act_elem {n : Nat} {cs : List Value} {y : DataW H × List MemPlace} (h : DataW.trod enc Try.prog w 0 (fun _ => true) held n 40 cs = some y) (hw : ∀ m ∈ y.1.weights Try.prog 40, m ≤ reachBytes) :
    ∃ (x : ActD) (Ai : Option Addr) (ci : Nat), cs = actCells x Ai ci ∧ ActOk w x Ai ci := by
  obtain ⟨xs, k, hk, hxy, hcl, hxl, hf⟩ := DataW.trod_struct Try.underlying40 h
  rw [cof40] at hcl
  match xs, hxl, cs, hcl with
  | [y0, y1, y2, y3, y4, y5, y6, y7], _, [v0, v1, v2, v3, v4, v5, v6, v7, v8, v9], _ =>
    have g0 := hf 0 _ rfl
    have g1 := hf 1 _ rfl
    have g2 := hf 2 _ rfl
    have g3 := hf 3 _ rfl
    have g4 := hf 4 _ rfl
    have g5 := hf 5 _ rfl
    have g6 := hf 6 _ rfl
    have g7 := hf 7 _ rfl
    simp [cof3, cof4, cof5, cof37, cof38] at g0 g1 g2 g3 g4 g5 g6 g7
    obtain ⟨a0, e0, _, w0⟩ := DataW.trod_int Try.underlying3 g0
    obtain ⟨a1, e1, _, w1⟩ := DataW.trod_int Try.underlying3 g1
    obtain ⟨a2, e2, _, w2⟩ := DataW.trod_int Try.underlying3 g2
    obtain ⟨fh, fp, rfl, rfl, w3, w4⟩ := addr_elem g3
    obtain ⟨th, tp, rfl, rfl, w5, w6⟩ := addr_elem g4
    have hb : ∀ m ∈ y5.1.weights Try.prog 38, m ≤ reachBytes := fun m hm => hw m (by
      rw [hxy]
      simp only [DataW.weights, Try.underlying40]
      exact DataW.weights_mem_each (j := 5) rfl rfl m hm)
    obtain ⟨bs, Ai, ci, rfl, hB, hr⟩ := bytes_elem g5 hb
    obtain ⟨a8, e8, _, w8⟩ := DataW.trod_int Try.underlying5 g6
    obtain ⟨b9, e9, _⟩ := DataW.trod_bool Try.underlying4 g7
    simp only [List.cons.injEq, and_true] at e0 e1 e2 e8 e9
    subst e0; subst e1; subst e2; subst e8; subst e9
    exact ⟨⟨a0, a1, a2, fh, fp, th, tp, bs, a8, b9⟩, Ai, ci, rfl, hB, hr, ⟨wf_i64n w0, wf_i64n w1, wf_i64n w2, w3, w4, w5, w6⟩, wf_u8n w8⟩
/-- A slice of acts that came in. -/
def Acts (w : World) (A : Option Addr) (n : Nat) (xs : List ActD) : Prop := xs.length = n ∧ ∀ i x, xs[i]? = some x → ∃ (b o : Nat) (Ai : Option Addr) (ci : Nat), A = some ⟨b, o, none⟩ ∧ (∀ j v, (actCells x Ai ci)[j]? = some v → w.cell? ⟨b, o + i * 10 + j, none⟩ = some v) ∧ ActOk w x Ai ci
theorem acts_of {n : Nat} {a : Option Addr} {l c : Nat} {y : DataW H × List MemPlace} (h : DataW.trod enc Try.prog w 0 (fun _ => true) held n 22 [.slice a l c] = some y) (hw : ∀ m ∈ y.1.weights Try.prog 22, m ≤ reachBytes) : ∃ xs, Acts w a l xs ∧ l * 88 ≤ reachBytes := by
  rcases Go.Deep.open_slice Try.underlying22 h with ⟨hcs, _⟩ | ⟨x, len, cap, m, k, D, Pl, hcs, _, hl, hm, hmm, hx, hel⟩
  · simp at hcs
    obtain ⟨rfl, rfl, rfl⟩ := hcs
    exact ⟨[], ⟨rfl, fun i x hi => by simp at hi⟩, by simp⟩
  · simp at hcs
    obtain ⟨rfl, rfl, rfl⟩ := hcs
    simp only [if_true] at hmm
    subst hmm
    have each : ∀ i, i < l → ∃ q : ActD × Option Addr × Nat, (∀ j v, (actCells q.1 q.2.1 q.2.2)[j]? = some v → w.cell? ((x.add (i * 10)).add j) = some v) ∧ ActOk w q.1 q.2.1 q.2.2 := by
      intro i hi
      obtain ⟨cs', h1, h2⟩ := hel i (by omega)
      rw [cof40] at h1
      obtain ⟨_, hlen, hcell⟩ := World.cells?_some h1
      obtain ⟨d, Ai, ci, rfl, hok⟩ := act_elem h2 (fun m hm => hw m (by
        rw [hx]
        simp only [DataW.weights, Try.underlying22, List.mem_cons, List.mem_append]
        right; left
        exact weightsAll_mem (List.mem_map.2 ⟨i, List.mem_range.2 hi, rfl⟩) m hm))
      refine ⟨⟨d, Ai, ci⟩, fun j v hv => ?_, hok⟩
      have := hcell j (by have := (List.getElem?_eq_some_iff.1 hv).1; simpa [actCells] using this)
      rw [this]; exact hv
    obtain ⟨q, hq⟩ := Go.Deep.choose_lt each
    have hr : l * 88 ≤ reachBytes := by
      have := hw ((l + (m - l)) * 88) (by
        rw [hx]
        simp only [DataW.weights, Try.underlying22, bof40, List.mem_cons]
        left
        simp)
      omega
    refine ⟨(List.range l).map fun i => (q i).1, ⟨by simp, fun i d hi => ?_⟩, hr⟩
    have hil : i < l := by have := (List.getElem?_eq_some_iff.1 hi).1; simpa using this
    have hd : (q i).1 = d := by simpa [hil] using hi
    have h00 := (hq 0 (by omega)).1 0 _ rfl
    obtain ⟨b, o, sp⟩ := x
    have hsp : sp = none := by
      rw [Nat.zero_mul, Addr.add_zero', Addr.add_zero'] at h00
      cases sp with
      | none => rfl
      | some s => simp [World.cell?] at h00; split at h00 <;> simp at h00
    subst hsp
    refine ⟨b, o, (q i).2.1, (q i).2.2, rfl, fun j v hv => ?_, by rw [← hd]; exact (hq i hil).2⟩
    have := (hq i hil).1 j v (by rw [hd]; exact hv)
    rwa [Addr.add_lit, Addr.add_lit] at this
end
end Go.Proofs.Ytfbjhialjepodaa
