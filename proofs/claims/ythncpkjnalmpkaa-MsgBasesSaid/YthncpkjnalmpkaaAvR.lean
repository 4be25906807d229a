import Derived.Test.YthncpkjnalmpkaaAvM
import Derived.Test.YthncpkjnalmpkaaCk0
import Derived.Test.YthncpkjnalmpkaaCk31
import Derived.BigQuiet
namespace Go.Proofs.Ythncpkjnalmpkaa
open Go Go.RowKit
set_option linter.unusedVariables false
set_option linter.unusedSimpArgs false
/-! Attributes as they lie in memory. -/
/-- An attribute, and where its bytes lie. -/
structure AvB where
  code : Int
  vendor : Int
  must : Bool
  prot : Bool
  A : Option Addr
  n : Nat
  c : Nat
  bs : List Int
def AvB.pure (x : AvB) : Av.Avp := ⟨x.code, x.vendor, x.must, x.prot, x.bs⟩
def avcL (c v : Int) (m p : Bool) (A : Option Addr) (n k : Nat) : List Value := [.int .u32 c, .int .u32 v, .bool m, .bool p, .slice A n k]
def avc (x : AvB) : List Value := avcL x.code x.vendor x.must x.prot x.A x.n x.c
def rowa (l : List AvB) : List Value := l.flatMap avc
def avV (x : AvB) : Value := .agg #[.int .u32 x.code, .int .u32 x.vendor, .bool x.must, .bool x.prot, .slice x.A x.n x.c]
theorem rowa_length (l : List AvB) : (rowa l).length = l.length * 5 := by
  induction l with
  | nil => rfl
  | cons x l ih => simp only [rowa, List.flatMap_cons, List.length_append] at ih ⊢; rw [ih]; simp [avc, avcL]; omega
theorem rowa_at {l : List AvB} {i : Nat} {x : AvB} (h : l[i]? = some x) : (rowa l)[i * 5]? = some (.int .u32 x.code) ∧ (rowa l)[i * 5 + 1]? = some (.int .u32 x.vendor) ∧ (rowa l)[i * 5 + 2]? = some (.bool x.must) ∧ (rowa l)[i * 5 + 3]? = some (.bool x.prot) ∧ (rowa l)[i * 5 + 4]? = some (.slice x.A x.n x.c) := by
  induction l generalizing i with
  | nil => simp at h
  | cons y l ih =>
    have hl : (avc y).length = 5 := rfl
    cases i with
    | zero =>
      simp at h
      subst h
      exact ⟨rfl, rfl, rfl, rfl, rfl⟩
    | succ i =>
      have h2 : l[i]? = some x := by simpa using h
      simp only [rowa, List.flatMap_cons]
      have := ih h2
      rw [List.getElem?_append_right (by rw [hl]; omega), List.getElem?_append_right (by rw [hl]; omega), List.getElem?_append_right (by rw [hl]; omega), List.getElem?_append_right (by rw [hl]; omega), List.getElem?_append_right (by rw [hl]; omega), hl]
      rw [show (i + 1) * 5 - 5 = i * 5 by omega, show (i + 1) * 5 + 1 - 5 = i * 5 + 1 by omega, show (i + 1) * 5 + 2 - 5 = i * 5 + 2 by omega, show (i + 1) * 5 + 3 - 5 = i * 5 + 3 by omega, show (i + 1) * 5 + 4 - 5 = i * 5 + 4 by omega]
      exact this
theorem rowa_append (l m : List AvB) : rowa (l ++ m) = rowa l ++ rowa m := by simp [rowa]
theorem rowa_one (l : List AvB) : ∀ u ∈ rowa l, u.oneCell' = true := by
  intro u hu
  simp only [rowa, List.mem_flatMap, avc, avcL, List.mem_cons, List.mem_nil_iff, or_false] at hu
  obtain ⟨x, _, hu⟩ := hu
  rcases hu with rfl | rfl | rfl | rfl | rfl <;> rfl
/-- An attribute that lies there. -/
structure AvIn (w : World) (x : AvB) : Prop where
  inb : InB w x.A x.n x.c x.bs
  ok : AvOK x.pure
  n : x.n ≤ 140737488351232
theorem AvIn.up {w w' : World} {x : AvB} (h : AvIn w x) (hu : Up w w') : AvIn w' x := ⟨h.inb.up hu, h.ok, h.n⟩
/-- A slice of attributes. -/
structure InL (w : World) (A : Option Addr) (n cap : Nat) (l : List AvB) : Prop where
  cells : Cells w A (rowa l)
  av : ∀ x ∈ l, AvIn w x
  cap : n ≤ cap
  len : l.length = n
theorem InL.up {w w' : World} {A : Option Addr} {n cap : Nat} {l : List AvB} (h : InL w A n cap l) (hu : Up w w') : InL w' A n cap l := ⟨h.cells.up hu, fun x hx => (h.av x hx).up hu, h.cap, h.len⟩
theorem inL_nil (w : World) : InL w none 0 0 [] := ⟨Cells.nil _ _, (fun x hx => by cases hx), Nat.le_refl _, rfl⟩
theorem InL.ok {w : World} {A : Option Addr} {n c : Nat} {l : List AvB} (h : InL w A n c l) : AvsOK (l.map AvB.pure) := by
  intro c hc
  obtain ⟨x, hx, rfl⟩ := List.mem_map.1 hc
  exact (h.av x hx).ok
/-- An element of it, cell by cell. -/
theorem InL.at_ {w : World} {A : Option Addr} {n cap k : Nat} {l : List AvB} (h : InL w A n cap l) (hk : k < n) : ∃ x g o, l[k]? = some x ∧ A = some ⟨g, o, none⟩ ∧ w.cell? ⟨g, o + k * 5, none⟩ = some (.int .u32 x.code) ∧ w.cell? ⟨g, o + k * 5 + 1, none⟩ = some (.int .u32 x.vendor) ∧ w.cell? ⟨g, o + k * 5 + 2, none⟩ = some (.bool x.must) ∧ w.cell? ⟨g, o + k * 5 + 3, none⟩ = some (.bool x.prot) ∧ w.cell? ⟨g, o + k * 5 + 4, none⟩ = some (.slice x.A x.n x.c) ∧ AvIn w x := by
  obtain ⟨x, hx⟩ : ∃ x, l[k]? = some x := ⟨_, List.getElem?_eq_getElem (by rw [h.len]; exact hk)⟩
  obtain ⟨g, o, rfl, _, hc⟩ := h.cells (by intro e; have := congrArg List.length e; rw [rowa_length, h.len] at this; simp at this; omega)
  obtain ⟨h1, h2, h3, h4, h5⟩ := rowa_at hx
  have k1 := hc _ _ h1
  have k2 := hc _ _ h2
  have k3 := hc _ _ h3
  have k4 := hc _ _ h4
  have k5 := hc _ _ h5
  rw [← Nat.add_assoc] at k2 k3 k4 k5
  exact ⟨x, g, o, hx, rfl, k1, k2, k3, k4, k5, h.av x (List.mem_of_getElem? hx)⟩
/-- An attribute with bytes of its own. -/
structure OwnA (B0 : Nat) (w : World) (x : AvB) : Prop where
  own : OwnI .u8 5 B0 w x.A x.n x.c x.bs
  ok : AvOK x.pure
  n : x.n ≤ 140737488351232
theorem OwnA.avIn {B0 : Nat} {w : World} {x : AvB} (h : OwnA B0 w x) : AvIn w x := ⟨own_inB h.own h.ok.byt, h.ok, h.n⟩
theorem OwnA.out {B0 : Nat} {T : Nat → Prop} {w w' : World} {x : AvB} (h : OwnA B0 w x) (ho : Out T w w') (ht : ∀ k, blk? x.A = some k → ¬ T k) : OwnA B0 w' x := ⟨ho.own h.own (fun g hg => ht g (by rwa [ownBlock_slice] at hg)), h.ok, h.n⟩
theorem OwnA.up {B0 : Nat} {w w' : World} {x : AvB} (h : OwnA B0 w x) (hu : Up w w') : OwnA B0 w' x := ⟨own_up h.own hu, h.ok, h.n⟩
theorem OwnA.lt {B0 : Nat} {w : World} {x : AvB} (h : OwnA B0 w x) {k : Nat} (hk : blk? x.A = some k) : k < w.heap.size := (row_lt h.own hk).2
/-- Attributes in a row of one's own, each with bytes of its own. -/
structure GL (B0 : Nat) (w : World) (A : Option Addr) (n c : Nat) (out : List AvB) : Prop where
  row : w.ownsRow B0 56 5 (.slice A n c) n (rowa out)
  len : out.length = n
  av : ∀ x ∈ out, OwnA B0 w x ∧ ∀ k, blk? x.A = some k → blk? A ≠ some k
theorem row_cap {w : World} {base : Nat} {e : TypeId} {s : Nat} {A : Option Addr} {n c : Nat} {xs : List Value} (h : w.ownsRow base e s (.slice A n c) n xs) : n ≤ c := by
  rcases h.2 with ⟨h1, h2⟩ | ⟨g', cap, cur, hv, _, hh, hnc, _⟩
  · omega
  · injection hv with _ _ hv; omega
section
variable {B0 : Nat} {T : Nat → Prop} {w w' : World} {A : Option Addr} {n c : Nat} {out : List AvB}
theorem GL.inL (h : GL B0 w A n c out) : InL w A n c out := ⟨row_cells h.row, fun x hx => (h.av x hx).1.avIn, row_cap h.row, h.len⟩
theorem GL.up (h : GL B0 w A n c out) (hu : Up w w') : GL B0 w' A n c out := ⟨own_up h.row hu, h.len, fun x hx => ⟨(h.av x hx).1.up hu, (h.av x hx).2⟩⟩
theorem gl_nil (B0 : Nat) (w : World) : GL B0 w none 0 0 [] := ⟨World.ownsRow_nil _ _ _ _, rfl, fun x hx => by cases hx⟩
theorem GL.lt (h : GL B0 w A n c out) {k : Nat} (hk : blk? A = some k) : B0 ≤ k ∧ k < w.heap.size := row_lt h.row hk
/-- One more behind them. -/
theorem GL.push (h : GL B0 w A n c out) {x : AvB} {A' : Option Addr} {c' N : Nat} (hx : OwnA B0 w x) (hxA : ∀ k, blk? x.A = some k → blk? A ≠ some k) (hN : N = n + 1) (hrow : w'.ownsRow B0 56 5 (.slice A' N c') N (rowa out ++ rowa [x]))
    (ho : Out (fun k => blk? A = some k) w w') (hb : blk? A' = blk? A ∨ blk? A' = some w.heap.size) : GL B0 w' A' N c' (out ++ [x]) := by
  subst hN
  have key : ∀ y ∈ out ++ [x], OwnA B0 w y ∧ ∀ k, blk? y.A = some k → blk? A ≠ some k := by
    intro y hy
    rcases List.mem_append.1 hy with h1 | h1
    · exact h.av y h1
    · rw [List.mem_singleton.1 h1]; exact ⟨hx, hxA⟩
  refine ⟨by rw [rowa_append]; exact hrow, by simp [h.len], fun y hy => ⟨(key y hy).1.out ho (fun k hk e => (key y hy).2 k hk e), fun k hk e => ?_⟩⟩
  rcases hb with hb | hb
  · exact (key y hy).2 k hk (by rw [← hb]; exact e)
  · rw [hb] at e; injection e with e
    have := (key y hy).1.lt hk
    omega
end
theorem info38 : (Try.prog.info? 56).map (fun i => (i.zero, i.size, i.bytes)) = some (some (.agg #[.int .u32 0, .int .u32 0, .bool false, .bool false, .slice none 0 0]), 5, 40) := by kernel_rfl
def PutPost (l : List Av.Avp) (w : World) (e : Ending) (w' : World) : Prop := ∃ ys k A N c, e = .returned (.tuple #[.slice A N c, .int .i64 k]) ∧ Hid (PutRes l ys k) ∧ Hid (N = ys.length) ∧ Hid (OwnI .u8 5 w.heap.size w' A N c ys) ∧ Hid (Up w w')
/-- What Get answers. -/
def GetPost (xs : List Int) (w : World) (e : Ending) (w' : World) : Prop := ∃ l p k A n c, e = .returned (.tuple #[.slice A n c, .int .i64 (p : Nat), .int .i64 k]) ∧ Hid (GetRes xs (l.map AvB.pure, p, k)) ∧ Hid (GL w.heap.size w' A n c l) ∧ Hid (n ≤ 64) ∧ Hid (Up w w')
theorem GetPost.no {xs : List Int} {p : Nat} {k : Int} {w w' : World} {e : Ending} (h : e = .returned (.tuple #[.slice none 0 0, .int .i64 (p : Nat), .int .i64 k])) (hr : GetRes xs ([], p, k)) (hu : Up w w') : GetPost xs w e w' :=
  ⟨[], p, k, none, 0, 0, h, Lib.hid hr, Lib.hid (gl_nil _ _), Lib.hid (by omega), Lib.hid hu⟩
theorem putPost_no {l : List Av.Avp} {w w' : World} {e : Ending} (h : e = .returned (.tuple #[.slice none 0 0, .int .i64 4])) (hn : ¬ (l.length ≤ 64 ∧ (encAs l).length ≤ 4096)) (hu : Up w w') : PutPost l w e w' :=
  ⟨[], 4, none, 0, 0, h, Lib.hid (.inr ⟨rfl, rfl, hn⟩), Lib.hid rfl, Lib.hid (ownI_nil _ _ _ _), Lib.hid hu⟩
end Go.Proofs.Ythncpkjnalmpkaa
