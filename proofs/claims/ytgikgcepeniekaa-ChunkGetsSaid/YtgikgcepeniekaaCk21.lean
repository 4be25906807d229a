import Derived.Test.YtgikgcepeniekaaCk17
import Derived.BigQuiet
namespace Go.Proofs.Ytgikgcepeniekaa
open Go Go.RowKit
set_option linter.unusedVariables false
set_option linter.unusedSimpArgs false
/-! Chunks: values, rows, and their bytes. -/
namespace Ck
structure Chk where
  ty : Int
  fl : Int
  bs : List Int
end Ck
/-- A chunk, and where its bytes lie. -/
structure ChB where
  ty : Int
  fl : Int
  A : Option Addr
  n : Nat
  c : Nat
  bs : List Int
def ChB.pure (x : ChB) : Ck.Chk := ⟨x.ty, x.fl, x.bs⟩
def chc (x : ChB) : List Value := [.int .u8 x.ty, .int .u8 x.fl, .slice x.A x.n x.c]
def rowc (l : List ChB) : List Value := l.flatMap chc
theorem rowc_length (l : List ChB) : (rowc l).length = l.length * 3 := by
  induction l with
  | nil => rfl
  | cons x l ih => simp only [rowc, List.flatMap_cons, List.length_append] at ih ⊢; rw [ih]; simp [chc]; omega
theorem rowc_at {l : List ChB} {i : Nat} {x : ChB} (h : l[i]? = some x) : (rowc l)[i * 3]? = some (.int .u8 x.ty) ∧ (rowc l)[i * 3 + 1]? = some (.int .u8 x.fl) ∧ (rowc l)[i * 3 + 2]? = some (.slice x.A x.n x.c) := by
  induction l generalizing i with
  | nil => simp at h
  | cons y l ih =>
    have hl : (chc y).length = 3 := rfl
    cases i with
    | zero =>
      simp at h
      subst h
      exact ⟨rfl, rfl, rfl⟩
    | succ i =>
      have h2 : l[i]? = some x := by simpa using h
      simp only [rowc, List.flatMap_cons]
      rw [List.getElem?_append_right (by rw [hl]; omega), List.getElem?_append_right (by rw [hl]; omega), List.getElem?_append_right (by rw [hl]; omega), hl]
      have := ih h2
      rw [show (i + 1) * 3 - 3 = i * 3 by omega, show (i + 1) * 3 + 1 - 3 = i * 3 + 1 by omega, show (i + 1) * 3 + 2 - 3 = i * 3 + 2 by omega]
      exact this
theorem rowc_append (l m : List ChB) : rowc (l ++ m) = rowc l ++ rowc m := by simp [rowc]
theorem rowc_one (l : List ChB) : ∀ u ∈ rowc l, u.oneCell' = true := by
  intro u hu
  simp only [rowc, List.mem_flatMap, chc, List.mem_cons, List.mem_nil_iff, or_false] at hu
  obtain ⟨x, _, hu⟩ := hu
  rcases hu with rfl | rfl | rfl <;> rfl
/-- A chunk that lies there. -/
structure ChIn (w : World) (x : ChB) : Prop where
  inb : InB w x.A x.n x.c x.bs
  ty : 0 ≤ x.ty ∧ x.ty < 256
  fl : 0 ≤ x.fl ∧ x.fl < 256
  n : x.n ≤ 140737488351232
theorem ChIn.up {w w' : World} {x : ChB} (h : ChIn w x) (hu : Up w w') : ChIn w' x := ⟨h.inb.up hu, h.ty, h.fl, h.n⟩
/-- A slice of chunks. -/
structure InL (w : World) (A : Option Addr) (n cap : Nat) (l : List ChB) : Prop where
  cells : Cells w A (rowc l)
  ch : ∀ x ∈ l, ChIn w x
  cap : n ≤ cap
  len : l.length = n
theorem InL.up {w w' : World} {A : Option Addr} {n cap : Nat} {l : List ChB} (h : InL w A n cap l) (hu : Up w w') : InL w' A n cap l := ⟨h.cells.up hu, fun x hx => (h.ch x hx).up hu, h.cap, h.len⟩
theorem inL_nil (w : World) : InL w none 0 0 [] := ⟨Cells.nil _ _, (fun x hx => by cases hx), Nat.le_refl _, rfl⟩
/-- An element of it, cell by cell. -/
theorem InL.at_ {w : World} {A : Option Addr} {n cap k : Nat} {l : List ChB} (h : InL w A n cap l) (hk : k < n) : ∃ x g o, l[k]? = some x ∧ A = some ⟨g, o, none⟩ ∧ w.cell? ⟨g, o + k * 3, none⟩ = some (.int .u8 x.ty) ∧ w.cell? ⟨g, o + k * 3 + 1, none⟩ = some (.int .u8 x.fl) ∧ w.cell? ⟨g, o + k * 3 + 2, none⟩ = some (.slice x.A x.n x.c) ∧ ChIn w x := by
  obtain ⟨x, hx⟩ : ∃ x, l[k]? = some x := ⟨_, List.getElem?_eq_getElem (by rw [h.len]; exact hk)⟩
  obtain ⟨g, o, rfl, _, hc⟩ := h.cells (by intro e; have := congrArg List.length e; rw [rowc_length, h.len] at this; simp at this; omega)
  obtain ⟨h1, h2, h3⟩ := rowc_at hx
  have k1 := hc _ _ h1
  have k2 := hc _ _ h2
  have k3 := hc _ _ h3
  rw [← Nat.add_assoc] at k2 k3
  exact ⟨x, g, o, hx, rfl, k1, k2, k3, h.ch x (List.mem_of_getElem? hx)⟩
/-- The bytes of a chunk, of chunks. -/
def encC (c : Ck.Chk) : List Int := [c.ty, c.fl] ++ be (4 + (c.bs.length : Int)) 2 ++ padL c.bs
def encL (l : List Ck.Chk) : List Int := l.flatMap encC
theorem encC_length (c : Ck.Chk) : (encC c).length = 4 + c.bs.length + padN c.bs.length := by simp [encC, be_length, padL_length]; omega
theorem encL_snoc (l : List Ck.Chk) (c : Ck.Chk) : encL (l ++ [c]) = encL l ++ encC c := by simp [encL]
theorem encL_append (l m : List Ck.Chk) : encL (l ++ m) = encL l ++ encL m := by simp [encL]
theorem encL_take_le (l : List Ck.Chk) (k : Nat) : (encL (l.take k)).length ≤ (encL l).length := by
  conv => rhs; rw [← List.take_append_drop k l, encL_append, List.length_append]
  omega
def bytL (l : List Ck.Chk) : Prop := ∀ c ∈ l, (0 ≤ c.ty ∧ c.ty < 256) ∧ (0 ≤ c.fl ∧ c.fl < 256) ∧ Byt c.bs
theorem byt_encL {l : List Ck.Chk} (h : bytL l) : Byt (encL l) := by
  intro x hx
  simp only [encL, List.mem_flatMap] at hx
  obtain ⟨c, hc, hx⟩ := hx
  obtain ⟨h1, h2, h3⟩ := h c hc
  simp only [encC, List.mem_append, List.mem_cons, List.mem_nil_iff, or_false] at hx
  rcases hx with ((rfl | rfl) | hx) | hx
  · exact h1
  · exact h2
  · exact be_byt _ _ x hx
  · exact byt_padL h3 x hx
/-- What Put answers. -/
def PutRes (l : List Ck.Chk) (ys : List Int) (k : Int) : Prop := (k = 0 ∧ ys = encL l ∧ l.length ≤ 32 ∧ (encL l).length ≤ 4096) ∨ (k = 4 ∧ ys = [] ∧ ¬ (l.length ≤ 32 ∧ (encL l).length ≤ 4096))
def PutPost (l : List Ck.Chk) (w : World) (e : Ending) (w' : World) : Prop := ∃ ys k A N c, e = .returned (.tuple #[.slice A N c, .int .i64 k]) ∧ Hid (PutRes l ys k) ∧ Hid (N = ys.length) ∧ Hid (OwnI .u8 5 w.heap.size w' A N c ys) ∧ Hid (Up w w')
theorem putRes_inj {l : List Ck.Chk} {ys zs : List Int} {k k' : Int} (a : PutRes l ys k) (b : PutRes l zs k') : ys = zs ∧ k = k' := by
  rcases a with ⟨a1, a2, a3, a4⟩ | ⟨a1, a2, a3⟩ <;> rcases b with ⟨b1, b2, b3, b4⟩ | ⟨b1, b2, b3⟩
  · exact ⟨by rw [a2, b2], by omega⟩
  · exact absurd ⟨a3, a4⟩ b3
  · exact absurd ⟨b3, b4⟩ a3
  · exact ⟨by rw [a2, b2], by omega⟩
theorem make_cap (n : Nat) (hn : n ≤ 100000) (W : World) : (Instr.makeSlice 23 (.int .i64 0) (.int .i64 (n : Int))).run Try.prog W =
    .ok (.slice (some ⟨W.heap.size, 0, none⟩) 0 n) (W.alloc (.cells (Array.replicate n (.int .u8 0)) 5)) := by
  rw [← List.toArray_replicate]
  obtain ⟨i0, hi, hz0, hz1, hz2⟩ := info_parts winfo5
  have h := run_make (P := Try.prog) W 23 5 i0 (.int .u8 0) Try.underlying23 hi hz0 .i64 .i64 0 n (by omega) (by omega) (by rw [hz2]; omega) (by omega)
  have e : madeCells (Value.int .u8 0).cells (n * 1) = (List.replicate n (.int .u8 0)).toArray := by
    apply Array.toList_inj.1
    show (madeCells #[Value.int .u8 0] (n * 1)).toList = _
    rw [toList_madeCells_one]; simp
  rw [hz1] at h
  simp only [Int.toNat_natCast] at h
  rw [e] at h
  exact h
theorem WH.fin {g : Nat} {L : List (Nat × Obj)} {w0 w : World} {xs : List Int} (h : WH g L w0 xs w) : ∃ A N c, w.cell? ⟨g, 0, none⟩ = some (.slice A N c) ∧ Hid (N = xs.length) ∧ Hid (OwnI .u8 5 w0.heap.size w A N c xs) ∧ Hid (Up w0 w) := by
  obtain ⟨S, h1, h2, h5, h6⟩ := h
  obtain ⟨A, N, c, k1, k2, k3, k4⟩ := h1.ex
  exact ⟨A, N, c, cell_of k1 rfl, Lib.hid k2.len.symm, Lib.hid (k2.rebase fun k hk => h5 k (k4 k hk).1), Lib.hid h6⟩
theorem WH.start {w0 w : World} (n : Nat) (hn : n ≤ 100000) (hu : Up w0 w) : WH (w.heap.size + 1) [] w0 [] ((w.alloc (.cells (Array.replicate n (.int .u8 0)) 5)).alloc (.cells #[.slice (some ⟨w.heap.size, 0, none⟩) 0 n] 70)) := by
  have u1 := up_alloc w (.cells (Array.replicate n (.int .u8 0)) 5)
  have a1 := new_at w (.cells (Array.replicate n (.int .u8 0)) 5)
  have s1 : (w.alloc (.cells (Array.replicate n (.int .u8 0)) 5)).heap.size = w.heap.size + 1 := by simp
  have u2 := up_alloc (w.alloc (.cells (Array.replicate n (.int .u8 0)) 5)) (.cells #[.slice (some ⟨w.heap.size, 0, none⟩) 0 n] 70)
  have a2 := new_at (w.alloc (.cells (Array.replicate n (.int .u8 0)) 5)) (.cells #[.slice (some ⟨w.heap.size, 0, none⟩) 0 n] 70)
  rw [s1] at a2
  refine ⟨fun k => k = w.heap.size ∨ k = w.heap.size + 1, ⟨some ⟨w.heap.size, 0, none⟩, 0, n, a2, ⟨rfl, .inr ⟨w.heap.size, n, _, rfl, Nat.zero_le _, (u2.block _ (lt_of_blk a1)).trans a1, Nat.zero_le _, by unfold maxLen; omega, by simp, by simp [ints]⟩⟩, .inr rfl, fun k hk => ?_⟩, (fun p hp => by cases hp), fun k hk => ?_, (hu.trans u1).trans u2⟩
  · have e : w.heap.size = k := by simpa [blk?] using hk
    subst e
    exact ⟨.inl rfl, by omega⟩
  · have := hu.size
    rcases hk with hk | hk <;> omega
end Go.Proofs.Ytgikgcepeniekaa
