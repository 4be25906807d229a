import Derived.Test.YtccilbgbjikmpaaCk17
import Derived.BigQuiet
import Derived.Test.YtccilbgbjikmpaaCk0
import Derived.Test.YtccilbgbjikmpaaBytes
import Derived.Lib.Bytes
namespace Go.Proofs.Ytccilbgbjikmpaa
open Go Go.RowKit
set_option linter.unusedVariables false
set_option linter.unusedSimpArgs false
/-! Chunks: values, rows, and their bytes. -/
namespace Ck
structure Chk where
  ty : Int
  fl : Int
  bs : List Int
end Ck
/-- A chunk, and where its bytes lie. -/
structure ChB where
  ty : Int
  fl : Int
  A : Option Addr
  n : Nat
  c : Nat
  bs : List Int
def ChB.pure (x : ChB) : Ck.Chk := ⟨x.ty, x.fl, x.bs⟩
def chc (x : ChB) : List Value := [.int .u8 x.ty, .int .u8 x.fl, .slice x.A x.n x.c]
def rowc (l : List ChB) : List Value := l.flatMap chc
theorem rowc_length (l : List ChB) : (rowc l).length = l.length * 3 := by
  induction l with
  | nil => rfl
  | cons x l ih => simp only [rowc, List.flatMap_cons, List.length_append] at ih ⊢; rw [ih]; simp [chc]; omega
theorem rowc_at {l : List ChB} {i : Nat} {x : ChB} (h : l[i]? = some x) : (rowc l)[i * 3]? = some (.int .u8 x.ty) ∧ (rowc l)[i * 3 + 1]? = some (.int .u8 x.fl) ∧ (rowc l)[i * 3 + 2]? = some (.slice x.A x.n x.c) := by
  induction l generalizing i with
  | nil => simp at h
  | cons y l ih =>
    have hl : (chc y).length = 3 := rfl
    cases i with
    | zero =>
      simp at h
      subst h
      exact ⟨rfl, rfl, rfl⟩
    | succ i =>
      have h2 : l[i]? = some x := by simpa using h
      simp only [rowc, List.flatMap_cons]
      rw [List.getElem?_append_right (by rw [hl]; omega), List.getElem?_append_right (by rw [hl]; omega), List.getElem?_append_right (by rw [hl]; omega), hl]
      have := ih h2
      rw [show (i + 1) * 3 - 3 = i * 3 by omega, show (i + 1) * 3 + 1 - 3 = i * 3 + 1 by omega, show (i + 1) * 3 + 2 - 3 = i * 3 + 2 by omega]
      exact this
/-- A chunk that lies there. -/
structure ChIn (w : World) (x : ChB) : Prop where
  inb : InB w x.A x.n x.c x.bs
  ty : 0 ≤ x.ty ∧ x.ty < 256
  fl : 0 ≤ x.fl ∧ x.fl < 256
  n : x.n ≤ 140737488351232
theorem ChIn.up {w w' : World} {x : ChB} (h : ChIn w x) (hu : Up w w') : ChIn w' x := ⟨h.inb.up hu, h.ty, h.fl, h.n⟩
/-- A slice of chunks. -/
structure InL (w : World) (A : Option Addr) (n cap : Nat) (l : List ChB) : Prop where
  cells : Cells w A (rowc l)
  ch : ∀ x ∈ l, ChIn w x
  cap : n ≤ cap
  len : l.length = n
theorem InL.up {w w' : World} {A : Option Addr} {n cap : Nat} {l : List ChB} (h : InL w A n cap l) (hu : Up w w') : InL w' A n cap l := ⟨h.cells.up hu, fun x hx => (h.ch x hx).up hu, h.cap, h.len⟩
theorem inL_nil (w : World) : InL w none 0 0 [] := ⟨Cells.nil _ _, (fun x hx => by cases hx), Nat.le_refl _, rfl⟩
/-- An element of it, cell by cell. -/
theorem InL.at_ {w : World} {A : Option Addr} {n cap k : Nat} {l : List ChB} (h : InL w A n cap l) (hk : k < n) : ∃ x g o, l[k]? = some x ∧ A = some ⟨g, o, none⟩ ∧ w.cell? ⟨g, o + k * 3, none⟩ = some (.int .u8 x.ty) ∧ w.cell? ⟨g, o + k * 3 + 1, none⟩ = some (.int .u8 x.fl) ∧ w.cell? ⟨g, o + k * 3 + 2, none⟩ = some (.slice x.A x.n x.c) ∧ ChIn w x := by
  obtain ⟨x, hx⟩ : ∃ x, l[k]? = some x := ⟨_, List.getElem?_eq_getElem (by rw [h.len]; exact hk)⟩
  obtain ⟨g, o, rfl, _, hc⟩ := h.cells (by intro e; have := congrArg List.length e; rw [rowc_length, h.len] at this; simp at this; omega)
  obtain ⟨h1, h2, h3⟩ := rowc_at hx
  have k1 := hc _ _ h1
  have k2 := hc _ _ h2
  have k3 := hc _ _ h3
  rw [← Nat.add_assoc] at k2 k3
  exact ⟨x, g, o, hx, rfl, k1, k2, k3, h.ch x (List.mem_of_getElem? hx)⟩
def bytL (l : List Ck.Chk) : Prop := ∀ c ∈ l, (0 ≤ c.ty ∧ c.ty < 256) ∧ (0 ≤ c.fl ∧ c.fl < 256) ∧ Byt c.bs
end Go.Proofs.Ytccilbgbjikmpaa
namespace Go.Proofs.Ytccilbgbjikmpaa
open Go Go.RowKit
set_option linter.unusedVariables false
set_option linter.unusedSimpArgs false
/-! Which chunks bytes are: mathematics. -/
/-- The first chunk of bytes, and the rest. -/
def stepG : List Int → Except Int (Ck.Chk × List Int)
  | a :: b :: c :: d :: rest =>
    if (c * 256 + d).toNat < 4 then .error 2
    else if rest.length < (c * 256 + d).toNat - 4 + padN (c * 256 + d).toNat then .error 3
    else if (rest.drop ((c * 256 + d).toNat - 4)).take (padN (c * 256 + d).toNat) = List.replicate (padN (c * 256 + d).toNat) 0 then .ok (⟨a, b, rest.take ((c * 256 + d).toNat - 4)⟩, rest.drop ((c * 256 + d).toNat - 4 + padN (c * 256 + d).toNat))
    else .error 2
  | _ => .error 3
/-- All of them, at most so many. -/
def getS : Nat → List Int → List Ck.Chk × Int
  | 0, l => ([], if l = [] then 0 else 4)
  | b + 1, l => if l = [] then ([], 0) else match stepG l with
    | .error k => ([], k)
    | .ok (c, rest) => if (getS b rest).2 = 0 then (c :: (getS b rest).1, 0) else ([], (getS b rest).2)
def GetRes (xs : List Int) (cs : List Ck.Chk) (k : Int) : Prop := (xs.length ≤ 4096 ∧ getS 32 xs = (cs, k)) ∨ (4096 < xs.length ∧ cs = [] ∧ k = 4)
section
variable {xs : List Int} {r : R}
end
end Go.Proofs.Ytccilbgbjikmpaa
namespace Go.Proofs.Ytccilbgbjikmpaa
open Go Go.RowKit
set_option linter.unusedVariables false
set_option linter.unusedSimpArgs false
/-- A chunk with bytes of its own, out of X. -/
structure OwnC (B0 : Nat) (X : Nat → Prop) (w : World) (x : ChB) : Prop where
  own : OwnI .u8 5 0 w x.A x.n x.c x.bs
  byt : Byt x.bs
  ty : 0 ≤ x.ty ∧ x.ty < 256
  fl : 0 ≤ x.fl ∧ x.fl < 256
  n : x.n ≤ 140737488351232
  blk : ∀ k, blk? x.A = some k → B0 ≤ k ∧ ¬ X k
theorem OwnC.out {B0 : Nat} {X T : Nat → Prop} {w w' : World} {x : ChB} (h : OwnC B0 X w x) (ho : Out T w w') (ht : ∀ k, blk? x.A = some k → ¬ T k) : OwnC B0 X w' x := ⟨ho.own h.own (fun g hg => ht g (by rwa [ownBlock_slice] at hg)), h.byt, h.ty, h.fl, h.n, h.blk⟩
theorem OwnC.lt {B0 : Nat} {X : Nat → Prop} {w : World} {x : ChB} (h : OwnC B0 X w x) {k : Nat} (hk : blk? x.A = some k) : k < w.heap.size := (row_lt h.own hk).2
/-- Chunks in a row of one's own, each with bytes of its own. -/
structure GL (B0 : Nat) (X : Nat → Prop) (w : World) (A : Option Addr) (n c : Nat) (out : List ChB) : Prop where
  row : Row B0 X 38 3 w A n c (rowc out)
  len : out.length = n
  ch : ∀ x ∈ out, OwnC B0 X w x ∧ ∀ k, blk? x.A = some k → blk? A ≠ some k
section
variable {B0 : Nat} {X T : Nat → Prop} {w w' : World} {A : Option Addr} {n c : Nat} {out : List ChB}
theorem GL.outX (h : GL B0 X w A n c out) (ho : Out T w w') (ht : ∀ k, T k → X k) : GL B0 X w' A n c out :=
  ⟨h.row.outX ho ht, h.len, fun x hx => ⟨(h.ch x hx).1.out ho (fun k hk e => ((h.ch x hx).1.blk k hk).2 (ht k e)), (h.ch x hx).2⟩⟩
theorem GL.up (h : GL B0 X w A n c out) (hu : Up w w') : GL B0 X w' A n c out := h.outX (hu.out No) (fun _ h => h.elim)
end
def GetPost (xs : List Int) (w : World) (e : Ending) (w' : World) : Prop := ∃ l k A n c, e = .returned (.tuple #[.slice A n c, .int .i64 k]) ∧ Hid (GetRes xs (l.map ChB.pure) k) ∧ Hid (InL w' A n c l) ∧ Hid (bytL (l.map ChB.pure)) ∧ Hid (n ≤ 32) ∧ Hid (Up w w')
theorem GetPost.no {xs : List Int} {k : Int} {w w' : World} {e : Ending} (h : e = .returned (.tuple #[.slice none 0 0, .int .i64 k])) (hr : GetRes xs [] k) (hu : Up w w') : GetPost xs w e w' :=
  ⟨[], k, none, 0, 0, h, Lib.hid hr, Lib.hid (inL_nil _), Lib.hid (fun c hc => by cases hc), Lib.hid (by omega), Lib.hid hu⟩
end Go.Proofs.Ytccilbgbjikmpaa
namespace Go.Proofs.Ytccilbgbjikmpaa
open Go Go.RowKit
set_option linter.unusedVariables false
set_option linter.unusedSimpArgs false
def RetB (b : Bool) (w : World) (e : Ending) (w' : World) : Prop := e = .returned (.bool b) ∧ Hid (Up w w')
instance : DecidableEq Ck.Chk := fun a b => if h : (a.ty = b.ty ∧ a.fl = b.fl) ∧ a.bs = b.bs then .isTrue (by
    obtain ⟨a1, a2, a3⟩ := a
    obtain ⟨b1, b2, b3⟩ := b
    simp at h ⊢
    simp [h]) else .isFalse (fun e => h (by subst e; simp))
end Go.Proofs.Ytccilbgbjikmpaa
