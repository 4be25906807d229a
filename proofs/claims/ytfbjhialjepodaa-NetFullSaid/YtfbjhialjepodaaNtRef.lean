import Derived.Test.YtfbjhialjepodaaNtL7
namespace Go.Proofs.Ytfbjhialjepodaa
open Go Go.RowKit
set_option linter.unusedVariables false
/-- A frame, and where its bytes lie. -/
structure FrB where
  f : Nt.Fr
  A : Option Addr
  c : Nat
instance : Inhabited FrB := ⟨⟨default, none, 0⟩⟩
def frc (x : FrB) : List Value := [.int .i64 x.f.fh, .int .i64 x.f.fp, .int .i64 x.f.th, .int .i64 x.f.tp, .slice x.A x.f.bytes.length x.c, .bool x.f.tn]
def rowc (l : List FrB) : List Value := l.flatMap frc
theorem rowc_length (l : List FrB) : (rowc l).length = l.length * 6 := by
  induction l with
  | nil => rfl
  | cons x l ih => simp only [rowc, List.flatMap_cons, List.length_append] at ih ⊢; rw [ih]; simp [frc]; omega
theorem rowc_at {l : List FrB} {i : Nat} {x : FrB} (h : l[i]? = some x) {j : Nat} {v : Value} (hj : (frc x)[j]? = some v) : (rowc l)[i * 6 + j]? = some v := by
  induction l generalizing i with
  | nil => simp at h
  | cons y l ih =>
    have hl : (frc y).length = 6 := rfl
    cases i with
    | zero =>
      simp at h
      subst h
      simp only [rowc, List.flatMap_cons, Nat.zero_mul, Nat.zero_add]
      have : j < (frc y).length := (List.getElem?_eq_some_iff.1 hj).1
      rw [List.getElem?_append_left this]; exact hj
    | succ i =>
      have h2 : l[i]? = some x := by simpa using h
      simp only [rowc, List.flatMap_cons]
      rw [List.getElem?_append_right (by rw [hl]; omega), hl]
      have := ih h2
      have e : (i + 1) * 6 + j - 6 = i * 6 + j := by omega
      rw [e]; exact this
theorem rowc_append (l m : List FrB) : rowc (l ++ m) = rowc l ++ rowc m := by simp [rowc]
/-- The cells of a net of the reference. -/
def refBlk (h : Int) (A : Option Addr) (n c : Nat) (dn : Int → Int → Int → Bool) : Array Value := #[.int .i64 h, .slice A n c] ++ ((List.range 128).map fun j => Value.bool (dn ((j / 16 : Nat) : Int) ((j / 2 % 8 : Nat) : Int) ((j % 2 : Nat) : Int))).toArray
theorem refBlk_size (h : Int) (A : Option Addr) (n c : Nat) (dn : Int → Int → Int → Bool) : (refBlk h A n c dn).size = 130 := by simp [refBlk]
theorem refCells_eq (h : Int) : refCells h = refBlk h none 0 0 (fun _ _ _ => false) := by simp only [refCells, refBlk, List.map_const', List.length_range]
theorem refBlk_0 (h : Int) (A : Option Addr) (n c : Nat) (dn : Int → Int → Int → Bool) : (refBlk h A n c dn)[0]? = some (.int .i64 h) := by simp [refBlk]
theorem refBlk_1 (h : Int) (A : Option Addr) (n c : Nat) (dn : Int → Int → Int → Bool) : (refBlk h A n c dn)[1]? = some (.slice A n c) := by simp [refBlk]
theorem refBlk_dn (h : Int) (A : Option Addr) (n c : Nat) (dn : Int → Int → Int → Bool) {a b q : Nat} (ha : a < 8) (hb : b < 8) (hq : q < 2) : (refBlk h A n c dn)[2 + a * 16 + b * 2 + q]? = some (.bool (dn a b q)) := by
  unfold refBlk
  rw [Array.getElem?_append_right (by simp; omega)]
  have e : 2 + a * 16 + b * 2 + q - (#[Value.int .i64 h, .slice A n c] : Array Value).size = a * 16 + b * 2 + q := by simp; omega
  rw [e]
  simp only [List.getElem?_toArray, List.getElem?_map]
  rw [List.getElem?_range (by omega)]
  simp only [Option.map_some]
  have e1 : (a * 16 + b * 2 + q) / 16 = a := by omega
  have e2 : (a * 16 + b * 2 + q) / 2 % 8 = b := by omega
  have e3 : (a * 16 + b * 2 + q) % 2 = q := by omega
  rw [e1, e2, e3]
theorem refBlk_way (h : Int) (A A' : Option Addr) (n c n' c' : Nat) (dn : Int → Int → Int → Bool) : (refBlk h A n c dn).setIfInBounds 1 (.slice A' n' c') = refBlk h A' n' c' dn := by
  simp [refBlk]
theorem refBlk_cut (h : Int) (A : Option Addr) (n c : Nat) (dn : Int → Int → Int → Bool) {a b q : Nat} (ha : a < 8) (hb : b < 8) (hq : q < 2) (d : Bool) :
    (refBlk h A n c dn).setIfInBounds (2 + a * 16 + b * 2 + q) (.bool d) = refBlk h A n c (fun x y z => if x = a ∧ y = b ∧ z = q then d else dn x y z) := by
  apply Array.ext_getElem?
  intro i
  rw [Array.getElem?_setIfInBounds]
  by_cases e : 2 + a * 16 + b * 2 + q = i
  · rw [if_pos e, if_pos (by rw [refBlk_size]; omega), ← e, refBlk_dn h A n c _ ha hb hq, if_pos ⟨rfl, rfl, rfl⟩]
  · rw [if_neg e]
    by_cases h0 : i = 0
    · subst h0; rw [refBlk_0, refBlk_0]
    by_cases h3 : i = 1
    · subst h3; rw [refBlk_1, refBlk_1]
    by_cases h4 : i < 130
    · have hi : (2 + (i - 2) / 16 * 16 + (i - 2) / 2 % 8 * 2 + (i - 2) % 2) = i := by omega
      have hg : ∀ dn', (refBlk h A n c dn')[i]? = some (.bool (dn' ((i - 2) / 16 : Nat) ((i - 2) / 2 % 8 : Nat) ((i - 2) % 2 : Nat))) := fun dn' => by
        have := refBlk_dn h A n c dn' (a := (i - 2) / 16) (b := (i - 2) / 2 % 8) (q := (i - 2) % 2) (by omega) (by omega) (by omega)
        rwa [hi] at this
      rw [hg, hg, if_neg (by rintro ⟨k1, k2, k3⟩; apply e; omega)]
    · rw [Array.getElem?_eq_none (by rw [refBlk_size]; omega), Array.getElem?_eq_none (by rw [refBlk_size]; omega)]
/-- A net of the reference: its block, its frames, and their bytes, each in a block of its own. -/
def IsRf (S : Nat → Prop) (w : World) (p : Addr) (st : Nt.St) : Prop := ∃ (b : Nat) (A : Option Addr) (c : Nat) (l : List FrB), p = ⟨b, 0, none⟩ ∧ (1 ≤ st.hosts ∧ st.hosts ≤ 8) ∧ st.way = l.map (·.f) ∧ l.length ≤ 1024 ∧
  w.heap[b]? = some (.cells (refBlk st.hosts A l.length c st.down) 34 (0, 0)) ∧ w.ownsRow 0 46 6 (.slice A l.length c) l.length (rowc l) ∧
  (∀ x ∈ l, OwnI .u8 5 0 w x.A x.f.bytes.length x.c x.f.bytes ∧ Byt x.f.bytes ∧ x.f.bytes.length ≤ 4096) ∧
  (∀ k, S k → k < w.heap.size) ∧ S b ∧ (∀ k, blk? A = some k → S k ∧ k ≠ b) ∧ (∀ x ∈ l, ∀ k, blk? x.A = some k → S k ∧ k ≠ b ∧ blk? A ≠ some k) ∧
  l.Pairwise (fun x y => ∀ k, blk? x.A = some k → blk? y.A ≠ some k)
theorem isRf_lt {S : Nat → Prop} {w : World} {p : Addr} {st : Nt.St} (h : IsRf S w p st) : ∀ k, S k → k < w.heap.size := by
  obtain ⟨b, A, c, l, _, _, _, _, _, _, _, h8, _⟩ := h
  exact h8
end Go.Proofs.Ytfbjhialjepodaa
