import Derived.Test.YtccilbgbjikmpaaCk0
import Derived.Test.YtccilbgbjikmpaaStaged
namespace Go.Proofs.Ytccilbgbjikmpaa
open Go Go.RowKit
set_option linter.unusedVariables false
set_option linter.unusedSimpArgs false
/-! What came: its values, and the program's checkHeard. -/
namespace Ck
structure Hrd where
  cum : Int
  win : Int
  gaps : List (Int × Int)
  dups : List Int
def apB : Int → List (Int × Int) → Bool
  | _, [] => true
  | least, g :: l => decide (least ≤ g.1) && decide (g.1 ≤ g.2) && apB (g.2 + 2) l
def chkD (h : Hrd) : Int := if apB 2 h.gaps = false then 2 else if 64 < h.gaps.length ∨ 64 < h.dups.length then 4 else 0
def zeroD : Hrd := ⟨0, 0, [], []⟩
structure HrdOk (h : Hrd) : Prop where
  cum : 0 ≤ h.cum ∧ h.cum < 4294967296
  win : 0 ≤ h.win ∧ h.win < 4294967296
  gaps : ∀ g ∈ h.gaps, (0 ≤ g.1 ∧ g.1 < 65536) ∧ 0 ≤ g.2 ∧ g.2 < 65536
  dups : ∀ d ∈ h.dups, 0 ≤ d ∧ d < 4294967296
end Ck
def heV (h : Ck.Hrd) (u v : Value) : Value := .agg #[.int .u32 h.cum, .int .u32 h.win, u, v]
/-- The cells of Gaps. -/
def gpc (g : Int × Int) : List Value := [.int .u16 g.1, .int .u16 g.2]
def gapc (l : List (Int × Int)) : List Value := l.flatMap gpc
theorem gapc_length (l : List (Int × Int)) : (gapc l).length = l.length * 2 := by
  induction l with
  | nil => rfl
  | cons x l ih => simp only [gapc, List.flatMap_cons, List.length_append] at ih ⊢; rw [ih]; simp [gpc]; omega
theorem gapc_at {l : List (Int × Int)} {i : Nat} {x : Int × Int} (h : l[i]? = some x) : (gapc l)[i * 2]? = some (.int .u16 x.1) ∧ (gapc l)[i * 2 + 1]? = some (.int .u16 x.2) := by
  induction l generalizing i with
  | nil => simp at h
  | cons y l ih =>
    have hl : (gpc y).length = 2 := rfl
    cases i with
    | zero =>
      simp at h
      subst h
      exact ⟨rfl, rfl⟩
    | succ i =>
      have h2 : l[i]? = some x := by simpa using h
      simp only [gapc, List.flatMap_cons]
      rw [List.getElem?_append_right (by rw [hl]; omega), List.getElem?_append_right (by rw [hl]; omega), hl]
      have := ih h2
      rw [show (i + 1) * 2 - 2 = i * 2 by omega, show (i + 1) * 2 + 1 - 2 = i * 2 + 1 by omega]
      exact this
theorem gapc_append (l m : List (Int × Int)) : gapc (l ++ m) = gapc l ++ gapc m := by simp [gapc]
theorem gapc_one (l : List (Int × Int)) : ∀ u ∈ gapc l, u.oneCell' = true := by
  intro u hu
  simp only [gapc, List.mem_flatMap, gpc, List.mem_cons, List.mem_nil_iff, or_false] at hu
  obtain ⟨x, _, hu⟩ := hu
  rcases hu with rfl | rfl <;> rfl
def GapOk (l : List (Int × Int)) : Prop := ∀ g ∈ l, (0 ≤ g.1 ∧ g.1 < 65536) ∧ 0 ≤ g.2 ∧ g.2 < 65536
def DupOk (l : List Int) : Prop := ∀ d ∈ l, 0 ≤ d ∧ d < 4294967296
/-- A slice of Gaps. -/
structure InG (w : World) (A : Option Addr) (n cap : Nat) (l : List (Int × Int)) : Prop where
  cells : Cells w A (gapc l)
  ok : GapOk l
  cap : n ≤ cap
  len : l.length = n
theorem InG.up {w w' : World} {A : Option Addr} {n cap : Nat} {l : List (Int × Int)} (h : InG w A n cap l) (hu : Up w w') : InG w' A n cap l := ⟨h.cells.up hu, h.ok, h.cap, h.len⟩
/-- A slice of Dups. -/
structure InD (w : World) (A : Option Addr) (n cap : Nat) (l : List Int) : Prop where
  cells : Cells w A (ints .u32 l)
  ok : DupOk l
  cap : n ≤ cap
  len : l.length = n
theorem InD.up {w w' : World} {A : Option Addr} {n cap : Nat} {l : List Int} (h : InD w A n cap l) (hu : Up w w') : InD w' A n cap l := ⟨h.cells.up hu, h.ok, h.cap, h.len⟩
theorem apB_step {least : Int} {l : List (Int × Int)} {k : Nat} {x : Int × Int} (hx : l[k]? = some x) : Ck.apB least (l.drop k) = (decide (least ≤ x.1) && decide (x.1 ≤ x.2) && Ck.apB (x.2 + 2) (l.drop (k + 1))) := by
  obtain ⟨hl, he⟩ := List.getElem?_eq_some_iff.1 hx
  rw [List.drop_eq_getElem_cons hl, he]
  rfl
end Go.Proofs.Ytccilbgbjikmpaa
namespace Go.Proofs.Ytccilbgbjikmpaa
open Go Go.RowKit
set_option linter.unusedVariables false
set_option linter.unusedSimpArgs false
def encG (l : List (Int × Int)) : List Int := l.flatMap fun g => be g.1 2 ++ be g.2 2
def encDs (l : List Int) : List Int := l.flatMap fun d => be d 4
/-- The bytes of what came. -/
def encD (h : Ck.Hrd) : List Int := be h.cum 4 ++ be h.win 4 ++ be (h.gaps.length : Int) 2 ++ be (h.dups.length : Int) 2 ++ encG h.gaps ++ encDs h.dups
theorem encG_snoc (l : List (Int × Int)) (g : Int × Int) : encG (l ++ [g]) = encG l ++ be g.1 2 ++ be g.2 2 := by simp [encG]
theorem encDs_snoc (l : List Int) (x : Int) : encDs (l ++ [x]) = encDs l ++ be x 4 := by simp [encDs]
section
variable {g : Nat} {L : List (Nat × Obj)} {w0 w w' : World} {xs : List Int}
end
theorem chkD_zero {h : Ck.Hrd} (hk : Ck.chkD h = 0) : Ck.apB 2 h.gaps = true ∧ h.gaps.length ≤ 64 ∧ h.dups.length ≤ 64 := by
  unfold Ck.chkD at hk
  split at hk
  · omega
  · split at hk
    · omega
    · rename_i h1 h2
      exact ⟨by simpa using h1, by omega, by omega⟩
end Go.Proofs.Ytccilbgbjikmpaa
namespace Go.Proofs.Ytccilbgbjikmpaa
open Go Go.RowKit
set_option linter.unusedVariables false
set_option linter.unusedSimpArgs false
/-! A row of one's own that grows by an element, in a region that draws its order. -/
/-- A row of one's own, from block B0 on, out of X. -/
structure Row (B0 : Nat) (X : Nat → Prop) (E : TypeId) (s : Nat) (w : World) (A : Option Addr) (n c : Nat) (row : List Value) : Prop where
  own : w.ownsRow 0 E s (.slice A n c) n row
  blk : ∀ k, blk? A = some k → B0 ≤ k ∧ ¬ X k
section
variable {B0 B : Nat} {X T : Nat → Prop} {E : TypeId} {s n c : Nat} {w w' : World} {A : Option Addr} {row : List Value}
theorem Row.out (h : Row B0 X E s w A n c row) (ho : Out T w w') (ht : ∀ k, blk? A = some k → ¬ T k) : Row B0 X E s w' A n c row := ⟨ho.own h.own (fun g hg => ht g (by rwa [ownBlock_slice] at hg)), h.blk⟩
theorem Row.outX (h : Row B0 X E s w A n c row) (ho : Out T w w') (ht : ∀ k, T k → X k) : Row B0 X E s w' A n c row := h.out ho fun k hk e => (h.blk k hk).2 (ht k e)
theorem Row.up (h : Row B0 X E s w A n c row) (hu : Up w w') : Row B0 X E s w' A n c row := h.out (hu.out No) (fun _ _ h => h)
theorem Row.lt (h : Row B0 X E s w A n c row) {k : Nat} (hk : blk? A = some k) : k < w.heap.size := (row_lt h.own hk).2
end
section
variable {P : Program} {ops : Array Oper} {Φ : Nat → Value → World → Prop} {a0 : Act}
end
end Go.Proofs.Ytccilbgbjikmpaa
namespace Go.Proofs.Ytccilbgbjikmpaa
open Go Go.RowKit
set_option linter.unusedVariables false
set_option linter.unusedSimpArgs false
/-! The reference's FromHello. -/
theorem rput' (A : Option Addr) (m c : Nat) (s : Nat) (xs : List Int) (n : Int) (w : World) (h : InB w A m c xs) (hk : m ≤ 100000) (hs1 : 1 ≤ s) (hs8 : s ≤ 8) :
    Calls Try.prog 24 #[.slice A m c, .int .u64 n, .int .i64 (s : Int)] w fun e w' => ∃ A' N c', e = .returned (.slice A' N c') ∧ Hid (N = m + s) ∧ Hid (OwnI .u8 5 w.heap.size w' A' N c' (xs ++ be n s)) ∧ Hid (InB w' A' N c' (xs ++ be n s)) ∧ Hid (Up w w') :=
  (rput A m c s xs n w h (by omega) hs1 hs8).mono fun e w' ⟨A', N, c', he, ho, hu⟩ => ⟨A', N, c', he, Lib.hid (by rw [← ho.len, List.length_append, be_length, h.len]), Lib.hid ho, Lib.hid (own_inB ho (h.byt.append (be_byt n s))), Lib.hid hu⟩
end Go.Proofs.Ytccilbgbjikmpaa
