import Derived.Test.YtdhkbpnhbbedmaaSteady
import Derived.Laws.BitsAllLaws
namespace Go.Proofs.Ytdhkbpnhbbedmaa
open Go Go.RowKit
set_option linter.unusedVariables false
/-- Bytes as plain numbers. -/
def nats (xs : List Int) : List Nat := xs.map Int.toNat
/-- Each fits a byte. -/
def Byt (xs : List Int) : Prop := ∀ x ∈ xs, 0 ≤ x ∧ x < 256
theorem nats_lt {xs : List Int} (h : Byt xs) : ∀ b ∈ nats xs, b < 256 := by
  intro b hb
  simp only [nats, List.mem_map] at hb
  obtain ⟨x, hx, rfl⟩ := hb
  have := h x hx
  omega
theorem nats_append (xs ys : List Int) : nats (xs ++ ys) = nats xs ++ nats ys := by simp [nats]
theorem byt_nil : Byt [] := by intro x hx; cases hx
theorem Byt.append {xs ys : List Int} (h : Byt xs) (k : Byt ys) : Byt (xs ++ ys) := fun x hx => by
  rcases List.mem_append.1 hx with h1 | h1
  · exact h x h1
  · exact k x h1
theorem Byt.take {xs : List Int} (h : Byt xs) (n : Nat) : Byt (xs.take n) := fun x hx => h x (List.mem_of_mem_take hx)
theorem Byt.drop {xs : List Int} (h : Byt xs) (n : Nat) : Byt (xs.drop n) := fun x hx => h x (List.mem_of_mem_drop hx)
/-- A slice of bytes. -/
structure InB (w : World) (A : Option Addr) (n cap : Nat) (xs : List Int) : Prop where
  cells : Cells w A (ints .u8 xs)
  byt : Byt xs
  cap : n ≤ cap
  len : xs.length = n
theorem InB.up {w w' : World} {A : Option Addr} {n cap : Nat} {xs : List Int} (h : InB w A n cap xs) (hu : Below w.heap.size w w') : InB w' A n cap xs := ⟨h.cells.up hu, h.byt, h.cap, h.len⟩
theorem inB_nil (w : World) : InB w none 0 0 [] := ⟨Cells.nil _ _, byt_nil, Nat.le_refl _, rfl⟩
theorem own_inB {E : TypeId} {w : World} {base : Nat} {A : Option Addr} {c n : Nat} {xs : List Int} (h : OwnI .u8 E base w A n c xs) (hb : Byt xs) : InB w A n c xs := ⟨h.cells, hb, h.cap, h.len⟩
/-- The s lowest bytes of n, the highest first. -/
def be (n : Int) : Nat → List Int
  | 0 => []
  | s + 1 => n / 2 ^ (8 * s) % 256 :: be n s
theorem be_length (n : Int) (s : Nat) : (be n s).length = s := by induction s <;> simp_all [be]
theorem be_byt (n : Int) (s : Nat) : Byt (be n s) := by
  induction s with
  | zero => simp [be, Byt]
  | succ s ih =>
    intro x hx
    simp only [be, List.mem_cons] at hx
    rcases hx with rfl | hx
    · omega
    · exact ih x hx
theorem be_step {n : Int} {k : Nat} {ys xs : List Int} {s : Nat} (h : ys ++ be n (k + 1) = xs ++ be n s) : (ys ++ [n / 2 ^ (8 * k) % 256]) ++ be n k = xs ++ be n s := by
  rw [← h, be]; simp
/-- The number that these bytes are, behind v. -/
def num : Int → List Int → Int
  | v, [] => v
  | v, x :: l => num (v * 256 + x) l
theorem num_snoc (l : List Int) (x : Int) : ∀ v, num v (l ++ [x]) = num v l * 256 + x := by
  induction l with
  | nil => intro v; rfl
  | cons y l ih => intro v; simp only [List.cons_append, num]; exact ih _
theorem num_bd (l : List Int) (hb : ∀ x ∈ l, 0 ≤ x ∧ x < 256) : 0 ≤ num 0 l ∧ num 0 l < 256 ^ l.length := by
  suffices h : ∀ (l : List Int) (v : Int) (k : Nat), (∀ x ∈ l, 0 ≤ x ∧ x < 256) → 0 ≤ v → v < 256 ^ k → 0 ≤ num v l ∧ num v l < 256 ^ (k + l.length) from by
    simpa using h l 0 0 hb (by omega) (by simp)
  intro l
  induction l with
  | nil => intro v k _ h0 h1; exact ⟨h0, by simpa [num] using h1⟩
  | cons x l ih =>
    intro v k hb h0 h1
    have hx := hb x (by simp)
    have h2 : v * 256 + x < 256 ^ (k + 1) := by rw [Int.pow_succ]; omega
    have := ih (v * 256 + x) (k + 1) (fun y hy => hb y (by simp [hy])) (by omega) h2
    simpa [num, Nat.add_assoc, Nat.add_comm 1] using this
theorem pow256_le {j : Nat} (h : j ≤ 8) : (256 : Int) ^ j ≤ 18446744073709551616 := by
  match j, h with
  | 0, _ => decide
  | 1, _ => decide
  | 2, _ => decide
  | 3, _ => decide
  | 4, _ => decide
  | 5, _ => decide
  | 6, _ => decide
  | 7, _ => decide
  | 8, _ => decide
theorem num_u64 (l : List Int) (hb : Byt l) (hl : l.length ≤ 8) : 0 ≤ num 0 l ∧ num 0 l < 18446744073709551616 := by
  have h := num_bd l hb
  have := pow256_le hl
  omega
/-- What is written is what was read. -/
theorem be_num (l : List Int) (hb : Byt l) : be (num 0 l) l.length = l := by
  have key : ∀ (l : List Int) (v : Int), Byt l → 0 ≤ v → be (num v l) l.length = l ∧ num v l / 256 ^ l.length = v := by
    intro l
    induction l with
    | nil => intro v _ _; exact ⟨rfl, by simp [num]⟩
    | cons x l ih =>
      intro v hb h0
      have hx := hb x (by simp)
      obtain ⟨h1, h2⟩ := ih (v * 256 + x) (fun y hy => hb y (by simp [hy])) (by omega)
      have e1 : (2 : Int) ^ (8 * l.length) = 256 ^ l.length := by rw [Int.pow_mul]; rfl
      refine ⟨?_, ?_⟩
      · simp only [List.length_cons, be, num]
        rw [h1, e1, h2]
        congr 1
        omega
      · simp only [List.length_cons, num]
        rw [Int.pow_succ, ← Int.ediv_ediv_of_nonneg (Int.pow_nonneg (by omega)), h2]
        omega
  exact (key l 0 hb (by omega)).1
end Go.Proofs.Ytdhkbpnhbbedmaa
namespace Go.Proofs.Ytdhkbpnhbbedmaa
open Go Go.RowKit
theorem inB_of {w : World} {a : Option Addr} {len cap : Nat} {zs : List Int} (h : IntsIn .u8 1 w a len cap zs) : InB w a len cap zs := by
  obtain ⟨⟨A, c, e, hc, hx⟩, rfl, _, hw⟩ := h
  injection e with e1 e2 e3
  subst e1; subst e3
  refine ⟨hx, fun x hx => ?_, by rw [ints_length] at hc; exact hc, rfl⟩
  have := hw x hx
  simp [Lit.wf] at this
  have h1 : IntKind.u8.min = 0 := by rfl
  have h2 : IntKind.u8.max = 255 := by rfl
  omega
theorem reach_of {w : World} {a : Option Addr} {len cap : Nat} {zs : List Int} (h : IntsIn .u8 1 w a len cap zs) : len ≤ 140737488351232 := by
  obtain ⟨_, rfl, h, _⟩ := h
  omega
end Go.Proofs.Ytdhkbpnhbbedmaa
