import Derived.Test.YtgcabidhpnaoiaaFgR4
namespace Go.Proofs.Ytgcabidhpnaoiaa
open Go Go.RowKit
set_option linter.unusedVariables false
set_option linter.unusedSimpArgs false
/-! The reference's turns. -/
namespace Fg
def ts (m : List LtB) : List Lt := m.map (·.x)
/-- Whether it is its turn. -/
def hit (s : Nat) (nx : Nat → Nat) (y : LtB) : Prop := y.x.1 = s ∧ y.x.2.1 = nx s
theorem turns_go {m l1 l2 : List LtB} {y : LtB} {s : Nat} {nx nx' : Nat → Nat} {ms : List (Nat × List Int)} {W' : List Lt} (hk : KApart (ts m)) (hm : m = l1 ++ y :: l2) (hh : hit s nx y) (h : Turns s (ts (l1 ++ l2)) (upd nx s) ms W' nx') : Turns s (ts m) nx ((s, y.x.2.2) :: ms) W' nx' := by
  obtain ⟨h1, h2⟩ := hh
  refine Turns.go y.x (by rw [hm]; simp [ts]) h1 h2 ?_
  have e : ((ts m).filter fun z => !(decide (z.1 = s) && decide (z.2.1 = nx s))) = ts (l1 ++ l2) := by
    subst hm
    unfold ts KApart at *
    rw [List.map_append, List.map_cons, List.pairwise_append, List.pairwise_cons] at hk
    obtain ⟨_, ⟨p2, _⟩, p3⟩ := hk
    rw [List.map_append, List.map_cons, List.filter_append, List.filter_cons, if_neg (by simp [h1, h2]), List.map_append]
    congr 1
    · rw [List.filter_eq_self]
      intro z hz
      have := p3 z hz y.x (by simp)
      rw [h1, h2] at this
      simp; omega
    · rw [List.filter_eq_self]
      intro z hz
      have := p2 z hz
      rw [h1, h2] at this
      simp; omega
  rw [e]; exact h
theorem ksub {l m : List LtB} (h : KApart (ts l)) (hs : m.Sublist l) : KApart (ts m) := List.Pairwise.sublist (hs.map _) h
theorem rb_nx (H : Option Addr) (n c : Nat) (W : Option Addr) (m d : Nat) (nx : Nat → Nat) {s : Nat} (hs : s < 8) : (rbBlk H n c W m d nx)[2 + s]? = some (.int .u16 (nx s)) := by
  have : s = 0 ∨ s = 1 ∨ s = 2 ∨ s = 3 ∨ s = 4 ∨ s = 5 ∨ s = 6 ∨ s = 7 := by omega
  rcases this with rfl | rfl | rfl | rfl | rfl | rfl | rfl | rfl <;> rfl
theorem rb_wait (H : Option Addr) (n c : Nat) (W W' : Option Addr) (m d m' d' : Nat) (nx : Nat → Nat) : (rbBlk H n c W m d nx).setIfInBounds 1 (.slice W' m' d') = rbBlk H n c W' m' d' nx := by simp [rbBlk]
theorem rb_upd (H : Option Addr) (n c : Nat) (W : Option Addr) (m d : Nat) (nx : Nat → Nat) {s : Nat} (hs : s < 8) : (rbBlk H n c W m d nx).setIfInBounds (2 + s) (.int .u16 (((nx s + 1) % 65536 : Nat) : Int)) = rbBlk H n c W m d (upd nx s) := by
  have : s = 0 ∨ s = 1 ∨ s = 2 ∨ s = 3 ∨ s = 4 ∨ s = 5 ∨ s = 6 ∨ s = 7 := by omega
  rcases this with rfl | rfl | rfl | rfl | rfl | rfl | rfl | rfl <;> simp [rbBlk, upd]
theorem info90 : (Try.prog.info? 90).map (fun i => (i.zero, i.size, i.bytes)) = some (some (.agg #[.int .u16 0, .int .u16 0, .slice none 0 0]), 3, 32) := by kernel_rfl
theorem info32 : (Try.prog.info? 32).map (fun i => (i.zero, i.size, i.bytes)) = some (some (.agg #[.int .u16 0, .slice none 0 0]), 2, 32) := by kernel_rfl
theorem ltc_one (l : List LtB) : ∀ u ∈ l.flatMap ltc, u.oneCell' = true := by
  intro u hu
  obtain ⟨x, _, hx⟩ := List.mem_flatMap.1 hu
  simp only [ltc, List.mem_cons, List.not_mem_nil, or_false] at hx
  rcases hx with h | h | h <;> rw [h] <;> rfl
/-- A message as it is told. -/
def msc (s : Nat) (y : LtB) : List Value := [.int .u16 s, .slice y.A y.x.2.2.length y.c]
theorem msc_len (s : Nat) (y : LtB) : (msc s y).length = 2 := rfl
theorem msc_one (s : Nat) (l : List LtB) : ∀ u ∈ l.flatMap (msc s), u.oneCell' = true := by
  intro u hu
  obtain ⟨x, _, hx⟩ := List.mem_flatMap.1 hu
  simp only [msc, List.mem_cons, List.not_mem_nil, or_false] at hx
  rcases hx with h | h <;> rw [h] <;> rfl
/-- Where turns stands: what still waits, what is told. -/
structure TSt (w0 : World) (b s : Nat) (H : Option Addr) (n c : Nat) (m0 : List LtB) (nx0 : Nat → Nat) (W0 : Option Addr) (w : World) (A : Option Addr) (N cA : Nat) (m o : List LtB) (W : Option Addr) (d : Nat) (nx : Nat → Nat) : Prop where
  row : w.ownsRow w0.heap.size 32 2 (.slice A N cA) N (o.flatMap (msc s))
  top : w.heap[b]? = some (.cells (rbBlk H n c W m.length d nx) 48 (0, 0))
  rowW : w.ownsRow 0 90 3 (.slice W m.length d) m.length (m.flatMap ltc)
  old : ∀ q, blk? W = some q → blk? W0 = some q ∨ w0.heap.size ≤ q
  len : N = o.length
  le : m.length + o.length ≤ m0.length
  sub : m.Sublist m0
  told : ∀ y ∈ o, y ∈ m0
  lt : nx s < 65536
  go : ∀ (ms : List (Nat × List Int)) (W' : List Lt) (nx' : Nat → Nat), Turns s (ts m) nx ms W' nx' → Turns s (ts m0) nx0 ((o.map fun y => (s, y.x.2.2)) ++ ms) W' nx'
  out : Out (fun k => k = b) w0 w
end Fg
end Go.Proofs.Ytgcabidhpnaoiaa
