import Derived.Test.YtgikgcepeniekaaFrameI
import Derived.Laws.OwnMore
namespace Go.Proofs.Ytgikgcepeniekaa
open Go Go.RowKit
/-- A row of integers of the call's own, from block 'base' on. -/
def OwnI (k : IntKind) (E : TypeId) (base : Nat) (w : World) (A : Option Addr) (N c : Nat) (xs : List Int) : Prop := w.ownsRow base E 1 (.slice A N c) N (ints k xs)
theorem ints_one (k : IntKind) (xs : List Int) : ∀ u ∈ ints k xs, u.oneCell' = true := by intro u hu; simp [ints] at hu; obtain ⟨x, _, rfl⟩ := hu; rfl
theorem ints_append (k : IntKind) (xs ys : List Int) : ints k (xs ++ ys) = ints k xs ++ ints k ys := by simp [ints]
section
variable {k : IntKind} {E : TypeId} {base : Nat} {w : World} {A : Option Addr} {N c : Nat} {xs : List Int}
theorem OwnI.len (h : OwnI k E base w A N c xs) : xs.length = N := by have := h.1; simpa [ints_length] using this
theorem OwnI.isS (h : OwnI k E base w A N c xs) : IsS w (.slice A N c) (ints k xs) := IsS.of_own h
theorem OwnI.cells (h : OwnI k E base w A N c xs) : Cells w A (ints k xs) := by
  obtain ⟨A', c', e, hc, hx⟩ := h.isS
  obtain ⟨rfl, -, rfl⟩ : A = A' ∧ N = (ints k xs).length ∧ c = c' := by injection e with a b c; exact ⟨a, b, c⟩
  exact hx
theorem OwnI.cap (h : OwnI k E base w A N c xs) : N ≤ c := by
  obtain ⟨A', c', e, hc, hx⟩ := h.isS
  obtain ⟨rfl, hn, rfl⟩ : A = A' ∧ N = (ints k xs).length ∧ c = c' := by injection e with a b c; exact ⟨a, b, c⟩
  omega
theorem OwnI.alloc (h : OwnI k E base w A N c xs) (o : Obj) : OwnI k E base (w.alloc o) A N c xs := World.ownsRow.alloc h o
theorem OwnI.at_ (h : OwnI k E base w A N c xs) (hn : 0 < N) : ∃ g, A = some ⟨g, 0, none⟩ ∧ base ≤ g ∧ g < w.heap.size := by
  rcases h.2 with ⟨e, rfl⟩ | ⟨g, cap, cur, e, hb, hg, _⟩
  · omega
  · injection e with e1
    exact ⟨g, e1, hb, (Array.getElem?_eq_some_iff.1 hg).1⟩
theorem OwnI.cellAt {g : Nat} (h : OwnI k E base w (some ⟨g, 0, none⟩) N c xs) {j : Nat} {x : Int} (hx : xs[j]? = some x) : w.cell? ⟨g, j, none⟩ = some (.int k x) := by
  have hj : j < xs.length := (List.getElem?_eq_some_iff.1 hx).1
  rw [World.ownsRow.cellAt h j (by have := h.len; omega)]
  simp [ints, hx]
theorem OwnI.frozenAt {g : Nat} (h : OwnI k E base w (some ⟨g, 0, none⟩) N c xs) (j : Nat) : w.frozen? ⟨g, j, none⟩ = false := World.ownsRow.frozenAt h j
theorem OwnI.stored {g : Nat} (h : OwnI k E base w (some ⟨g, 0, none⟩) N c xs) (j : Nat) (x : Int) : OwnI k E base (w.setCell ⟨g, j, none⟩ (.int k x)) (some ⟨g, 0, none⟩) N c (xs.set j x) := by
  have := (World.ownsRow.stored h j (.int k x)).1
  unfold OwnI
  simpa [ints, List.map_set] using this
theorem ownI_new (k : IntKind) (E : TypeId) (w : World) : OwnI k E w.heap.size (w.alloc (.cells #[] E)) (some ⟨w.heap.size, 0, none⟩) 0 0 [] :=
  World.ownsRow_made w _ _ (Nat.le_refl _) (by unfold maxLen; omega) (by simp)
theorem ownI_newAt (k : IntKind) (E : TypeId) (w : World) (hb : base ≤ w.heap.size) : OwnI k E base (w.alloc (.cells #[] E)) (some ⟨w.heap.size, 0, none⟩) 0 0 [] :=
  World.ownsRow_made w _ _ hb (by unfold maxLen; omega) (by simp)
theorem ownI_nil (k : IntKind) (E : TypeId) (base : Nat) (w : World) : OwnI k E base w none 0 0 [] := ⟨by simp [ints], .inl ⟨rfl, rfl⟩⟩
end
theorem wpList_appendI {P : Program} {w w0 : World} {ops : Array Oper} {rest : List Oper} {o : Oper} {a : Act} {Q : Exit → Act → World → Prop} (hgd : Region.wanted o (yielded ops a.tmps) = true) (s x : Operand) (t : TypeId)
    (ho : o.op = .call { callee := .builtin .append, args := #[s, x], argTypes := #[t, t] }) (k : IntKind) (base : Nat) (e : TypeId) (bytes : Nat) (ht : P.underlying t = some (.slice e))
    (hinfo : (P.info? e).map (fun i => (i.zero, i.size, i.bytes)) = some (some (.int k 0), 1, bytes))
    (A0 : Option Addr) (n c0 : Nat) (xs : List Int) (hs : a.eval s = .slice A0 n c0) (hown : OwnI k e base w A0 n c0 xs)
    (A : Option Addr) (m c : Nat) (ys : List Int) (hx : a.eval x = .slice A m c) (hl : ys.length = m) (hr : Cells w A (ints k ys))
    (h63 : n + m ≤ 9223372036854775807) (hbytes : (n + m) * bytes ≤ 140737488355328) (hbase : base ≤ w.heap.size) (hb : Below base w0 w)
    (h : ∀ A' N c' w', Hid (N = n + m) → Hid (OwnI k e base w' A' N c' (xs ++ ys)) → Hid (Below base w0 w') → base ≤ w'.heap.size → wpList P ops Q rest (a.put o.dst (.slice A' N c')) w') : wpList P ops Q (o :: rest) a w :=
  wpList_appendS hgd s x t ho base e (.int k 0) bytes ht hinfo rfl A0 n c0 (ints k xs) hs hown A m c (ints k ys) hx (by rw [ints_length]; exact hl) hr (ints_one k ys) (by unfold maxLen; exact h63) hbytes hbase hb
    fun A' c' w' hown' hb' hsz' => h A' (n + m) c' w' rfl (by show OwnI _ _ _ _ _ _ _ _; unfold OwnI; rw [ints_append]; exact hown') hb' hsz'
end Go.Proofs.Ytgikgcepeniekaa
