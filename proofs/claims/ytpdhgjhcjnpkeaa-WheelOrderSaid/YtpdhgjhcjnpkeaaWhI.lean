import Derived.Test.YtpdhgjhcjnpkeaaHpW3
import Derived.Test.YtpdhgjhcjnpkeaaT1
import Derived.Test.YtpdhgjhcjnpkeaaStaged
import Derived.Test.YtpdhgjhcjnpkeaaMapI
namespace Go.Proofs.Ytpdhgjhcjnpkeaa
open Go Go.RowKit
set_option linter.unusedVariables false
/-- The map holds just the places of the row's alarms. -/
def Loc (E : List Ent) (a : List Tm.T) : Prop := ∀ k v : Int, (∃ b, (k, v, b) ∈ E) ↔ ∃ i : Nat, i < a.length ∧ k = (Hp.at_ a i).1 ∧ v = (i : Int)
def MapO (w : World) (M : Option Nat) (a : List Tm.T) : Prop := match M with | none => a = [] | some m => ∃ E, MapI w m E ∧ Loc E a
/-- At block pb lie the alarms a: a row and a map of their places. -/
structure HeapAt (pb : Nat) (A : Option Addr) (c : Nat) (M : Option Nat) (w : World) (a : List Tm.T) : Prop where
  top : w.heap[pb]? = some (.cells #[.slice A a.length c, .map M] 45 (0, 0))
  bd : a.length ≤ 4096
  row : w.ownsRow 0 33 2 (.slice A a.length c) a.length (tcells a)
  ne : A.map (·.block) ≠ some pb
  map : MapO w M a
def Lies (pb : Nat) (A : Option Addr) (M : Option Nat) : Nat → Prop := fun k => k = pb ∨ A.map (·.block) = some k ∨ M = some k
def IsH (S : Nat → Prop) (w : World) (p : Addr) (a : List Tm.T) : Prop := ∃ pb A c M, p = ⟨pb, 0, none⟩ ∧ S = Lies pb A M ∧ HeapAt pb A c M w a
theorem HeapAt.lt {pb c : Nat} {A : Option Addr} {M : Option Nat} {w : World} {a : List Tm.T} (h : HeapAt pb A c M w a) : ∀ k, Lies pb A M k → k < w.heap.size := by
  rintro k (rfl | h1 | h1)
  · exact (Array.getElem?_eq_some_iff.1 h.top).1
  · rcases h.row.2 with h2 | ⟨g, cap, cur, hv, hg, hh, r⟩
    · have := h2.1
      injection this with e1 e2 e3
      rw [e1] at h1; cases h1
    · injection hv with e1 e2 e3
      rw [e1] at h1
      simp at h1
      subst h1
      exact (Array.getElem?_eq_some_iff.1 hh).1
  · subst h1
    obtain ⟨E, h2, _⟩ := h.map
    exact h2.lt
theorem HeapAt.keep {pb c : Nat} {A : Option Addr} {M : Option Nat} {w w' : World} {a : List Tm.T} (h : HeapAt pb A c M w a) (hk : ∀ k, Lies pb A M k → w'.heap[k]? = w.heap[k]?) : HeapAt pb A c M w' a := by
  refine ⟨by rw [hk pb (.inl rfl)]; exact h.top, h.bd, ⟨h.row.1, ?_⟩, h.ne, ?_⟩
  · rcases h.row.2 with h2 | ⟨g, cap, cur, hv, hg, hh, r⟩
    · exact .inl h2
    · injection hv with e1 e2 e3
      exact .inr ⟨g, cap, cur, by rw [e1, e3], hg, by rw [hk g (.inr (.inl (by rw [e1]; rfl)))]; exact hh, r⟩
  · cases M with
    | none => exact h.map
    | some m =>
      obtain ⟨E, h2, h3⟩ := h.map
      exact ⟨E, h2.keep (hk m (.inr (.inr rfl))), h3⟩
theorem isH_lt {S : Nat → Prop} {w : World} {p : Addr} {L : List Tm.T} (h : IsH S w p L) : ∀ k, S k → k < w.heap.size := by
  obtain ⟨pb, A, c, M, rfl, rfl, h⟩ := h
  exact h.lt
theorem isH_keep {S : Nat → Prop} {w w' : World} {p : Addr} {L : List Tm.T} (h : IsH S w p L) (hk : ∀ k, S k → w'.heap[k]? = w.heap[k]?) : IsH S w' p L := by
  obtain ⟨pb, A, c, M, rfl, rfl, h⟩ := h
  exact ⟨pb, A, c, M, rfl, rfl, h.keep hk⟩
theorem isH_bd {S : Nat → Prop} {w : World} {p : Addr} {L : List Tm.T} (h : IsH S w p L) : L.length ≤ 4096 := by
  obtain ⟨pb, A, c, M, rfl, rfl, h⟩ := h
  exact h.bd
theorem cell_of {w : World} {b : Nat} {cs : Array Value} {t : TypeId} {f : Nat × Nat} (h : w.heap[b]? = some (.cells cs t f)) {j : Nat} {v : Value} (hv : cs[j]? = some v) : w.cell? ⟨b, j, none⟩ = some v := by
  simp [World.cell?, h, hv]
theorem cell_alloc {w : World} {b j : Nat} {v : Value} (h : w.cell? ⟨b, j, none⟩ = some v) (hb : b < w.heap.size) (o : Obj) : (w.alloc o).cell? ⟨b, j, none⟩ = some v := by
  rw [← h]
  exact World.cell?_of_block (MapKept.heap_alloc w o |>.2 b hb)
theorem up_alloc (w : World) (o : Obj) : Up w (w.alloc o) := (Below.refl _ _).alloc (Nat.le_refl _) o
theorem len_w (S : Nat → Prop) (p : Addr) (a : List Tm.T) (w : World) (h : IsH S w p a) : Calls Try.prog 60 #[.agg #[.pointer (some p)]] w fun e w' => e = .returned (.int .i64 (a.length : Int)) ∧ Up w w' := by
  obtain ⟨pb, A, c, M, rfl, rfl, h⟩ := h
  have c0 : ∀ o, (w.alloc o).cell? ⟨pb, 0, none⟩ = some (.slice A a.length c) := cell_alloc (cell_of h.top rfl) (h.lt pb (.inl rfl))
  clear h
  go_enter Try.func60, Try.ntmps60
  go_wp2_with fail
  go_ret
  exact ⟨rfl, up_alloc _ _⟩
end Go.Proofs.Ytpdhgjhcjnpkeaa
