import Derived.Test.YtgikgcepeniekaaOwn
namespace Go.Proofs.Ytgikgcepeniekaa
open Go Go.RowKit
set_option linter.unusedVariables false
/-- Of the blocks that were there only those of S may have turned. -/
structure Out (S : Nat → Prop) (w w' : World) : Prop where
  os : w'.os = w.os
  tape : w'.tape = w.tape
  output : w'.output = w.output
  size : w.heap.size ≤ w'.heap.size
  block : ∀ k, k < w.heap.size → ¬ S k → w'.heap[k]? = w.heap[k]?
/-- No block. -/
def No : Nat → Prop := fun _ => False
/-- What it may have come to: what was in S, or new. -/
def Sub (S' S : Nat → Prop) (w : World) : Prop := ∀ k, S' k → S k ∨ w.heap.size ≤ k
theorem Sub.refl (S : Nat → Prop) (w : World) : Sub S S w := fun _ h => .inl h
theorem Sub.trans {S S' S'' : Nat → Prop} {w w' : World} (h : Sub S' S w) (k : Sub S'' S' w') (hs : w.heap.size ≤ w'.heap.size) : Sub S'' S w := fun b hb => by
  rcases k b hb with h1 | h1
  · exact h b h1
  · exact .inr (by omega)
theorem Out.refl (S : Nat → Prop) (w : World) : Out S w w := ⟨rfl, rfl, rfl, Nat.le_refl _, fun _ _ _ => rfl⟩
theorem Up.out {w w' : World} (h : Up w w') (S : Nat → Prop) : Out S w w' := ⟨h.os, h.tape, h.output, h.size, fun k hk _ => h.block k hk⟩
theorem Out.up {w w' : World} (h : Out No w w') : Up w w' := ⟨h.os, h.tape, h.output, h.size, fun k hk => h.block k hk (fun h => h)⟩
theorem Out.trans {S S' : Nat → Prop} {a b c : World} (h : Out S a b) (k : Out S' b c) (hs : Sub S' S a) : Out S a c :=
  ⟨k.os.trans h.os, k.tape.trans h.tape, k.output.trans h.output, Nat.le_trans h.size k.size, fun i hi hn => (k.block i (Nat.lt_of_lt_of_le hi h.size) (fun hh => by
    rcases hs i hh with h1 | h1
    · exact hn h1
    · omega)).trans (h.block i hi hn)⟩
theorem Out.mono {S S' : Nat → Prop} {a b : World} (h : Out S a b) (hs : ∀ k, S k → S' k) : Out S' a b := ⟨h.os, h.tape, h.output, h.size, fun i hi hn => h.block i hi (fun hh => hn (hs i hh))⟩
/-- All of it from block B on. -/
def From (B : Nat) (S : Nat → Prop) : Prop := ∀ k, S k → B ≤ k
theorem From.sub {B : Nat} {S S' : Nat → Prop} {w : World} (h : From B S) (hs : Sub S' S w) (hB : B ≤ w.heap.size) : From B S' := fun k hk => by
  rcases hs k hk with h1 | h1
  · exact h k h1
  · omega
theorem Below.out {B : Nat} {S : Nat → Prop} {a w w' : World} (h : Below B a w) (ho : Out S w w') (hS : From B S) (hB : B ≤ w.heap.size) : Below B a w' :=
  h.trans ⟨ho.os, ho.tape, ho.output, ho.size, fun k hk => ho.block k (by omega) (fun hs => by have := hS k hs; omega)⟩
theorem Out.not {S S' : Nat → Prop} {w : World} {g : Nat} (hs : Sub S' S w) (hn : ¬ S g) (hg : g < w.heap.size) : ¬ S' g := fun h => by
  rcases hs g h with h1 | h1
  · exact hn h1
  · omega
theorem Out.cells {S : Nat → Prop} {w w' : World} {b : Nat} {o : Nat} {xs : List Value} (ho : Out S w w') (h : Cells w (some ⟨b, o, none⟩) xs) (hn : ¬ S b) : Cells w' (some ⟨b, o, none⟩) xs := fun hne => by
  obtain ⟨b', o', e, hlt, hc⟩ := h hne
  injection e with e
  injection e with e1 e2
  subst e1; subst e2
  exact ⟨b, o, rfl, Nat.lt_of_lt_of_le hlt ho.size, fun j u hu => (World.cell?_of_block (w := w) (ho.block b hlt hn)).trans (hc j u hu)⟩
/-- A row of the call's own that does not lie in S stays. -/
theorem Out.own {S : Nat → Prop} {w w' : World} {base size n : Nat} {e : TypeId} {v : Value} {xs : List Value} (ho : Out S w w') (h : w.ownsRow base e size v n xs) (hn : ∀ g, v.ownBlock = some g → ¬ S g) : w'.ownsRow base e size v n xs := by
  refine ⟨h.1, ?_⟩
  rcases h.2 with h2 | ⟨g, cap, cur, hv, hg, hh, r⟩
  · exact .inl h2
  · subst hv
    exact .inr ⟨g, cap, cur, rfl, hg, by rw [ho.block g (Array.getElem?_eq_some_iff.1 hh).1 (hn g rfl)]; exact hh, r⟩
theorem Out.blk {S : Nat → Prop} {w w' : World} {g : Nat} {o : Obj} (ho : Out S w w') (h : w.heap[g]? = some o) (hn : ¬ S g) : w'.heap[g]? = some o := by
  rw [ho.block g (Array.getElem?_eq_some_iff.1 h).1 hn]; exact h
theorem up_drewN (w : World) (n : Nat) : Up w (w.drewN n) := ⟨rfl, rfl, rfl, Nat.le_refl _, fun _ _ => rfl⟩
theorem lt_of_blk {w : World} {g : Nat} {o : Obj} (h : w.heap[g]? = some o) : g < w.heap.size := (Array.getElem?_eq_some_iff.1 h).1
end Go.Proofs.Ytgikgcepeniekaa
