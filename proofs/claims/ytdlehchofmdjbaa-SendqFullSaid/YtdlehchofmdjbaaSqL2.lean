import Derived.Test.YtdlehchofmdjbaaSqL
import Derived.Test.YtdlehchofmdjbaaStaged
namespace Go.Proofs.Ytdlehchofmdjbaa
open Go Go.RowKit Go.Shelf
set_option linter.unusedVariables false
set_option linter.unusedSimpArgs false
/-! Another range over a function: the rounds leave what is the function's own as it lay. -/
/-- What lay at B or beyond lies as it did. -/
def KeepAll (B : Nat) (W W' : World) : Prop := W.heap.size ≤ W'.heap.size ∧ ∀ k, B ≤ k → k < W.heap.size → W'.heap[k]? = W.heap[k]?
theorem KeepAll.from {B : Nat} {W W' : World} (h : KeepAll B W W') : KeepsFrom B W W' := ⟨h.1, fun k o hB ho _ => (h.2 k hB (Array.getElem?_eq_some_iff.1 ho).1).trans ho⟩
theorem KeepAll.blk {B : Nat} {W W' : World} (h : KeepAll B W W') {k : Nat} {o : Obj} (hB : B ≤ k) (ho : W.heap[k]? = some o) : W'.heap[k]? = some o := (h.2 k hB (Array.getElem?_eq_some_iff.1 ho).1).trans ho
def SeqK {α : Type} (n : Nat) (P : Program) (g : Nat) (lb : Array Value) (enc : α → Array Value) (nxt : List α → α → Prop) (fin : List α → Prop) (In : List α → World → Prop) : Prop :=
  ∀ (l : Nat) (J : List α → World → Prop) (W : World), OwnFrom W.heap.size J → (∀ pre W', J pre W' → In pre W') →
    (∀ pre x W1, J pre W1 → nxt pre x → YieldAt Fence.wide (n - 1) P l (enc x) W1 fun e W' => e = .returned (.bool true) ∧ J (pre ++ [x]) W' ∧ KeepAll W.heap.size W1 W') →
    J [] W → CallsIn Fence.wide n P g (#[.func (.yield l) #[] #[]] ++ lb) W fun e W' => (∃ v, e = .returned v) ∧ ∃ xs, fin xs ∧ J xs W'
def bodyK (B : Nat) (I : World → Prop) (W : World) : Exit → Act → World → Prop
  | .normal, _, W' => KeepAll B W W' ∧ I W'
  | _, _, _ => False
theorem OwnFrom.up {β : Type} {B : Nat} {I : β → World → Prop} (h : OwnFrom B I) {s : β} {W W' : World} (hs : I s W) (hu : Up W W') : I s W' :=
  h s W W' none hs ⟨hu.os, hu.tape, hu.output, hu.size, fun k hk _ => hu.block k hk⟩ (fun r e => by cases e)
theorem OwnFrom.later {β : Type} {B B' : Nat} {I : β → World → Prop} (h : OwnFrom B I) (hB : B ≤ B') : OwnFrom B' I := fun s W W' row hs hg hr => h s W W' row hs hg (fun r e => ⟨Nat.le_trans hB (hr r e).1, (hr r e).2⟩)
section
variable {n : Nat} {P : Program} {w : World}
theorem range_K {α : Type} {g : Operand} {ps : Array Tmp} {assign body : Code} {Q : Exit → Act → World → Prop} {a : Act}
    (h1 : 1 ≤ n) {gf : Nat} {lb : Array Value} (hg : a.eval g = .func (.func gf) #[] lb) (eg : ∀ args w, (callFunc gf args).run P w = .ok (.enter gf args) w)
    {enc : α → Array Value} {nxt : List α → α → Prop} {fin : List α → Prop} {In : List α → World → Prop} (hseq : SeqK (n - 1) P gf lb enc nxt fin In) (hps : ∀ x, (enc x).size = ps.size)
    (I : List α → World → Prop) (hI : OwnFrom w.heap.size I) (hIn : ∀ pre W, I pre W → In pre W) (h0 : I [] w) (a1 : α → Act)
    (hassign : ∀ (l : Nat) (x : α) (W : World) (K : Act → World → Prop), K (a1 x) W → assign.wpIn (Fence.wide.inRound l) (n - 1 - 1) P (Exit.then K (fun _ _ _ => False)) { tmps := (ps.zip (enc x)).foldl (fun t (p, v) => t.setIfInBounds p v) a.tmps, defers := [] } W)
    (hbody : ∀ (l : Nat) (pre : List α) (x : α) (W : World), I pre W → nxt pre x → body.wpIn (Fence.wide.inRound l) (n - 1 - 1) P (bodyK w.heap.size (I (pre ++ [x])) W) (a1 x) W)
    (hdone : ∀ (D : Nat) (xs : List α) (W : World), w.heap.size ≤ D → fin xs → I xs W → W.heap[D]? = some (.deferred (some [])) → Q .normal { a with defers := { target := .collected D, args := #[] } :: a.defers } W) :
    (Code.rangeFunc g ps assign body).wpIn Fence.wide n P Q a w := by
  refine wpIn_rangeFunc fun fn _ => ?_
  -- the record and the block for deferred calls
  let rec' : LoopState → Option Code → Loop := fun st pe => { state := st, pending := pe, fn, tmps := a.tmps, params := ps, assign, body, defers := w.heap.size }
  obtain ⟨W1, hW1⟩ : ∃ W1, W1 = (w.alloc (.deferred (some []))).alloc (.loop (rec' .ready none)) := ⟨_, rfl⟩
  have sz1 : W1.heap.size = w.heap.size + 2 := by rw [hW1]; simp
  have hd1 : W1.heap[w.heap.size]? = some (.deferred (some [])) := by
    rw [hW1]; exact (Below.heap_alloc _ _ _ (by simp)).trans (World.alloc_heap_new w _)
  have hl1 : W1.heap[w.heap.size + 1]? = some (.loop (rec' .ready none)) := by
    rw [hW1]
    have h := World.alloc_heap_new (w.alloc (.deferred (some []))) (.loop (rec' .ready none))
    rw [World.size_alloc] at h; exact h
  have hI1 : I [] W1 := by rw [hW1]; exact hI.alloc _ (hI.alloc _ h0)
  refine ⟨w.heap.size + 1, [{ target := .collected w.heap.size, args := #[] }], W1, { target := .fn (.func gf) lb, args := #[.func (.yield (w.heap.size + 1)) #[] #[]] }, W1, gf, #[.func (.yield (w.heap.size + 1)) #[] #[]] ++ lb, W1, ?_, ?_, fun _ _ => trivial, ?_, fun _ => h1, ?_⟩
  · rw [hW1]; exact run_enterLoop_outer _ _ _ _ _
  · simp only [resolve, hg]; simp [go_sem]
  · simp [invoke, go_sem, eg]
  -- the iterator's word at the caller's, with the two blocks beside it
  refine (hseq (w.heap.size + 1) (fun pre W => I pre W ∧ W.heap[w.heap.size + 1]? = some (.loop (rec' .ready none)) ∧ W.heap[w.heap.size]? = some (.deferred (some []))) W1 ?_ (fun pre W h => hIn pre W h.1) ?_ ⟨hI1, hl1, hd1⟩).mono ?_
  · rintro s A B row ⟨hi, hl, hd⟩ hgr hr
    have hne : ∀ j, j < W1.heap.size → some j ≠ row := fun j hj e => by have := (hr j e.symm).1; omega
    exact ⟨hI s A B row hi hgr (fun r e => ⟨by have := (hr r e).1; omega, (hr r e).2⟩), (hgr.block _ (Array.getElem?_eq_some_iff.1 hl).1 (hne _ (by omega))).trans hl, (hgr.block _ (Array.getElem?_eq_some_iff.1 hd).1 (hne _ (by omega))).trans hd⟩
  · rintro pre x W ⟨hi, hl, hd⟩ hx
    have hlt : w.heap.size + 1 < W.heap.size := (Array.getElem?_eq_some_iff.1 hl).1
    refine ⟨fn, _, assign, body, run_yield (P := P) (args := enc x) hl (hps x), roundIn_of_wpIn trivial (hassign _ x W _ ?_)⟩
    obtain ⟨V, hV⟩ : ∃ V, V = W.putObj (w.heap.size + 1) (.loop { rec' .ready none with state := .busy }) := ⟨_, rfl⟩
    refine ⟨V, by rw [hV]; exact run_beginRound hl rfl, ?_⟩
    have hlV : V.heap[w.heap.size + 1]? = some (.loop { rec' .ready none with state := .busy }) := by rw [hV]; exact World.putObj_heap_same hlt
    have hdV : V.heap[w.heap.size]? = some (.deferred (some [])) := by rw [hV]; exact (World.putObj_heap_other (by omega)).trans hd
    have hIV : I pre V := by rw [hV]; exact hI.putObj _ hi (by omega) hl rfl
    refine wpIn_mono (hbody _ pre x V hIV hx) ?_
    rintro e a3 W3 hp
    cases e with
    | normal =>
      obtain ⟨hk, hi3⟩ := hp
      have hl3 := (hk.2 _ (by omega) (lt_of_blk hlV)).trans hlV
      have hd3 := (hk.2 _ (Nat.le_refl _) (lt_of_blk hdV)).trans hdV
      refine ⟨_, _, run_endRound (P := P) none hl3, rfl, ⟨hI.putObj _ hi3 (by omega) hl3 rfl, ?_, (World.putObj_heap_other (by omega)).trans hd3⟩, ?_⟩
      · exact World.putObj_heap_same (Array.getElem?_eq_some_iff.1 hl3).1
      · refine ⟨by have h4 := hk.1; rw [hV] at h4; simpa using h4, fun k hB hlt2 => ?_⟩
        refine (World.putObj_heap_other (by omega)).trans ((hk.2 k (by omega) (by rw [hV]; simpa using hlt2)).trans ?_)
        rw [hV]; exact World.putObj_heap_other (by omega)
    | ret => exact hp.elim
    | exit id => exact hp.elim
    | goto t => exact hp.elim
    | panic c => exact hp.elim
    | outgrown => exact hp.elim
  · rintro e W2 ⟨⟨v, rfl⟩, xs, hf, hi, hl, hd⟩
    exact ⟨none, _, run_endLoop (P := P) hl (by show LoopState.ready ≠ _; simp), hdone _ xs _ (Nat.le_refl _) hf (hI.putObj _ hi (by omega) hl rfl) ((World.putObj_heap_other (by omega)).trans hd)⟩
end
theorem x_yield {P : Program} {o : Oper} {a : Act} {w : World} (f x : Operand) (t : TypeId) {l : Nat} {v : Value} (ho : o.op = .call { callee := .value f, args := #[x], argTypes := #[t] }) (hf : a.eval f = .func (.yield l) #[] #[]) (hx : a.eval x = v) : (execOp a.eval o).run P w = (Instr.yield l #[v]).run P w := by
  simp [execOp, ho, resolve, invoke, hf, hx, Deferred.ofValue, Result.andThen, Sem.run_pure]
end Go.Proofs.Ytdlehchofmdjbaa
