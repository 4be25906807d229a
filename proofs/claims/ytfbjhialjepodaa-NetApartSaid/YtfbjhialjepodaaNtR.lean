import Derived.Test.YtfbjhialjepodaaNtL5a
import Derived.Test.YtfbjhialjepodaaActR
namespace Go.Proofs.Ytfbjhialjepodaa
open Go Go.RowKit
set_option linter.unusedVariables false
/-- Frames in a slice, to be read. -/
def Rows (w : World) (A : Option Addr) (way : List Nt.Fr) : Prop := ∀ i, i < way.length → ∃ g o Ai ci, A = some ⟨g, o, none⟩ ∧
  (w.cell? ⟨g, o + i * 6, none⟩ = some (.int .i64 (way.getD i default).fh) ∧ w.cell? ⟨g, o + i * 6 + 1, none⟩ = some (.int .i64 (way.getD i default).fp) ∧ w.cell? ⟨g, o + i * 6 + 2, none⟩ = some (.int .i64 (way.getD i default).th) ∧
   w.cell? ⟨g, o + i * 6 + 3, none⟩ = some (.int .i64 (way.getD i default).tp) ∧ w.cell? ⟨g, o + i * 6 + 4, none⟩ = some (.slice Ai (way.getD i default).bytes.length ci) ∧ w.cell? ⟨g, o + i * 6 + 5, none⟩ = some (.bool (way.getD i default).tn)) ∧
  InB w Ai (way.getD i default).bytes.length ci (way.getD i default).bytes
/-- The cells of a new net of the reference. -/
def refCells (h : Int) : Array Value := #[.int .i64 h, .slice none 0 0] ++ (List.replicate 128 (Value.bool false)).toArray
/-- What is asked of the reference's net. -/
structure RC (IsR : (Nat → Prop) → World → Addr → Nt.St → Prop) : Prop where
  lt : ∀ {S w p st}, IsR S w p st → ∀ k, S k → k < w.heap.size
  keep : ∀ {S w p st w'}, IsR S w p st → (∀ k, S k → w'.heap[k]? = w.heap[k]?) → IsR S w' p st
  way : ∀ {S w p st}, IsR S w p st → ∃ b A c, p = ⟨b, 0, none⟩ ∧ w.cell? ⟨b, 1, none⟩ = some (.slice A st.way.length c) ∧ Rows w A st.way
  new : ∀ (h : Int) (w : World), 1 ≤ h → h ≤ 8 → IsR (fun k => k = w.heap.size) (w.alloc (.cells (refCells h) 34)) ⟨w.heap.size, 0, none⟩ (Nt.new h)
  send : ∀ (S : Nat → Prop) (p : Addr) (st : Nt.St) (f t : Int × Int) (A : Option Addr) (n c : Nat) (bs : List Int) (w : World), IsR S w p st → InB w A n c bs → I64n f.1 → I64n f.2 → I64n t.1 → I64n t.2 → n ≤ 140737488351232 →
    Calls Try.prog 21 #[.pointer (some p), adV f, adV t, .slice A n c] w fun e w' => ∃ S', e = .returned (.int .i64 (Nt.sendE st f t bs)) ∧ IsR S' w' p (Nt.sendS st f t bs) ∧ Sub S' S w ∧ Out S w w'
  take : ∀ (S : Nat → Prop) (p : Addr) (st : Nt.St) (k : Int) (w : World), IsR S w p st → Nt.has st k →
    Calls Try.prog 22 #[.pointer (some p), .int .i64 k] w fun e w' => ∃ S' A c, e = .returned (.tuple #[frV (Nt.fr st k) (.slice A (Nt.fr st k).bytes.length c), .int .i64 0]) ∧ InB w' A (Nt.fr st k).bytes.length c (Nt.fr st k).bytes ∧ (∀ b, blk? A = some b → ¬ S' b) ∧ IsR S' w' p (Nt.takeS st k) ∧ Sub S' S w ∧ Out S w w'
  takeNo : ∀ (S : Nat → Prop) (p : Addr) (st : Nt.St) (k : Int) (w : World), IsR S w p st → I64n k → ¬ Nt.has st k →
    Calls Try.prog 22 #[.pointer (some p), .int .i64 k] w fun e w' => ∃ S', e = .returned (.tuple #[frV default (.slice none 0 0), .int .i64 8]) ∧ IsR S' w' p st ∧ Sub S' S w ∧ Out S w w'
  twin : ∀ (S : Nat → Prop) (p : Addr) (st : Nt.St) (k : Int) (w : World), IsR S w p st → I64n k →
    Calls Try.prog 24 #[.pointer (some p), .int .i64 k] w fun e w' => ∃ S', e = .returned (.int .i64 (Nt.twinE st k)) ∧ IsR S' w' p (Nt.twinS st k) ∧ Sub S' S w ∧ Out S w w'
  last : ∀ (S : Nat → Prop) (p : Addr) (st : Nt.St) (k : Int) (w : World), IsR S w p st → I64n k →
    Calls Try.prog 25 #[.pointer (some p), .int .i64 k] w fun e w' => ∃ S', e = .returned (.int .i64 (Nt.lastE st k)) ∧ IsR S' w' p (Nt.lastS st k) ∧ Sub S' S w ∧ Out S w w'
  turn : ∀ (S : Nat → Prop) (p : Addr) (st : Nt.St) (k at_ bits : Int) (w : World), IsR S w p st → I64n k → I64n at_ → 0 ≤ bits → bits < 256 →
    Calls Try.prog 26 #[.pointer (some p), .int .i64 k, .int .i64 at_, .int .u8 bits] w fun e w' => ∃ S', e = .returned (.int .i64 (Nt.turnE st k at_ bits)) ∧ IsR S' w' p (Nt.turnS st k at_ bits) ∧ Sub S' S w ∧ Out S w w'
  cut : ∀ (S : Nat → Prop) (p : Addr) (st : Nt.St) (f t q : Int) (d : Bool) (w : World), IsR S w p st → I64n f → I64n t → I64n q →
    Calls Try.prog 27 #[.pointer (some p), .int .i64 f, .int .i64 t, .int .i64 q, .bool d] w fun e w' => ∃ S', e = .returned (.int .i64 (Nt.cutE st f t q)) ∧ IsR S' w' p (Nt.cutS st f t q d) ∧ Sub S' S w ∧ Out S w w'
section
variable {P : Program} {ops : Array Oper} {Φ : Nat → Value → World → Prop} {a0 : Act}
/-- The j-th that turns the world, where it is a call. -/
theorem opS_writeCall {ws : List Nat} {W : Nat → World → Prop} {i j : Nat} {o : Oper} (hg : o.guard = none) (hn : ws.Nodup) (hx : ws[j]? = some i) (hp : ∀ y, ws[j - 1]? = some y → 0 < j → (o.after.toList.any fun e => e.on == y && Region.binds .any e) = true)
    (h : ∀ (a : Act) (w : World), W j w → (∀ t, oldB ops t = true → a.tmps.getD t undef = a0.tmps.getD t undef) →
      (∀ (j : Nat) (oj : Oper) (d : Tmp), (o.after.toList.any fun e => e.on == j && Region.binds .any e) = true → ops[j]? = some oj → oj.dst = some d → Φ j (a.tmps.getD d undef) w) → ∃ f args, (execOp a.eval o).run P w = .ok (.enter f args) w ∧ Calls P f args w fun e w' => ∃ v, e = .returned v ∧ W (j + 1) w' ∧ Φ i v w' ∧ ∀ j x, j ≠ i → Φ j x w → Φ j x w') : OpS P ops Φ (Stg ws W) a0 i o := by
  intro L a w hJ hl hc hall _ ho hd
  rw [if_pos (by simp [Region.wanted, hg])]
  have hprev : ∀ y, ws[j - 1]? = some y → 0 < j → L y = true := fun y hy h0 => by
    have := hp y hy h0
    rw [List.any_eq_true] at this
    obtain ⟨e, he, h2⟩ := this
    simp only [Bool.and_eq_true, beq_iff_eq] at h2
    have := hall e (by simpa using he) h2.2
    rwa [h2.1] at this
  obtain ⟨hWj, hnext⟩ := hJ.write hn hx hl hprev
  obtain ⟨f, args, hr, hcall⟩ := h a w hWj ho hd
  unfold Oper.wp
  rw [hr]
  refine Calls.mono hcall fun e w' ⟨v, he, hw', hv, hk⟩ => ?_
  subst he
  exact ⟨⟨v, rfl, hv⟩, hnext w' hw', fun j x hlj => hk j x (fun e => by subst e; rw [hl] at hlj; cases hlj)⟩
end
section
variable {IsN IsR : (Nat → Prop) → World → Addr → Nt.St → Prop}
/-- Both nets, and the act's block. -/
def AtB (IsN IsR : (Nat → Prop) → World → Addr → Nt.St → Prop) (w0 : World) (p r : Addr) (ab : Nat) (cs : Array Value) (st sr : Nt.St) (w : World) : Prop :=
  ∃ S Sr, IsN S w p st ∧ IsR Sr w r sr ∧ (∀ k, S k → ¬ Sr k) ∧ (From w0.heap.size S ∧ From w0.heap.size Sr) ∧ Below w0.heap.size w0 w ∧ (¬ S ab ∧ ¬ Sr ab) ∧ w.heap[ab]? = some (.cells cs 40 (0, 0))
theorem atB_up (C : NC IsN) (R : RC IsR) {w0 w w' : World} {p r : Addr} {ab : Nat} {cs : Array Value} {st sr : Nt.St} (h : AtB IsN IsR w0 p r ab cs st sr w) (hu : Up w w') : AtB IsN IsR w0 p r ab cs st sr w' := by
  obtain ⟨S, Sr, h1, h2, h3, h4, h5, h6, h7⟩ := h
  exact ⟨S, Sr, C.up h1 hu, R.keep h2 (fun k hk => hu.block k (R.lt h2 k hk)), h3, h4, h5.trans (hu.mono h5.size), h6, (hu.block ab (lt_of_blk h7)).trans h7⟩
theorem atB_cell {w0 w : World} {p r : Addr} {ab : Nat} {cs : Array Value} {st sr : Nt.St} (h : AtB IsN IsR w0 p r ab cs st sr w) {j : Nat} {v : Value} (hv : cs[j]? = some v) : w.cell? ⟨ab, j, none⟩ = some v := by
  obtain ⟨S, Sr, h1, h2, h3, h4, h5, h6, h7⟩ := h
  exact cell_of h7 hv
theorem atB_net (C : NC IsN) (R : RC IsR) {w0 w : World} {p r : Addr} {ab : Nat} {cs : Array Value} {st sr st' : Nt.St} {f : FuncId} {args : Array Value} {v : Value} (h : AtB IsN IsR w0 p r ab cs st sr w)
    (hc : ∀ S, IsN S w p st → Calls Try.prog f args w fun e w' => ∃ S', e = .returned v ∧ IsN S' w' p st' ∧ Sub S' S w ∧ Out S w w') : Calls Try.prog f args w fun e w' => e = .returned v ∧ AtB IsN IsR w0 p r ab cs st' sr w' := by
  obtain ⟨S, Sr, h1, h2, h3, ⟨h4, h4'⟩, h5, h6, h7⟩ := h
  refine (hc S h1).mono fun e w' ⟨S', he, k1, k2, k3⟩ => ⟨he, S', Sr, k1, R.keep h2 (fun k hk => k3.block k (R.lt h2 k hk) (fun hs => h3 k hs hk)), fun k hk hr => ?_, ⟨h4.sub k2 h5.size, h4'⟩, Below.out h5 k3 h4 h5.size, ⟨Out.not k2 h6.1 (lt_of_blk h7), h6.2⟩, k3.blk h7 h6.1⟩
  rcases k2 k hk with h8 | h8
  · exact h3 k h8 hr
  · have := R.lt h2 k hr; omega
theorem atB_ref (C : NC IsN) (R : RC IsR) {w0 w : World} {p r : Addr} {ab : Nat} {cs : Array Value} {st sr sr' : Nt.St} {f : FuncId} {args : Array Value} {v : Value} (h : AtB IsN IsR w0 p r ab cs st sr w)
    (hc : ∀ S, IsR S w r sr → Calls Try.prog f args w fun e w' => ∃ S', e = .returned v ∧ IsR S' w' r sr' ∧ Sub S' S w ∧ Out S w w') : Calls Try.prog f args w fun e w' => e = .returned v ∧ AtB IsN IsR w0 p r ab cs st sr' w' := by
  obtain ⟨S, Sr, h1, h2, h3, ⟨h4, h4'⟩, h5, h6, h7⟩ := h
  refine (hc Sr h2).mono fun e w' ⟨S', he, k1, k2, k3⟩ => ⟨he, S, S', C.keep h1 (fun k hk => k3.block k (C.lt h1 k hk) (h3 k hk)), k1, fun k hk hr => ?_, ⟨h4, h4'.sub k2 h5.size⟩, Below.out h5 k3 h4' h5.size, ⟨h6.1, Out.not k2 h6.2 (lt_of_blk h7)⟩, k3.blk h7 h6.2⟩
  rcases k2 k hr with h8 | h8
  · exact h3 k hk h8
  · have := C.lt h1 k hk; omega
end
end Go.Proofs.Ytfbjhialjepodaa
