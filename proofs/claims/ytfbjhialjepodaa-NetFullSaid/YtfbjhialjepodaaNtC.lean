import Derived.Test.YtfbjhialjepodaaFoot
import Derived.Test.YtfbjhialjepodaaBytes
import Derived.Test.YtfbjhialjepodaaNtM
import Derived.Test.YtfbjhialjepodaaChecked
namespace Go.Proofs.Ytfbjhialjepodaa
open Go Go.RowKit
set_option linter.unusedVariables false
/-- A frame as a value: its bytes lie at A. -/
def frV (f : Nt.Fr) (v : Value) : Value := .agg #[.int .i64 f.fh, .int .i64 f.fp, .int .i64 f.th, .int .i64 f.tp, v, .bool f.tn]
def adV (a : Int × Int) : Value := .agg #[.int .i64 a.1, .int .i64 a.2]
def I64n (n : Int) : Prop := -9223372036854775808 ≤ n ∧ n ≤ 9223372036854775807
/-- The block of an address. -/
def blk? (A : Option Addr) : Option Nat := A.map (·.block)
/-- Frames in a slice of the call's own: each one's bytes lie from block B on, and can be written. -/
def Frames (B : Nat) (S : Nat → Prop) (w : World) (A : Option Addr) (way : List Nt.Fr) : Prop := ∀ i, i < way.length → ∃ g o Ai ci, A = some ⟨g, o, none⟩ ∧
  (w.cell? ⟨g, o + i * 6, none⟩ = some (.int .i64 (way.getD i default).fh) ∧ w.cell? ⟨g, o + i * 6 + 1, none⟩ = some (.int .i64 (way.getD i default).fp) ∧ w.cell? ⟨g, o + i * 6 + 2, none⟩ = some (.int .i64 (way.getD i default).th) ∧
   w.cell? ⟨g, o + i * 6 + 3, none⟩ = some (.int .i64 (way.getD i default).tp) ∧ w.cell? ⟨g, o + i * 6 + 4, none⟩ = some (.slice Ai (way.getD i default).bytes.length ci) ∧ w.cell? ⟨g, o + i * 6 + 5, none⟩ = some (.bool (way.getD i default).tn)) ∧
  InB w Ai (way.getD i default).bytes.length ci (way.getD i default).bytes ∧ ¬ S g ∧ ∀ b, blk? Ai = some b → B ≤ b ∧ ¬ S b ∧ b ≠ g ∧ ∀ j, w.frozen? ⟨b, j, none⟩ = false
/-- What is asked of a net: 'IsN S w p st': at p lies, within the blocks S, a net in the state st. -/
structure NC (IsN : (Nat → Prop) → World → Addr → Nt.St → Prop) : Prop where
  lt : ∀ {S w p st}, IsN S w p st → ∀ k, S k → k < w.heap.size
  keep : ∀ {S w p st w'}, IsN S w p st → (∀ k, S k → w'.heap[k]? = w.heap[k]?) → IsN S w' p st
  bd : ∀ {S w p st}, IsN S w p st → (1 ≤ st.hosts ∧ st.hosts ≤ 8) ∧ st.way.length ≤ 1024 ∧ ∀ f ∈ st.way, f.bytes.length ≤ 4096 ∧ Byt f.bytes
  new : ∀ (h : Int) (w : World), 1 ≤ h → h ≤ 8 → Calls Try.prog 8 #[.int .i64 h] w fun e w' => ∃ p S, e = .returned (.tuple #[.pointer (some p), .int .i64 0]) ∧ IsN S w' p (Nt.new h) ∧ From w.heap.size S ∧ Up w w'
  newNo : ∀ (h : Int) (w : World), I64n h → (h < 1 ∨ 8 < h) → Calls Try.prog 8 #[.int .i64 h] w fun e w' => e = .returned (.tuple #[.pointer none, .int .i64 1]) ∧ Up w w'
  send : ∀ (S : Nat → Prop) (p : Addr) (st : Nt.St) (f t : Int × Int) (A : Option Addr) (n c : Nat) (bs : List Int) (w : World), IsN S w p st → InB w A n c bs → (∀ b, blk? A = some b → ¬ S b) → I64n f.1 → I64n f.2 → I64n t.1 → I64n t.2 → n ≤ 140737488351232 →
    Calls Try.prog 12 #[.pointer (some p), adV f, adV t, .slice A n c] w fun e w' => ∃ S', e = .returned (.int .i64 (Nt.sendE st f t bs)) ∧ IsN S' w' p (Nt.sendS st f t bs) ∧ Sub S' S w ∧ Out S w w'
  take : ∀ (S : Nat → Prop) (p : Addr) (st : Nt.St) (k : Int) (w : World), IsN S w p st → Nt.has st k →
    Calls Try.prog 16 #[.pointer (some p), .int .i64 k] w fun e w' => ∃ S' A c, e = .returned (.tuple #[frV (Nt.fr st k) (.slice A (Nt.fr st k).bytes.length c), .int .i64 0]) ∧ InB w' A (Nt.fr st k).bytes.length c (Nt.fr st k).bytes ∧ (∀ b, blk? A = some b → ¬ S' b ∧ (S b ∨ w.heap.size ≤ b)) ∧ IsN S' w' p (Nt.takeS st k) ∧ Sub S' S w ∧ Out S w w'
  takeNo : ∀ (S : Nat → Prop) (p : Addr) (st : Nt.St) (k : Int) (w : World), IsN S w p st → I64n k → ¬ Nt.has st k →
    Calls Try.prog 16 #[.pointer (some p), .int .i64 k] w fun e w' => ∃ S', e = .returned (.tuple #[frV default (.slice none 0 0), .int .i64 8]) ∧ IsN S' w' p st ∧ Sub S' S w ∧ Out S w w'
  twin : ∀ (S : Nat → Prop) (p : Addr) (st : Nt.St) (k : Int) (w : World), IsN S w p st → I64n k →
    Calls Try.prog 15 #[.pointer (some p), .int .i64 k] w fun e w' => ∃ S', e = .returned (.int .i64 (Nt.twinE st k)) ∧ IsN S' w' p (Nt.twinS st k) ∧ Sub S' S w ∧ Out S w w'
  last : ∀ (S : Nat → Prop) (p : Addr) (st : Nt.St) (k : Int) (w : World), IsN S w p st → I64n k →
    Calls Try.prog 20 #[.pointer (some p), .int .i64 k] w fun e w' => ∃ S', e = .returned (.int .i64 (Nt.lastE st k)) ∧ IsN S' w' p (Nt.lastS st k) ∧ Sub S' S w ∧ Out S w w'
  turn : ∀ (S : Nat → Prop) (p : Addr) (st : Nt.St) (k at_ bits : Int) (w : World), IsN S w p st → I64n k → I64n at_ → 0 ≤ bits → bits < 256 →
    Calls Try.prog 19 #[.pointer (some p), .int .i64 k, .int .i64 at_, .int .u8 bits] w fun e w' => ∃ S', e = .returned (.int .i64 (Nt.turnE st k at_ bits)) ∧ IsN S' w' p (Nt.turnS st k at_ bits) ∧ Sub S' S w ∧ Out S w w'
  cut : ∀ (S : Nat → Prop) (p : Addr) (st : Nt.St) (f t q : Int) (d : Bool) (w : World), IsN S w p st → I64n f → I64n t → I64n q →
    Calls Try.prog 18 #[.pointer (some p), .int .i64 f, .int .i64 t, .int .i64 q, .bool d] w fun e w' => ∃ S', e = .returned (.int .i64 (Nt.cutE st f t q)) ∧ IsN S' w' p (Nt.cutS st f t q d) ∧ Sub S' S w ∧ Out S w w'
  len : ∀ (S : Nat → Prop) (p : Addr) (st : Nt.St) (w : World), IsN S w p st → Calls Try.prog 14 #[.pointer (some p)] w fun e w' => e = .returned (.int .i64 (st.way.length : Int)) ∧ Up w w'
  list : ∀ (S : Nat → Prop) (p : Addr) (st : Nt.St) (w : World), IsN S w p st → Calls Try.prog 13 #[.pointer (some p)] w fun e w' => ∃ S' A c, e = .returned (.slice A st.way.length c) ∧ Frames w.heap.size S' w' A st.way ∧ IsN S' w' p st ∧ Sub S' S w ∧ Out S w w'
/-- .. and of a nil net. -/
structure NCnil : Prop where
  send : ∀ (f t : Int × Int) (w : World), Calls Try.prog 12 #[.pointer none, adV f, adV t, .slice none 0 0] w fun e w' => e = .returned (.int .i64 1) ∧ Up w w'
  take : ∀ (k : Int) (w : World), Calls Try.prog 16 #[.pointer none, .int .i64 k] w fun e w' => e = .returned (.tuple #[frV default (.slice none 0 0), .int .i64 1]) ∧ Up w w'
  twin : ∀ (k : Int) (w : World), Calls Try.prog 15 #[.pointer none, .int .i64 k] w fun e w' => e = .returned (.int .i64 1) ∧ Up w w'
  last : ∀ (k : Int) (w : World), Calls Try.prog 20 #[.pointer none, .int .i64 k] w fun e w' => e = .returned (.int .i64 1) ∧ Up w w'
  turn : ∀ (k at_ bits : Int) (w : World), Calls Try.prog 19 #[.pointer none, .int .i64 k, .int .i64 at_, .int .u8 bits] w fun e w' => e = .returned (.int .i64 1) ∧ Up w w'
  cut : ∀ (f t q : Int) (d : Bool) (w : World), Calls Try.prog 18 #[.pointer none, .int .i64 f, .int .i64 t, .int .i64 q, .bool d] w fun e w' => e = .returned (.int .i64 1) ∧ Up w w'
  len : ∀ (w : World), Calls Try.prog 14 #[.pointer none] w fun e w' => e = .returned (.int .i64 0) ∧ Up w w'
  list : ∀ (w : World), Calls Try.prog 13 #[.pointer none] w fun e w' => ∃ A c, e = .returned (.slice A 0 c) ∧ Up w w'
def True2 (w : World) (e : Ending) (w' : World) : Prop := e = .returned (.bool true) ∧ Up w w'
def CAns : Prop := ∀ w : World, Calls Try.prog 9 #[] w (True2 w)
end Go.Proofs.Ytfbjhialjepodaa
