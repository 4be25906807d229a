import Derived.Test.YtdlehchofmdjbaaSqO2
import Derived.Test.YtdlehchofmdjbaaSqN1
import Derived.Test.YtdlehchofmdjbaaSqP2
import Derived.Test.YtdlehchofmdjbaaSqV
namespace Go.Proofs.Ytdlehchofmdjbaa
open Go Go.RowKit
set_option linter.unusedVariables false
set_option linter.unusedSimpArgs false
/-! What is asked of the program's queue, and that it is so. -/
namespace Sq
structure QC (IsQ : (Nat → Prop) → World → Addr → QS → Prop) : Prop where
  lt : ∀ {S w p Q}, IsQ S w p Q → ∀ k, S k → k < w.heap.size
  keep : ∀ {S w p Q w'}, IsQ S w p Q → (∀ k, S k → w'.heap[k]? = w.heap[k]?) → w.heap.size ≤ w'.heap.size → IsQ S w' p Q
  ok : ∀ {S w p Q}, IsQ S w p Q → Q.l.length ≤ 256 ∧ Q.nx < 4294967296
  new : ∀ (f : Nat) (w : World), f < 4294967296 → Calls Try.prog 6 #[.int .u32 (f : Int)] w fun e w' => ∃ p S, e = .returned (.pointer (some p)) ∧ Hid (IsQ S w' p ⟨f, []⟩) ∧ Hid (From w.heap.size S) ∧ Hid (Up w w')
  push : ∀ (S : Nat → Prop) (p : Addr) (Q : QS) (x : Pm) (A : Option Addr) (n c : Nat) (w : World), IsQ S w p Q → InB w A n c x.bs → 0 < n → n ≤ 256 → Q.l.length < 256 → x.tsn < 4294967296 → x.st < 65536 → x.sq < 65536 →
    Calls Try.prog 8 #[.pointer (some p), pcv x A n c] w (Answer (.tuple #[.int .u32 (Q.nx : Int), .int .i64 0]) (push Q x) IsQ p S w)
  full : ∀ (S : Nat → Prop) (p : Addr) (Q : QS) (x : Pm) (A : Option Addr) (n c : Nat) (w : World), IsQ S w p Q → InB w A n c x.bs → 0 < n → n ≤ 256 → Q.l.length = 256 →
    Calls Try.prog 8 #[.pointer (some p), pcv x A n c] w (Answer (.tuple #[.int .u32 0, .int .i64 10]) Q IsQ p S w)
  next : ∀ (S : Nat → Prop) (p : Addr) (Q : QS) (k : Nat) (x : It) (path : Int) (w : World), IsQ S w p Q → pick Q.l = some k → Q.l[k]? = some x →
    Calls Try.prog 9 #[.pointer (some p), .int .i64 path] w (Piece x.p (sent Q k path) IsQ p S w)
  none_ : ∀ (S : Nat → Prop) (p : Addr) (Q : QS) (path : Int) (w : World), IsQ S w p Q → pick Q.l = none →
    Calls Try.prog 9 #[.pointer (some p), .int .i64 path] w (Answer (.tuple #[.agg #[.int .u32 0, .int .u16 0, .int .u16 0, .bool false, .bool false, .bool false, .slice none 0 0], .bool false]) Q IsQ p S w)
  heard : ∀ (S : Nat → Prop) (p : Addr) (Q : QS) (cu wi : Nat) (A B : Option Addr) (n c m k : Nat) (G : List (Nat × Nat)) (w : World), IsQ S w p Q → InGs w A n c G → (∀ k, blk? A = some k → ¬ S k) → cu < 4294967296 → apart 2 G = true → G.length ≤ 64 → done Q cu ≤ outN Q.l →
    Calls Try.prog 10 #[.pointer (some p), .agg #[.int .u32 (cu : Int), .int .u32 (wi : Int), .slice A n c, .slice B m k]] w (HeardP Q (done Q cu) G IsQ p S w)
  old : ∀ (S : Nat → Prop) (p : Addr) (Q : QS) (cu wi : Nat) (A B : Option Addr) (n c m k : Nat) (G : List (Nat × Nat)) (w : World), IsQ S w p Q → InGs w A n c G → (∀ k, blk? A = some k → ¬ S k) → cu < 4294967296 → apart 2 G = true → G.length ≤ 64 → outN Q.l < done Q cu →
    Calls Try.prog 10 #[.pointer (some p), .agg #[.int .u32 (cu : Int), .int .u32 (wi : Int), .slice A n c, .slice B m k]] w (Refused 15 Q IsQ p S w)
  late : ∀ (S : Nat → Prop) (p : Addr) (Q : QS) (path : Int) (w : World), IsQ S w p Q → Calls Try.prog 12 #[.pointer (some p), .int .i64 path] w (Answer (.int .i64 (lateN Q path : Int)) (late Q path) IsQ p S w)
  push0 : ∀ (x : Pm) (A : Option Addr) (n c : Nat) (w : World), Calls Try.prog 8 #[.pointer none, pcv x A n c] w (Nix (.tuple #[.int .u32 0, .int .i64 1]) w)
  next0 : ∀ (path : Int) (w : World), Calls Try.prog 9 #[.pointer none, .int .i64 path] w (Nix (.tuple #[.agg #[.int .u32 0, .int .u16 0, .int .u16 0, .bool false, .bool false, .bool false, .slice none 0 0], .bool false]) w)
  heard0 : ∀ (cu wi : Nat) (A B : Option Addr) (n c m k : Nat) (w : World), Calls Try.prog 10 #[.pointer none, .agg #[.int .u32 (cu : Int), .int .u32 (wi : Int), .slice A n c, .slice B m k]] w (Nix (.tuple #[.slice none 0 0, .slice none 0 0, .int .i64 1]) w)
  len0 : ∀ (w : World), Calls Try.prog 11 #[.pointer none] w (Nix (.tuple #[.int .i64 0, .int .i64 0]) w)
  late0 : ∀ (path : Int) (w : World), Calls Try.prog 12 #[.pointer none, .int .i64 path] w (Nix (.int .i64 0) w)
  flight0 : ∀ (path : Int) (w : World), Calls Try.prog 13 #[.pointer none, .int .i64 path] w (Nix (.int .i64 0) w)
  cum0 : ∀ (w : World), Calls Try.prog 14 #[.pointer none] w (Nix (.int .u32 0) w)
  cum : ∀ (S : Nat → Prop) (p : Addr) (Q : QS) (w : World), IsQ S w p Q → Calls Try.prog 14 #[.pointer (some p)] w fun e w' => e = .returned (.int .u32 (cum Q : Int)) ∧ w = w'
section
variable {IsQ : (Nat → Prop) → World → Addr → QS → Prop} (C : QC IsQ)
include C
theorem QC.up {S : Nat → Prop} {w w' : World} {p : Addr} {Q : QS} (h : IsQ S w p Q) (hu : Up w w') : IsQ S w' p Q := C.keep h (fun k hk => hu.block k (C.lt h k hk)) hu.size
theorem QC.out {S T : Nat → Prop} {w w' : World} {p : Addr} {Q : QS} (h : IsQ S w p Q) (ho : Out T w w') (hd : ∀ k, S k → ¬ T k) : IsQ S w' p Q := C.keep h (fun k hk => ho.block k (C.lt h k hk) (hd k hk)) ho.size
end
/-- A block of bytes. -/
theorem inB_blk {w : World} {g T : Nat} {xs : List Int} {f : Nat × Nat} (h : w.heap[g]? = some (.cells (xs.map (Value.int .u8)).toArray T f)) (hb : Byt xs) : InB w (some ⟨g, 0, none⟩) xs.length xs.length xs :=
  ⟨fun _ => ⟨g, 0, rfl, lt_of_blk h, fun j u hu => by rw [Nat.zero_add]; exact cell_of h (by simpa [ints] using hu)⟩, hb, Nat.le_refl _, rfl⟩
def RetB (b : Bool) (w : World) (e : Ending) (w' : World) : Prop := e = .returned (.bool b) ∧ Hid (Up w w')
/-- A piece with these bytes alone. -/
def pb (bs : List Int) : Pm := ⟨0, 0, 0, false, false, false, bs⟩
/-- A world, further: the queue's blocks are the call's own. -/
theorem up_far {w w1 w2 : World} {S : Nat → Prop} (h : Up w w1) (ho : Out S w1 w2) (hf : From w.heap.size S) : Up w w2 := Below.out h ho hf h.size
end Sq
open Sq
section
variable {IsQ : (Nat → Prop) → World → Addr → QS → Prop} (C : QC IsQ)
include C
theorem push1 (S : Nat → Prop) (p : Addr) (Q : QS) (g : Nat) (x : Int) (w : World) (h : IsQ S w p Q) (hb : w.heap[g]? = some (.cells #[.int .u8 x] 5 (0, 0))) (hx : 0 ≤ x ∧ x < 256) (hl : Q.l.length < 256) :
    Calls Try.prog 8 #[.pointer (some p), .agg #[.int .u32 0, .int .u16 0, .int .u16 0, .bool false, .bool false, .bool false, .slice (some ⟨g, 0, none⟩) 1 1]] w (Answer (.tuple #[.int .u32 (Q.nx : Int), .int .i64 0]) (push Q (pb [x])) IsQ p S w) :=
  C.push S p Q (pb [x]) (some ⟨g, 0, none⟩) 1 1 w h (inB_blk (xs := [x]) hb (by intro y hy; simp at hy; omega)) (by omega) (by omega) hl (show (0 : Nat) < _ by decide) (show (0 : Nat) < _ by decide) (show (0 : Nat) < _ by decide)
theorem full1 (S : Nat → Prop) (p : Addr) (Q : QS) (g : Nat) (x : Int) (w : World) (h : IsQ S w p Q) (hb : w.heap[g]? = some (.cells #[.int .u8 x] 5 (0, 0))) (hx : 0 ≤ x ∧ x < 256) (hl : Q.l.length = 256) :
    Calls Try.prog 8 #[.pointer (some p), .agg #[.int .u32 0, .int .u16 0, .int .u16 0, .bool false, .bool false, .bool false, .slice (some ⟨g, 0, none⟩) 1 1]] w (Answer (.tuple #[.int .u32 0, .int .i64 10]) Q IsQ p S w) :=
  C.full S p Q (pb [x]) (some ⟨g, 0, none⟩) 1 1 w h (inB_blk (xs := [x]) hb (by intro y hy; simp at hy; omega)) (by omega) (by omega) hl
/-- The queue behind a new block. -/
theorem isq_alloc {S : Nat → Prop} {p : Addr} {Q : QS} {w : World} (h : IsQ S w p Q) (o : Obj) : IsQ S (w.alloc o) p Q := C.up h (up_alloc w o)
end
set_option maxRecDepth 100000 in
set_option maxHeartbeats 1000000 in
theorem answers_ok {IsQ : (Nat → Prop) → World → Addr → QS → Prop} (C : QC IsQ) (w : World) : Calls Try.prog 7 #[] w (RetB true w) := by
  go_enter Try.func7, Try.ntmps7
  go_wp2_with fail
  refine (C.new 5 w (by omega)).mono ?_
  rintro e w1 ⟨p, S, rfl, HQ, HF, HU⟩
  have HQ1 := Lib.hid (isq_alloc C HQ.out (.cells #[.int .u8 1] 5))
  have HB1 := Lib.hid (new_at w1 (.cells #[.int .u8 1] 5))
  have HU1 := Lib.hid (HU.out.trans (up_alloc w1 (.cells #[.int .u8 1] 5)))
  go_wp2_with fail
  generalize w1.alloc (.cells #[.int .u8 1] 5) = w2 at HQ1 HB1 HU1 ⊢
  generalize w1.heap.size = g at HB1 ⊢
  refine (push1 C S p ⟨5, []⟩ g 1 w2 HQ1.out HB1.out (by omega) (by simp)).mono ?_
  rintro e w3 ⟨S', rfl, HQ3, HS3, HO3⟩
  go_wp2_with fail
  refine (C.cum S' p _ w3 HQ3.out).mono ?_
  rintro e w4 ⟨rfl, rfl⟩
  have hc : cum (push ⟨5, []⟩ (pb [1])) = 4 := by decide
  rw [hc]
  clear hc
  go_wp2_with fail
  go_ret
  exact ⟨rfl, Lib.hid (up_far HU1.out HO3.out HF.out)⟩
theorem nix_answer {v : Value} {Q : QS} {p : Addr} {S : Nat → Prop} {w : World} {e : Ending} {w' : World} (h : IsQ S w p Q) (hn : Nix v w e w') : Answer v Q IsQ p S w e w' := by
  obtain ⟨rfl, hu⟩ := hn
  obtain ⟨q, A, c, L, rfl, h⟩ := h
  exact ⟨S, rfl, Lib.hid ⟨q, A, c, L, rfl, h.up hu.out⟩, Lib.hid (Sub.refl _ _), Lib.hid (hu.out.out S)⟩
/-- The program's queue is so. -/
theorem theQ : QC IsQ where
  lt := fun ⟨q, A, c, L, e, h⟩ => h.lt
  keep := fun ⟨q, A, c, L, e, h⟩ hk hs => ⟨q, A, c, L, e, h.keep hk hs⟩
  ok := fun ⟨q, A, c, L, e, h⟩ => ⟨h.ok.len, h.ok.nx⟩
  new := fun f w hf => new_any f w hf
  push := fun S p Q x A n c w h hb h0 hn hl h1 h2 h3 => by
    obtain ⟨q, A', c', L, rfl, h⟩ := h
    obtain ⟨b, o, rfl⟩ := inB_some hb h0
    exact push_any S q A' c' L Q x b o n c w h hb h0 hn hl h2 h3
  full := fun S p Q x A n c w h hb h0 hn hl => by
    have h' := h
    obtain ⟨q, A', c', L, rfl, h⟩ := h
    exact (full_any S q A' c' L Q x A n c w h h0 hn hl).mono fun e w' he => nix_answer h' he
  next := fun S p Q k x path w h hp hx => by
    obtain ⟨q, A, c, L, rfl, h⟩ := h
    have hL : 0 < L.length := by
      have := (List.getElem?_eq_some_iff.1 hx).1
      rw [h.len]; omega
    obtain ⟨g, rfl⟩ := row_at h.row hL
    rw [h.eq, List.getElem?_map] at hx
    cases hy : L[k]? with
    | none => rw [hy] at hx; cases hx
    | some y =>
      rw [hy] at hx
      have hx := Option.some.inj hx
      subst hx
      rcases pick_some h.ok hp with ⟨h1, h2⟩ | ⟨h1, h2, h3⟩
      · exact next_marked S q g c L Q k y path w h hy h1 h2
      · exact next_waits S q g c L Q k y path w h hy h1 h2
  none_ := fun S p Q path w h hp => by
    have h' := h
    obtain ⟨q, A, c, L, rfl, h⟩ := h
    obtain ⟨h1, h2⟩ := pick_no h.ok hp
    exact (next_none S q A c L Q path w h h1 h2).mono fun e w' he => nix_answer h' he
  heard := fun S p Q cu wi A B n c m k G w h hG hS hcu hap h64 hd => heard_any S p Q cu wi A B n c m k G w h hG hS hcu hap h64 hd
  old := fun S p Q cu wi A B n c m k G w h hG hS hcu hap h64 hd => old_any S p Q cu wi A B n c m k G w h hG hS hcu hap h64 hd
  late := fun S p Q path w h => late_any S p Q path w h
  push0 := fun x A n c w => push0_any _ _ w rfl (fun w => by rfl)
  next0 := next0_any
  heard0 := fun cu wi A B n c m k w => heard0_any cu wi A B n c m k w
  len0 := len0_any
  late0 := late0_any
  flight0 := flight0_any
  cum0 := cum0_any
  cum := fun S p Q w h => cum_any S p Q w h
end Go.Proofs.Ytdlehchofmdjbaa
