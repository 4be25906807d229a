import Derived.Shelf.SlicesQ.Load
import Derived.Test.YtdlehchofmdjbaaRowQ
import Derived.Test.YtdlehchofmdjbaaSqM
import Derived.Test.YtdlehchofmdjbaaStaged
import Derived.Test.YtdlehchofmdjbaaChecked
import Derived.BigQuiet
import Derived.Deep.DeepCutAuto
namespace Go.Proofs.Ytdlehchofmdjbaa
open Go Go.RowKit Sq
set_option linter.unusedVariables false
set_option linter.unusedSimpArgs false
/-! Fields, loads, a piece's and an item's values. -/
theorem fld520 (b o : Nat) (w : World) : (Instr.fieldAt 52 (.pointer (some ⟨b, o, none⟩)) 0).run Try.prog w = .ok (.pointer (some ⟨b, o, none⟩)) w := by kernel_rfl
theorem fld521 (b o : Nat) (w : World) : (Instr.fieldAt 52 (.pointer (some ⟨b, o, none⟩)) 1).run Try.prog w = .ok (.pointer (some ⟨b, o + 1, none⟩)) w := by kernel_rfl
theorem fld522 (b o : Nat) (w : World) : (Instr.fieldAt 52 (.pointer (some ⟨b, o, none⟩)) 2).run Try.prog w = .ok (.pointer (some ⟨b, o + 2, none⟩)) w := by kernel_rfl
theorem fld560 (b o : Nat) (w : World) : (Instr.fieldAt 56 (.pointer (some ⟨b, o, none⟩)) 0).run Try.prog w = .ok (.pointer (some ⟨b, o, none⟩)) w := by kernel_rfl
theorem fld561 (b o : Nat) (w : World) : (Instr.fieldAt 56 (.pointer (some ⟨b, o, none⟩)) 1).run Try.prog w = .ok (.pointer (some ⟨b, o + 7, none⟩)) w := by kernel_rfl
theorem fld562 (b o : Nat) (w : World) : (Instr.fieldAt 56 (.pointer (some ⟨b, o, none⟩)) 2).run Try.prog w = .ok (.pointer (some ⟨b, o + 8, none⟩)) w := by kernel_rfl
theorem fld563 (b o : Nat) (w : World) : (Instr.fieldAt 56 (.pointer (some ⟨b, o, none⟩)) 3).run Try.prog w = .ok (.pointer (some ⟨b, o + 9, none⟩)) w := by kernel_rfl
theorem fld564 (b o : Nat) (w : World) : (Instr.fieldAt 56 (.pointer (some ⟨b, o, none⟩)) 4).run Try.prog w = .ok (.pointer (some ⟨b, o + 10, none⟩)) w := by kernel_rfl
theorem fld320 (b o : Nat) (w : World) : (Instr.fieldAt 32 (.pointer (some ⟨b, o, none⟩)) 0).run Try.prog w = .ok (.pointer (some ⟨b, o, none⟩)) w := by kernel_rfl
theorem fld326 (b o : Nat) (w : World) : (Instr.fieldAt 32 (.pointer (some ⟨b, o, none⟩)) 6).run Try.prog w = .ok (.pointer (some ⟨b, o + 6, none⟩)) w := by kernel_rfl
theorem fld430 (b o : Nat) (w : World) : (Instr.fieldAt 43 (.pointer (some ⟨b, o, none⟩)) 0).run Try.prog w = .ok (.pointer (some ⟨b, o, none⟩)) w := by kernel_rfl
theorem fld432 (b o : Nat) (w : World) : (Instr.fieldAt 43 (.pointer (some ⟨b, o, none⟩)) 2).run Try.prog w = .ok (.pointer (some ⟨b, o + 2, none⟩)) w := by kernel_rfl
theorem agg3 (w : World) : (isAgg 3).run Try.prog w = .ok false w := by kernel_rfl
theorem agg4 (w : World) : (isAgg 4).run Try.prog w = .ok false w := by kernel_rfl
theorem agg22 (w : World) : (isAgg 22).run Try.prog w = .ok false w := by kernel_rfl
theorem agg29 (w : World) : (isAgg 29).run Try.prog w = .ok false w := by kernel_rfl
theorem agg35 (w : World) : (isAgg 35).run Try.prog w = .ok false w := by kernel_rfl
theorem agg40 (w : World) : (isAgg 40).run Try.prog w = .ok false w := by kernel_rfl
theorem agg50 (w : World) : (isAgg 50).run Try.prog w = .ok false w := by kernel_rfl
theorem siz3 (w : World) : (Go.sizeOf 3).run Try.prog w = .ok 1 w := by kernel_rfl
theorem siz4 (w : World) : (Go.sizeOf 4).run Try.prog w = .ok 1 w := by kernel_rfl
theorem siz22 (w : World) : (Go.sizeOf 22).run Try.prog w = .ok 1 w := by kernel_rfl
theorem siz35 (w : World) : (Go.sizeOf 35).run Try.prog w = .ok 1 w := by kernel_rfl
theorem siz50 (w : World) : (Go.sizeOf 50).run Try.prog w = .ok 1 w := by kernel_rfl
theorem siz56 (w : World) : (Go.sizeOf 56).run Try.prog w = .ok 11 w := by kernel_rfl
namespace Sq
/-- The cells of a piece. -/
def pcl (t s q : Nat) (b e u : Bool) (A : Option Addr) (n c : Nat) : List Value := [.int .u32 (t : Int), .int .u16 (s : Int), .int .u16 (q : Int), .bool b, .bool e, .bool u, .slice A n c]
theorem pcl_len (t s q : Nat) (b e u : Bool) (A : Option Addr) (n c : Nat) : (pcl t s q b e u A n c).length = 7 := rfl
end Sq
theorem run_load32 {g o : Nat} {w : World} {cs : List Value} (hl : cs.length = 7) (h : ∀ (j : Nat) (v : Value), cs[j]? = some v → w.cell? ⟨g, o + j, none⟩ = some v) : (Instr.loadAt 32 (.pointer (some ⟨g, o, none⟩))).run Try.prog w = .ok (.agg cs.toArray) w := by
  have hh := run_loadCellsFrom_list Try.prog w ⟨g, o, none⟩ _ 7 hl (fun j v hv => by rw [add_flat]; exact h j v hv)
  simp [Instr.loadAt, Instr.sureAddr, loadVar, Result.andThen, loadCells, hh]
theorem build56 (t s q : Nat) (b e u : Bool) (A : Option Addr) (n c : Nat) (w : World) : (Instr.build 56 #[(0, .agg (pcl t s q b e u A n c).toArray)]).run Try.prog w = .ok (.agg #[.int .u32 (t : Int), .int .u16 (s : Int), .int .u16 (q : Int), .bool b, .bool e, .bool u, .slice A n c, .int .i64 0, .int .i64 0, .bool false, .bool false]) w := by
  unfold pcl
  kernel_rfl
theorem bslice50 (t s q : Nat) (b e u : Bool) (A : Option Addr) (n c : Nat) (w : World) : (Instr.buildSlice 50 1 #[(0, .agg #[.int .u32 (t : Int), .int .u16 (s : Int), .int .u16 (q : Int), .bool b, .bool e, .bool u, .slice A n c, .int .i64 0, .int .i64 0, .bool false, .bool false])]).run Try.prog w = .ok (.slice (some ⟨w.heap.size, 0, none⟩) 1 1) (w.alloc (.cells #[.int .u32 (t : Int), .int .u16 (s : Int), .int .u16 (q : Int), .bool b, .bool e, .bool u, .slice A n c, .int .i64 0, .int .i64 0, .bool false, .bool false] 56)) := by
  kernel_rfl
theorem x_build {P : Program} {o : Oper} {a : Act} {w : World} (t : TypeId) (ps : Array (Nat × Operand)) {v : Value} (ho : o.op = .build t ps) (hr : (Instr.build t (ps.map fun (i, x) => (i, a.eval x))).run P w = .ok v w) : (execOp a.eval o).run P w = .ok (.value v) w := by simp [execOp, ho, hr, Result.andThen]
def z56 : Value := .agg #[.int .u32 0, .int .u16 0, .int .u16 0, .bool false, .bool false, .bool false, .slice none 0 0, .int .i64 0, .int .i64 0, .bool false, .bool false]
theorem info56 : (Try.prog.info? 56).map (fun i => (i.zero, i.size, i.bytes)) = some (some z56, 11, 64) := by kernel_rfl
end Go.Proofs.Ytdlehchofmdjbaa
namespace Go.Proofs.Ytdlehchofmdjbaa
open Go Go.RowKit
set_option linter.unusedVariables false
set_option linter.unusedSimpArgs false
/-! The program's queue in memory. -/
namespace Sq
/-- An item, and where its bytes lie. -/
structure ItB where
  x : It
  A : Option Addr
  c : Nat
def itc (y : ItB) : List Value := [.int .u32 (y.x.p.tsn : Int), .int .u16 (y.x.p.st : Int), .int .u16 (y.x.p.sq : Int), .bool y.x.p.bg, .bool y.x.p.en, .bool y.x.p.un, .slice y.A y.x.p.bs.length y.c, .int .i64 y.x.path, .int .i64 (y.x.miss : Int), .bool y.x.ack, .bool y.x.mkd]
theorem itc_len (y : ItB) : (itc y).length = 11 := rfl
def qcl (k : Nat) (A : Option Addr) (n c o : Nat) : Array Value := #[.int .u32 (k : Int), .slice A n c, .int .i64 (o : Int)]
structure Good (Q : QS) : Prop where
  len : Q.l.length ≤ 256
  nx : Q.nx < 4294967296
  pre : ∀ i x, Q.l[i]? = some x → (x.out = true ↔ i < outN Q.l)
  tsn : ∀ i x, Q.l[i]? = some x → x.p.tsn = (cum Q + 1 + i) % 4294967296
  bs : ∀ x ∈ Q.l, 0 < x.p.bs.length ∧ x.p.bs.length ≤ 256 ∧ Byt x.p.bs
  bd : ∀ x ∈ Q.l, x.p.st < 65536 ∧ x.p.sq < 65536 ∧ x.miss ≤ 2
  mo : ∀ x ∈ Q.l, x.mkd = true → x.out = true
structure IQ (S : Nat → Prop) (w : World) (q : Nat) (A : Option Addr) (c : Nat) (L : List ItB) (Q : QS) : Prop where
  top : w.heap[q]? = some (.cells (qcl (cum Q) A L.length c (outN Q.l)) 52 (0, 0))
  row : w.ownsRow 0 56 11 (.slice A L.length c) L.length (L.flatMap itc)
  eq : Q.l = L.map (·.x)
  by_ : ∀ y ∈ L, OwnI .u8 5 0 w y.A y.x.p.bs.length y.c y.x.p.bs
  inq : S q
  inA : ∀ k, blk? A = some k → S k ∧ k ≠ q
  inB : ∀ y ∈ L, ∀ k, blk? y.A = some k → S k ∧ k ≠ q ∧ blk? A ≠ some k
  ok : Good Q
  lt : ∀ k, S k → k < w.heap.size
def IsQ (S : Nat → Prop) (w : World) (p : Addr) (Q : QS) : Prop := ∃ q A c L, p = ⟨q, 0, none⟩ ∧ IQ S w q A c L Q
theorem IQ.keep {S : Nat → Prop} {w w' : World} {q c : Nat} {A : Option Addr} {L : List ItB} {Q : QS} (h : IQ S w q A c L Q) (hk : ∀ k, S k → w'.heap[k]? = w.heap[k]?) (hs : w.heap.size ≤ w'.heap.size) : IQ S w' q A c L Q :=
  ⟨(hk q h.inq).trans h.top, own_blk h.row (fun g hg => hk g (h.inA g (by rwa [ownBlock_slice] at hg)).1), h.eq, fun y hy => own_blk (h.by_ y hy) (fun g hg => hk g (h.inB y hy g (by rwa [ownBlock_slice] at hg)).1), h.inq, h.inA, h.inB, h.ok, fun k hk => Nat.lt_of_lt_of_le (h.lt k hk) hs⟩
theorem IQ.up {S : Nat → Prop} {w w' : World} {q c : Nat} {A : Option Addr} {L : List ItB} {Q : QS} (h : IQ S w q A c L Q) (hu : Up w w') : IQ S w' q A c L Q := h.keep (fun k hk => hu.block k (h.lt k hk)) hu.size
theorem IQ.len {S : Nat → Prop} {w : World} {q c : Nat} {A : Option Addr} {L : List ItB} {Q : QS} (h : IQ S w q A c L Q) : L.length = Q.l.length := by rw [h.eq]; simp
theorem outN_le (l : List It) : outN l ≤ l.length := by unfold outN; exact (List.takeWhile_prefix _).length_le
theorem cum_lt (Q : QS) : cum Q < 4294967296 := Nat.mod_lt _ (by decide)
theorem good_new {f : Nat} (hf : f < 4294967296) : Good ⟨f, []⟩ := ⟨by simp, hf, by simp, by simp, by simp, by simp, by simp⟩
theorem row_cap {w : World} {base : Nat} {e : TypeId} {s n c : Nat} {A : Option Addr} {xs : List Value} (h : w.ownsRow base e s (.slice A n c) n xs) : n ≤ c ∧ c ≤ 9223372036854775807 := by
  rcases h.2 with ⟨h1, h2⟩ | ⟨g', cap, cur, hv, _, _, h1, h2, _⟩
  · injection h1 with _ h3 h4; omega
  · injection hv with _ _ hv; subst hv; exact ⟨h1, h2⟩
end Sq
open Sq
theorem new_any (f : Nat) (w : World) (hf : f < 4294967296) : Calls Try.prog 6 #[.int .u32 (f : Int)] w fun e w' => ∃ p S, e = .returned (.pointer (some p)) ∧ Hid (IsQ S w' p ⟨f, []⟩) ∧ Hid (From w.heap.size S) ∧ Hid (Up w w') := by
  have hc : (((f : Int) - 1) % 4294967296) = ((cum ⟨f, []⟩ : Nat) : Int) := by unfold cum; simp; omega
  have HC := Lib.hid hc
  have HF := Lib.hid hf
  clear hc
  go_enter Try.func6, Try.ntmps6
  go_wp2_with fail
  rw [HC.out]
  have HU := Lib.hid (up_alloc w (.cells #[.int .u32 ((cum ⟨f, []⟩ : Nat) : Int), .slice none 0 0, .int .i64 0] 52))
  have HB := Lib.hid (new_at w (.cells #[.int .u32 ((cum ⟨f, []⟩ : Nat) : Int), .slice none 0 0, .int .i64 0] 52))
  go_ret
  refine ⟨_, fun k => k = w.heap.size, rfl, Lib.hid ⟨w.heap.size, none, 0, [], rfl, ⟨HB.out, World.ownsRow_nil _ _ _ _, rfl, by simp, rfl, fun k hk => (by cases hk), by simp, good_new HF.out, fun k hk => by rw [hk]; simp⟩⟩, Lib.hid (fun k hk => by rw [hk]; exact Nat.le_refl _), HU⟩
theorem after_any (q k : Nat) (cs : Array Value) (n : Nat) (w : World) (hq : w.heap[q]? = some (.cells cs 52 (0, 0))) (h0 : cs[0]? = some (.int .u32 (n : Int))) (hk : k ≤ 1000) : Calls Try.prog 15 #[.pointer (some ⟨q, 0, none⟩), .int .i64 (k : Int)] w fun e w' => e = .returned (.int .u32 (((n + k) % 4294967296 : Nat) : Int)) ∧ w' = w := by
  have c0 := cell_of hq h0
  have HE := Lib.hid (show (((n : Int) + (k : Int)) % 4294967296) = (((n + k) % 4294967296 : Nat) : Int) by omega)
  clear hq h0
  go_enter Try.func15, Try.ntmps15
  go_wp2_with fail
  go_ret
  exact ⟨by rw [← HE.out]; rfl, rfl⟩
theorem cum_any (S : Nat → Prop) (p : Addr) (Q : QS) (w : World) (h : IsQ S w p Q) : Calls Try.prog 14 #[.pointer (some p)] w fun e w' => e = .returned (.int .u32 (cum Q : Int)) ∧ w = w' := by
  obtain ⟨q, A, c, L, rfl, h⟩ := h
  have c0 : w.cell? ⟨q, 0, none⟩ = some (.int .u32 (cum Q : Int)) := cell_of h.top rfl
  clear h
  go_enter Try.func14, Try.ntmps14
  go_wp2_with fail
  go_ret
  exact ⟨rfl, rfl⟩
set_option maxRecDepth 100000 in
theorem clone_any (A : Addr) (m c : Nat) (xs : List Int) (w : World) (h : InB w (some A) m c xs) (hm : m ≤ 140737488351232) :
    Calls Try.prog 16 #[.slice (some A) m c] w fun e w' => ∃ A' c', e = .returned (.slice A' m c') ∧ Hid (OwnI .u8 5 w.heap.size w' A' m c' xs) ∧ Hid (Up w w') := by
  have qT : ∀ (w : World) (a : Option Addr) (n c n' c' : Nat), (binOp .eql 29 (.slice a n c) (.slice none n' c')).run Try.prog w = .ok (.bool a.isNone) w := fun w a n c n' c' => Lib.run_eql_slice_nil w _ _ a n c n' c' Try.underlying29
  have H := Lib.hid h
  clear h
  go_enter Try.func16, Try.ntmps16
  go_wp2_with (at_builtin; refine wpList_appendI rfl (.tmp 5) (.tmp 6) 29 rfl .u8 w.heap.size 5 1 Try.underlying29 (by kernel_rfl) (some ⟨w.heap.size, 0, none⟩) 0 0 [] rfl (ownI_new _ _ _) (some A) m c xs rfl H.out.len (H.out.cells.alloc _) (by omega) (by omega) (by simp) ((Below.refl _ _).alloc (Nat.le_refl _) _) ?_; intro A6 N6 c6 w6 HN6 HW6 HB6 hsz6)
  have hN : N6 = m := by have := HN6.out; omega
  subst hN
  go_ret
  exact ⟨A6, c6, rfl, Lib.hid (by have := HW6.out; rw [List.nil_append] at this; exact this), Lib.hid HB6.out⟩
theorem inB_some {w : World} {A : Option Addr} {m c : Nat} {xs : List Int} (h : InB w A m c xs) (h0 : 0 < m) : ∃ b o, A = some ⟨b, o, none⟩ := by
  obtain ⟨b, o, e, _⟩ := h.cells (fun e => by rw [ints, List.map_eq_nil_iff] at e; have := h.len; rw [e] at this; simp at this; omega)
  exact ⟨b, o, e⟩
end Go.Proofs.Ytdlehchofmdjbaa
