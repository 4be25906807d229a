import Derived.Test.YtdlehchofmdjbaaSqP
namespace Go.Proofs.Ytdlehchofmdjbaa
open Go Go.RowKit Sq
set_option linter.unusedVariables false
set_option linter.unusedSimpArgs false
/-! Push that is refused; what a nil queue answers. -/
namespace Sq
def Nix (v : Value) (w : World) (e : Ending) (w' : World) : Prop := e = .returned v ∧ Hid (Up w w')
end Sq
open Sq
set_option maxRecDepth 100000 in
theorem full_any (S : Nat → Prop) (q : Nat) (A : Option Addr) (c : Nat) (L : List ItB) (Q : QS) (x : Pm) (B : Option Addr) (n d : Nat) (w : World) (h : IQ S w q A c L Q) (h0 : 0 < n) (hn : n ≤ 256) (hl : Q.l.length = 256) :
    Calls Try.prog 8 #[.pointer (some ⟨q, 0, none⟩), .agg #[.int .u32 (x.tsn : Int), .int .u16 (x.st : Int), .int .u16 (x.sq : Int), .bool x.bg, .bool x.en, .bool x.un, .slice B n d]] w (Nix (.tuple #[.int .u32 0, .int .i64 10]) w) := by
  have hm : L.length = 256 := by rw [h.len]; exact hl
  have hT := h.top
  rw [hm] at hT
  have HT := Lib.hid hT
  have HC := Lib.hid (new_at w (.cells #[.int .u32 (x.tsn : Int), .int .u16 (x.st : Int), .int .u16 (x.sq : Int), .bool x.bg, .bool x.en, .bool x.un, .slice B n d] 32))
  have HU := Lib.hid (up_alloc w (.cells #[.int .u32 (x.tsn : Int), .int .u16 (x.st : Int), .int .u16 (x.sq : Int), .bool x.bg, .bool x.en, .bool x.un, .slice B n d] 32))
  clear h hl hm hT
  go_enter Try.func8, Try.ntmps8
  go_upto_region 1 with (fail)
  generalize w.alloc (.cells #[.int .u32 (x.tsn : Int), .int .u16 (x.st : Int), .int .u16 (x.sq : Int), .bool x.bg, .bool x.en, .bool x.un, .slice B n d] 32) = w1 at HC HU ⊢
  generalize w.heap.size = g at HC ⊢
  have t1 : w1.cell? ⟨q, 1, none⟩ = some (.slice A 256 c) := cell_of ((HU.out.block _ (lt_of_blk HT.out)).trans HT.out) rfl
  have p6 : w1.cell? ⟨g, 6, none⟩ = some (.slice B n d) := cell_of HC.out rfl
  go_wp2_with fail
  go_ret2
  exact ⟨rfl, HU⟩
theorem push0_any (v : Value) (cs : Array Value) (w : World) (hv : v = .agg cs) (hc : ∀ w : World, (Instr.box 32 v).run Try.prog w = .ok (.pointer (some ⟨w.heap.size, 0, none⟩)) (w.alloc (.cells cs 32))) : Calls Try.prog 8 #[.pointer none, v] w (Nix (.tuple #[.int .u32 0, .int .i64 1]) w) := by
  have HU := Lib.hid (up_alloc w (.cells cs 32))
  go_enter Try.func8, Try.ntmps8
  go_wp2_with fail
  go_ret2
  exact ⟨rfl, HU⟩
theorem len0_any (w : World) : Calls Try.prog 11 #[.pointer none] w (Nix (.tuple #[.int .i64 0, .int .i64 0]) w) := by
  go_enter Try.func11, Try.ntmps11
  go_wp2_with fail
  go_ret2
  exact ⟨rfl, Lib.hid (Up.refl _)⟩
theorem cum0_any (w : World) : Calls Try.prog 14 #[.pointer none] w (Nix (.int .u32 0) w) := by
  go_enter Try.func14, Try.ntmps14
  go_wp2_with fail
  go_ret
  exact ⟨rfl, Lib.hid (Up.refl _)⟩
end Go.Proofs.Ytdlehchofmdjbaa
