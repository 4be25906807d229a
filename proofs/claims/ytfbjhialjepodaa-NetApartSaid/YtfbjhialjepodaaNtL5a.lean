import Derived.Test.YtfbjhialjepodaaNtL1
import Derived.Test.YtfbjhialjepodaaStgX2
import Derived.Deep.DeepCutAuto
namespace Go.Proofs.Ytfbjhialjepodaa
open Go Go.RowKit
set_option linter.unusedVariables false
def apF (bs : List Int) : Nt.Fr := ⟨0, 0, 1, 0, bs, false⟩
def apS (l : List Nt.Fr) : Nt.St := ⟨2, l, fun _ _ _ => false⟩
def apG (bs : List Int) (bits : Int) : Nt.Fr := if bits = 0 then apF bs else Nt.turnF (apF bs) 0 bits
theorem ap_sendE {bs : List Int} (h : bs.length ≤ 4096) : Nt.sendE (Nt.new 2) (0, 0) (1, 0) bs = 0 := by
  unfold Nt.sendE
  rw [if_pos ⟨⟨⟨by simp, by simp [Nt.new]⟩, by simp, by simp⟩, ⟨⟨by simp, by simp [Nt.new]⟩, by simp, by simp⟩, by simp⟩, if_neg (by omega)]
theorem ap_sendS {bs : List Int} (h : bs.length ≤ 4096) : Nt.sendS (Nt.new 2) (0, 0) (1, 0) bs = apS [apF bs] := by
  rw [Nt.sendS_up (ap_sendE h) rfl (by simp [Nt.new])]; rfl
theorem ap_twin (bs : List Int) : Nt.twinE (apS [apF bs]) 0 = 0 ∧ Nt.twinS (apS [apF bs]) 0 = apS [apF bs, apF bs] := ⟨rfl, by
  unfold Nt.twinS
  rw [if_pos (by show Nt.twinE (apS [apF bs]) 0 = 0; rfl)]; rfl⟩
theorem ap_turn {bs : List Int} {bits : Int} (h0 : 0 < bs.length) : Nt.turnE (apS [apF bs, apF bs]) 1 0 bits = (if bits = 0 then 1 else 0) ∧ Nt.turnS (apS [apF bs, apF bs]) 1 0 bits = apS [apF bs, apG bs bits] := by
  have hh : Nt.has (apS [apF bs, apF bs]) 1 := ⟨by omega, by simp [apS]⟩
  have hf : Nt.fr (apS [apF bs, apF bs]) 1 = apF bs := rfl
  have e : Nt.turnE (apS [apF bs, apF bs]) 1 0 bits = (if bits = 0 then 1 else 0) := by
    unfold Nt.turnE
    rw [if_pos hh, hf]
    by_cases hb : bits = 0
    · rw [if_neg (by simp [hb]), if_pos hb]
    · rw [if_pos ⟨hb, by omega, by simp [apF]; omega⟩, if_neg hb]; rfl
  refine ⟨e, ?_⟩
  unfold Nt.turnS apG
  rw [e, hf]
  by_cases hb : bits = 0
  · simp [hb]
  · simp only [hb, if_false, if_true]; rfl
theorem bx_zero {x : Int} (h : 0 ≤ x) : Nt.bx x 0 = x := by
  unfold Nt.bx
  simp
  omega
theorem apG_len (bs : List Int) (bits : Int) : (apG bs bits).bytes.length = bs.length := by
  unfold apG Nt.turnF
  split <;> simp [apF]
theorem apG_get {bs : List Int} {bits b0 : Int} (h : bs[0]? = some b0) (h0 : 0 ≤ b0) : (apG bs bits).bytes[0]? = some (Nt.bx b0 bits) := by
  have hl : 0 < bs.length := (List.getElem?_eq_some_iff.1 h).1
  unfold apG
  by_cases hb : bits = 0
  · rw [if_pos hb, hb, bx_zero h0]; exact h
  · rw [if_neg hb]
    show (bs.set (0 : Int).toNat (Nt.bx (bs.getD (0 : Int).toNat 0) bits))[0]? = _
    simp only [Int.toNat_zero]
    rw [List.getElem?_set_self hl, List.getD_eq_getElem?_getD, h]; rfl
theorem run_xor8 {x y : Int} (hx : 0 ≤ x ∧ x < 256) (hy : 0 ≤ y ∧ y < 256) (w : World) : (binOp .xor 5 (.int .u8 x) (.int .u8 y)).run Try.prog w = .ok (.int .u8 (Nt.bx x y)) w := by
  obtain ⟨a, rfl⟩ := Int.eq_ofNat_of_zero_le hx.1
  obtain ⟨b, rfl⟩ := Int.eq_ofNat_of_zero_le hy.1
  rw [binOp_xor, intBits_xor]
  have e : bits .xor IntKind.u8 (a : Int) (b : Int) = Nt.bx a b := by
    rw [u8_xor_nat a b (by omega) (by omega)]; rfl
  rw [e]; rfl
end Go.Proofs.Ytfbjhialjepodaa
namespace Go.Proofs.Ytfbjhialjepodaa
open Go Go.RowKit
theorem agg38 (w : World) : (isAgg 38).run Try.prog w = .ok false w := by kernel_rfl
theorem agg5 (w : World) : (isAgg 5).run Try.prog w = .ok false w := by kernel_rfl
theorem siz5 (w : World) : (Go.sizeOf 5).run Try.prog w = .ok 1 w := by kernel_rfl
theorem siz46 (w : World) : (Go.sizeOf 46).run Try.prog w = .ok 6 w := by kernel_rfl
theorem fld462 (b o : Nat) (w : World) : (Instr.fieldAt 46 (.pointer (some ⟨b, o, none⟩)) 2).run Try.prog w = .ok (.pointer (some ⟨b, o + 4, none⟩)) w := by kernel_rfl
theorem idx29 (b o c : Nat) (w : World) : (Instr.indexAt 29 (.slice (some ⟨b, o, none⟩) 2 c) (.int .i64 0)).run Try.prog w = .ok (.pointer (some ⟨b, o, none⟩)) w := by
  have := run_indexT (P := Try.prog) (w := w) Try.underlying29 (siz46 w) (A := ⟨b, o, none⟩) (n := 2) (c := c) (i := 0) (by omega)
  rw [Nat.zero_mul, Addr.add_zero'] at this
  exact this
theorem idx38 {b o n c : Nat} (hn : 0 < n) (w : World) : (Instr.indexAt 38 (.slice (some ⟨b, o, none⟩) n c) (.int .i64 0)).run Try.prog w = .ok (.pointer (some ⟨b, o, none⟩)) w := by
  have := run_indexT (P := Try.prog) (w := w) Try.underlying38 (siz5 w) (A := ⟨b, o, none⟩) (n := n) (c := c) (i := 0) hn
  rw [Nat.zero_mul, Addr.add_zero'] at this
  exact this
theorem add8 (x : Int) (w : World) : (binOp .add 5 (.int .u8 x) (.int .u8 2)).run Try.prog w = .ok (.int .u8 ((x + 2) % 256)) w := by
  rw [binOp_add]
  have e : IntKind.u8.wrap (x + 2) = (x + 2) % 256 := by simp [IntKind.wrap, IntKind.bits, IntKind.signed]
  simp [Op.intArith, e]
theorem eqb (b : Bool) (w : World) : (binOp .eql 4 (.bool b) (.bool b)).run Try.prog w = .ok (.bool true) w := by
  cases b <;> kernel_rfl
theorem inB_out {S : Nat → Prop} {w w' : World} {A : Option Addr} {n c : Nat} {xs : List Int} (h : InB w A n c xs) (ho : Out S w w') (hn : ∀ b, blk? A = some b → ¬ S b) : InB w' A n c xs := by
  refine ⟨fun hne => ?_, h.byt, h.cap, h.len⟩
  obtain ⟨b, o, rfl, hlt, hc⟩ := h.cells hne
  exact ⟨b, o, rfl, Nat.lt_of_lt_of_le hlt ho.size, fun j u hu => (World.cell?_of_block (w := w) (ho.block b hlt (hn b rfl))).trans (hc j u hu)⟩
theorem inB_at {w : World} {A : Option Addr} {n c : Nat} {xs : List Int} {x : Int} (h : InB w A n c xs) (hx : xs[0]? = some x) : ∃ b o, A = some ⟨b, o, none⟩ ∧ w.cell? ⟨b, o, none⟩ = some (.int .u8 x) := by
  have hl := (List.getElem?_eq_some_iff.1 hx).1
  obtain ⟨b, o, e, hlt, hc⟩ := h.cells (by intro e; have := ints_length .u8 xs; rw [e] at this; simp at this; omega)
  exact ⟨b, o, e, hc 0 _ (by simp [ints, hx])⟩
end Go.Proofs.Ytfbjhialjepodaa
