import Derived.Test.YthncpkjnalmpkaaCk31
import Derived.Test.YthncpkjnalmpkaaWRef
import Derived.Test.YthncpkjnalmpkaaWireC
namespace Go.Proofs.Ythncpkjnalmpkaa
open Go Go.RowKit
set_option linter.unusedVariables false
set_option linter.unusedSimpArgs false
/-! The reference's Put. -/
/-- A call answers bytes of its own, and nothing that was there has turned. -/
def NewB (w : World) (ys : List Int) (e : Ending) (w' : World) : Prop := ∃ A N c, e = .returned (.slice A N c) ∧ N = ys.length ∧ OwnI .u8 5 w.heap.size w' A N c ys ∧ Up w w'
set_option maxHeartbeats 400000 in
theorem rput (A : Option Addr) (m c : Nat) (s : Nat) (xs : List Int) (n : Int) (w : World) (h : InB w A m c xs) (hk : m + s ≤ 140737488355328) (hs1 : 1 ≤ s) (hs8 : s ≤ 8) :
    Calls Try.prog 28 #[.slice A m c, .int .u64 n, .int .i64 (s : Int)] w (NewB w (xs ++ be n s)) := by
  have h1 : (1 : Int) ≤ (s : Int) := by omega
  have h8 : (s : Int) ≤ 8 := by omega
  have H := Lib.hid h
  clear h
  go_enter Try.func28, Try.ntmps28
  go_wp2_with (at_builtin; refine wpList_appendI rfl (.tmp 9) (.tmp 10) 26 rfl .u8 w.heap.size 5 1 Try.underlying26 info5 (some ⟨w.heap.size, 0, none⟩) 0 0 [] rfl (ownI_new _ _ _) A m c xs rfl H.out.len (H.out.cells.alloc _) (by omega) (by omega) (by simp) ((Below.refl _ _).alloc (Nat.le_refl _) _) ?_; intro A' N c' w' HN HW HB hsz)
  have HW2 : Hid (OwnI .u8 5 w.heap.size w' A' N c' xs) := by have := HW.out; rw [List.nil_append] at this; exact this
  have hN : N = m := by have := HN.out; omega
  have HNN := Lib.hid hN
  clear hN HN HW hsz
  go_loopw [7, 8] (fun v i wr => ∃ (t : Nat) (ys : List Int) (A1 : Option Addr) (N1 c1 : Nat), t ≤ s ∧ i = .int .i64 ((t : Int) - 1) ∧ Hid (ys ++ be n t = xs ++ be n s) ∧ v = .slice A1 N1 c1 ∧ Hid (OwnI .u8 5 w.heap.size wr A1 N1 c1 ys) ∧ Hid (Below w.heap.size w wr) ∧ Hid (N1 + t = m + s)) (fun _ i _ => (intOf i + 1).toNat)
  case atStart => exact ⟨s, xs, A', N, c', Nat.le_refl _, by go_num, Lib.hid rfl, rfl, HW2, HB, Lib.hid (by rw [HNN.out])⟩
  case round =>
    obtain ⟨t, ys, A1, N1, c1, ht, hi, hys, rfl, hw, hb, hlen⟩ := hrel
    have hsz : w.heap.size ≤ wr.heap.size := hb.out.size
    cases t with
    | zero =>
      obtain rfl : u8 = Value.int .i64 (-1) := by rw [hi]; rfl
      go_wp2
      go_ret
      have e := hys.out
      simp only [be, List.append_nil] at e
      subst e
      exact ⟨_, _, _, rfl, hw.out.len.symm, hw.out, hb.out⟩
    | succ r =>
      obtain rfl : u8 = Value.int .i64 (r : Int) := by rw [hi]; go_num
      go_wp2_with (at_builtin; refine wpList_appendI rfl (.tmp 25) (.tmp 32) 26 rfl .u8 w.heap.size 5 1 Try.underlying26 info5 A1 N1 c1 ys rfl (hw.out.alloc _) (some ⟨wr.heap.size, 0, none⟩) 1 1 [n / 2 ^ (8 * r) % 256] rfl rfl (cells_new _ _ _ _ rfl) (by have := hlen.out; omega) (by have := hlen.out; omega) (by simp; omega) (hb.out.alloc hsz _) ?_; intro A2 N2 c2 w2 HN2 HW2' HB2 hsz2)
      go_roundw
      case rel => exact ⟨r, ys ++ [n / 2 ^ (8 * r) % 256], A2, N2, c2, by omega, by go_num, Lib.hid (be_step hys.out), rfl, HW2', HB2, Lib.hid (by have := HN2.out; have := hlen.out; omega)⟩
      case measure => simp [intOf]
end Go.Proofs.Ythncpkjnalmpkaa
