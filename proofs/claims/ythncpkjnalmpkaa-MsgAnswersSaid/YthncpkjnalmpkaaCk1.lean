import Derived.Test.YthncpkjnalmpkaaCk0
import Derived.Test.YthncpkjnalmpkaaWireC
import Derived.Test.YthncpkjnalmpkaaWRef
namespace Go.Proofs.Ythncpkjnalmpkaa
open Go Go.RowKit
set_option linter.unusedVariables false
/-! wire's Pad, Padded, Part, of the program and of the reference. -/
theorem pad_any (n : Nat) (w : World) (h : (n : Int) ≤ 9223372036854775807) : Calls Try.prog 37 #[.int .i64 (n : Int)] w fun e w' => e = .returned (.int .i64 (padN n : Int)) ∧ w = w' := by
  have h0 : (0 : Int) ≤ (n : Int) := by omega
  have hx : (4 - (n : Int) % 4) % 4 = (padN n : Int) := by unfold padN; omega
  have HX := Lib.hid hx
  clear hx
  go_enter Try.func37, Try.ntmps37
  go_wp2
  go_ret
  refine ⟨?_, rfl⟩
  rw [← HX.out]; rfl
theorem refpad_any (n : Nat) (w : World) (h : (n : Int) ≤ 9223372036854775807) : Calls Try.prog 54 #[.int .i64 (n : Int)] w fun e w' => e = .returned (.int .i64 (padN n : Int)) ∧ w = w' := by
  have h0 : (0 : Int) ≤ (n : Int) := by omega
  have hd : decide ((n : Int) < 0) = false := by simp
  by_cases h4 : n % 4 = 0
  · have hb : ((n : Int) % 4 == 0) = true := by rw [beq_iff_eq]; omega
    have HX := Lib.hid (show padN n = 0 by unfold padN; omega)
    clear h4
    go_enter Try.func54, Try.ntmps54
    go_wp2
    go_ret
    exact ⟨by rw [HX.out]; rfl, rfl⟩
  · have hb : ((n : Int) % 4 == 0) = false := by rw [beq_eq_false_iff_ne]; omega
    have HX := Lib.hid (show (4 - (n : Int) % 4) = (padN n : Int) by unfold padN; omega)
    clear h4
    go_enter Try.func54, Try.ntmps54
    go_wp2
    go_ret
    exact ⟨by rw [← HX.out]; rfl, rfl⟩
/-- A call answers a row of its own with these bytes. -/
def OwnB (ys : List Int) (w : World) (e : Ending) (w' : World) : Prop := ∃ A N c, e = .returned (.slice A N c) ∧ Hid (N = ys.length) ∧ Hid (OwnI .u8 5 w.heap.size w' A N c ys) ∧ Hid (Up w w')
set_option maxHeartbeats 400000 in
theorem padded_any (A : Option Addr) (m c : Nat) (xs : List Int) (w : World) (h : InB w A m c xs) (hk : m + 4 ≤ 140737488355328) :
    Calls Try.prog 65 #[.slice A m c] w (OwnB (padL xs) w) := by
  have HL := Lib.hid (show (ints .u8 xs).length = m by rw [ints_length]; exact h.len)
  have HM := Lib.hid h.len
  have HO := Lib.hid (ints_one .u8 xs)
  have HR := Lib.hid h.cells
  clear h
  have hp := padN_lt m
  go_enter Try.func65, Try.ntmps65
  go_wp2_with (first
    | (go_at_call 37; refine (pad_any m _ (by omega)).mono ?_; rintro e w' ⟨rfl, rfl⟩)
    | (go_at_call 60; refine (ext_any A m c (padN m) (ints .u8 xs) _ HL.out HR.out HO.out (by omega)).mono ?_; rintro e w' ⟨rfl, hrow, hbel⟩))
  go_ret
  have hr := hrow.out
  have e : (ints .u8 xs ++ List.replicate (padN m) (Value.int .u8 0)) = ints .u8 (padL xs) := by simp [padL, ints, HM.out]
  rw [e] at hr
  have el : (padL xs).length = m + padN m := by rw [padL_length, HM.out]
  exact ⟨_, _, _, rfl, Lib.hid el.symm, Lib.hid (ownI_row el (by unfold maxLen; omega) hr), Lib.hid hbel⟩
set_option maxHeartbeats 400000 in
theorem part_any (A : Option Addr) (m c a n : Nat) (xs : List Int) (w : World) (h : InB w A m c xs) (hk : m ≤ 140737488355328) (ha : a + n ≤ m) :
    Calls Try.prog 67 #[.slice A m c, .int .i64 (a : Int), .int .i64 (n : Int)] w fun e w' => ∃ A' N c', e = .returned (.tuple #[.slice A' N c', .int .i64 0]) ∧ Hid (N = n) ∧ Hid (OwnI .u8 5 w.heap.size w' A' N c' ((xs.drop a).take n)) ∧ Hid (Up w w') := by
  have HC := Lib.hid (show Cells w (A.map (·.add a)) (ints .u8 ((xs.drop a).take n)) by have := h.cells.cut a n; simpa [ints, List.map_take, List.map_drop] using this)
  have HL0 := Lib.hid (show ((xs.drop a).take n).length = n by simp [h.len]; omega)
  have HL := Lib.hid (show (ints .u8 ((xs.drop a).take n)).length = n by rw [ints_length]; exact HL0.out)
  have HO := Lib.hid (ints_one .u8 ((xs.drop a).take n))
  have ha0 : decide ((a : Int) < 0) = false := by simp
  have hn0 : decide ((n : Int) < 0) = false := by simp
  have hmi : (m : Int) ≤ 9223372036854775807 := by omega
  have hcap := h.cap
  clear h
  by_cases hca : c = a
  · subst hca
    obtain rfl : n = 0 := by omega
    obtain rfl : m = c := by omega
    have HC' := Lib.hid (show Cells w A (ints .u8 ((xs.drop m).take 0)) by simpa [ints] using Cells.nil w A)
    go_enter Try.func67, Try.ntmps67
    go_wp2_with (first
      | (go_at_call 68; refine (reaches_any _ m m (m : Int) 0 true _ hmi (by omega) (by omega) (by simp)).mono ?_; rintro e w' ⟨rfl, rfl⟩)
      | (go_at_call 60; refine (ext_any A 0 0 0 (ints .u8 ((xs.drop m).take 0)) _ HL.out HC'.out HO.out (by omega)).mono ?_; rintro e w' ⟨rfl, hrow, hbel⟩))
    go_ret2
    have hr := hrow.out
    rw [List.replicate_zero, List.append_nil] at hr
    exact ⟨_, _, _, rfl, Lib.hid rfl, Lib.hid (ownI_row (by rw [HL0.out]) (by unfold maxLen; omega) hr), Lib.hid hbel⟩
  · go_enter Try.func67, Try.ntmps67
    go_wp2_with (first
      | (go_at_call 68; refine (reaches_any _ m c (a : Int) (n : Int) true _ hmi (by omega) (by omega) (by simp; omega)).mono ?_; rintro e w' ⟨rfl, rfl⟩)
      | (go_at_call 60; refine (ext_any (A.map (·.add a)) n (c - a) 0 (ints .u8 ((xs.drop a).take n)) _ HL.out HC.out HO.out (by omega)).mono ?_; rintro e w' ⟨rfl, hrow, hbel⟩))
    go_ret2
    have hr := hrow.out
    rw [List.replicate_zero, List.append_nil] at hr
    exact ⟨_, _, _, rfl, Lib.hid rfl, Lib.hid (ownI_row (by rw [HL0.out]) (by unfold maxLen; omega) hr), Lib.hid hbel⟩
theorem part_short (A : Option Addr) (m c a n : Nat) (w : World) (hk : m ≤ 140737488355328) (ha : m < a + n) (ha2 : a ≤ 140737488355328) :
    Calls Try.prog 67 #[.slice A m c, .int .i64 (a : Int), .int .i64 (n : Int)] w fun e w' => e = .returned (.tuple #[.slice none 0 0, .int .i64 3]) ∧ w' = w := by
  have ha0 : decide ((a : Int) < 0) = false := by simp
  have hn0 : decide ((n : Int) < 0) = false := by simp
  have hmi : (m : Int) ≤ 9223372036854775807 := by omega
  go_enter Try.func67, Try.ntmps67
  go_wp2_with (go_at_call 68; refine (reaches_any _ m c (a : Int) (n : Int) false _ hmi (by omega) (by omega) (by simp; omega)).mono ?_; rintro e w' ⟨rfl, rfl⟩)
  go_ret2
  exact ⟨rfl, rfl⟩
theorem part_neg (A : Option Addr) (m c a : Nat) (n : Int) (w : World) (hn : n < 0) :
    Calls Try.prog 67 #[.slice A m c, .int .i64 (a : Int), .int .i64 n] w fun e w' => e = .returned (.tuple #[.slice none 0 0, .int .i64 1]) ∧ w' = w := by
  have ha0 : decide ((a : Int) < 0) = false := by simp
  have hn0 : decide (n < 0) = true := by simp [hn]
  go_enter Try.func67, Try.ntmps67
  go_wp2
  go_ret2
  exact ⟨rfl, rfl⟩
theorem padN_step {k : Nat} (h : k % 4 ≠ 0) : padN k = padN (k + 1) + 1 := by unfold padN; omega
set_option maxHeartbeats 400000 in
theorem refpadded_any (A : Option Addr) (m c : Nat) (xs : List Int) (w : World) (h : InB w A m c xs) (hk : m + 4 ≤ 140737488355328) :
    Calls Try.prog 52 #[.slice A m c] w (OwnB (padL xs) w) := by
  have H := Lib.hid h
  clear h
  have hp := padN_lt m
  go_enter Try.func52, Try.ntmps52
  go_wp2_with (at_builtin; refine wpList_appendI rfl (.tmp 4) (.tmp 5) 26 rfl .u8 w.heap.size 5 1 Try.underlying26 info5 (some ⟨w.heap.size, 0, none⟩) 0 0 [] rfl (ownI_new _ _ _) A m c xs rfl H.out.len (H.out.cells.alloc _) (by omega) (by omega) (by simp) ((Below.refl _ _).alloc (Nat.le_refl _) _) ?_; intro A' N c' w' HN HW HB hsz)
  have HW2 : Hid (OwnI .u8 5 w.heap.size w' A' N c' xs) := by have := HW.out; rw [List.nil_append] at this; exact this
  have hN : N = m := by have := HN.out; omega
  have HNN := Lib.hid hN
  clear hN HN HW hsz
  go_loopw [3] (fun v wr => ∃ (t : Nat) (ys : List Int) (A1 : Option Addr) (N1 c1 : Nat), v = .slice A1 N1 c1 ∧ Hid (t = padN N1) ∧ Hid (ys ++ List.replicate t 0 = padL xs) ∧ Hid (OwnI .u8 5 w.heap.size wr A1 N1 c1 ys) ∧ Hid (Below w.heap.size w wr) ∧ Hid (N1 + t = m + padN m)) (fun v _ => match v with | .slice _ n _ => padN n | _ => 0)
  case atStart => exact ⟨padN m, xs, A', N, c', rfl, Lib.hid (by rw [HNN.out]), Lib.hid (by unfold padL; rw [H.out.len]), HW2, HB, Lib.hid (by rw [HNN.out])⟩
  case round =>
    obtain ⟨t, ys, A1, N1, c1, rfl, ht, hys, hw, hb, hlen⟩ := hrel
    have hsz : w.heap.size ≤ wr.heap.size := hb.out.size
    have h0 : (0 : Int) ≤ (N1 : Int) := by omega
    have hN1 : N1 ≤ m + 4 := by have := hlen.out; omega
    by_cases h4 : N1 % 4 = 0
    · have hd : ((N1 : Int) % 4 == 0) = true := by rw [beq_iff_eq]; omega
      have hd' : ((N1 : Int) % 4 != 0) = false := by simp; omega
      have HT := Lib.hid (show t = 0 by rw [ht.out]; unfold padN; omega)
      clear h4
      go_wp2
      go_ret
      have e := hys.out
      rw [HT.out] at e
      simp only [List.replicate_zero, List.append_nil] at e
      have hl := hw.out.len
      exact ⟨_, _, _, rfl, Lib.hid (by rw [← e]; exact hl.symm), Lib.hid (by rw [← e]; exact hw.out), Lib.hid hb.out⟩
    · have hd : ((N1 : Int) % 4 == 0) = false := by rw [beq_eq_false_iff_ne]; omega
      have hd' : ((N1 : Int) % 4 != 0) = true := by simp; omega
      have HT := Lib.hid (padN_step h4)
      have hN2 : N1 + 1 ≤ m + 3 := by have := hlen.out; have := ht.out; have := HT.out; omega
      clear h4
      go_wp2_with (at_builtin; refine wpList_appendI rfl (.tmp 11) (.tmp 12) 26 rfl .u8 w.heap.size 5 1 Try.underlying26 info5 A1 N1 c1 ys rfl (hw.out.alloc _) (some ⟨wr.heap.size, 0, none⟩) 1 1 [0] rfl rfl (cells_new _ _ _ _ rfl) (by omega) (by omega) (by simp; omega) (hb.out.alloc hsz _) ?_; intro A2 N2 c2 w2 HN2 HW2' HB2 hsz2)
      go_roundw
      case rel => exact ⟨padN (N1 + 1), ys ++ [0], A2, N2, c2, rfl, Lib.hid (by rw [HN2.out]), Lib.hid (by have e := hys.out; rw [← e, ht.out, HT.out, List.replicate_succ]; simp), HW2', HB2, Lib.hid (by have := HN2.out; have := hlen.out; have := ht.out; have := HT.out; omega)⟩
      case measure =>
        have e := HT.out
        have e2 := HN2.out
        show padN _ < padN _
        rw [e2]
        omega
end Go.Proofs.Ythncpkjnalmpkaa
