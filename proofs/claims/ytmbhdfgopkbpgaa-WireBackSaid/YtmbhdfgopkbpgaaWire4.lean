import Derived.Test.YtmbhdfgopkbpgaaWire3
namespace Go.Proofs.Ytmbhdfgopkbpgaa
open Go Go.RowKit

set_option maxHeartbeats 400000 in
theorem refput_none (A : Option Addr) (m c : Nat) (s : Int) (xs : List Int) (n : Int) (w : World) (hm : xs.length = m) (hr : Cells w A (u8s xs)) (hk : m ≤ 140737488355328) (hs : s < 1 ∨ 8 < s) :
    Calls Try.prog 11 #[.slice A m c, .int .u64 n, .int .i64 s] w (NewB w xs) := by
  have HM := Lib.hid hm
  clear hm
  have HR := Lib.hid hr
  clear hr
  have HO := Lib.hid (u8s_one xs)
  have key : ∀ (A' : Option Addr) (c' : Nat) (w' : World), w'.ownsRow w.heap.size 5 1 (.slice A' (0 + m) c') (0 + m) ([] ++ u8s xs) → Below w.heap.size w w' → NewB w xs (.returned (.slice A' m c')) w' := by
    intro A' c' w' hown hbel
    obtain rfl := HM.out
    simp only [Nat.zero_add, List.nil_append] at hown
    exact ⟨A', c', rfl, hown, hbel⟩
  have HKEY := Lib.hid key
  clear key
  rcases hs with hs | hs
  · have hd : decide (s < 1) = true := by simpa using hs
    go_enter Try.func11, Try.ntmps11
    go_wp2_with (at_builtin; refine wpList_appendS rfl (.tmp 9) (.tmp 10) 22 rfl w.heap.size 5 (.int .u8 0) 1 Try.underlying22 info5 rfl (some ⟨w.heap.size, 0, none⟩) 0 0 [] rfl (World.ownsRow_made w _ _ (Nat.le_refl _) (by unfold maxLen; omega) (by simp)) A m c (u8s xs) rfl (by rw [u8s_length]; exact HM.out) (HR.out.alloc _) HO.out (by unfold maxLen; omega) (by omega) (by simp) ((Below.refl _ _).alloc (Nat.le_refl _) _) ?_; intro A' c' w' hown hbel hsz)
    have H := HKEY.out A' c' w' hown hbel
    go_ret
    exact H
  · have h1 : (1 : Int) ≤ s := by omega
    have hd : decide (s < 1) = false := by simp; omega
    go_enter Try.func11, Try.ntmps11
    go_wp2_with (at_builtin; refine wpList_appendS rfl (.tmp 9) (.tmp 10) 22 rfl w.heap.size 5 (.int .u8 0) 1 Try.underlying22 info5 rfl (some ⟨w.heap.size, 0, none⟩) 0 0 [] rfl (World.ownsRow_made w _ _ (Nat.le_refl _) (by unfold maxLen; omega) (by simp)) A m c (u8s xs) rfl (by rw [u8s_length]; exact HM.out) (HR.out.alloc _) HO.out (by unfold maxLen; omega) (by omega) (by simp) ((Below.refl _ _).alloc (Nat.le_refl _) _) ?_; intro A' c' w' hown hbel hsz)
    have H := HKEY.out A' c' w' hown hbel
    go_ret
    exact H

/-- How much is missing to a multiple of 4. -/
def padN (n : Nat) : Nat := (4 - n % 4) % 4
theorem padN_lt (n : Nat) : padN n < 4 := by unfold padN; omega
theorem pad_neg (n : Int) (w : World) (h : n < 0) : Calls Try.prog 13 #[.int .i64 n] w fun e w' => e = .returned (.int .i64 0) ∧ w = w' := by
  go_enter Try.func13, Try.ntmps13
  go_wp2
  go_ret
  exact ⟨rfl, rfl⟩
theorem pad_any (n : Nat) (w : World) (h : (n : Int) ≤ 9223372036854775807) : Calls Try.prog 13 #[.int .i64 (n : Int)] w fun e w' => e = .returned (.int .i64 (padN n : Int)) ∧ w = w' := by
  have h0 : (0 : Int) ≤ (n : Int) := by omega
  have hx : (4 - (n : Int) % 4) % 4 = (padN n : Int) := by unfold padN; omega
  have HX := Lib.hid hx
  clear hx
  go_enter Try.func13, Try.ntmps13
  go_wp2
  go_ret
  refine ⟨?_, rfl⟩
  rw [← HX.out]; rfl
theorem refpad_neg (n : Int) (w : World) (h : n < 0) : Calls Try.prog 14 #[.int .i64 n] w fun e w' => e = .returned (.int .i64 0) ∧ w = w' := by
  have hd : decide (n < 0) = true := by simpa using h
  go_enter Try.func14, Try.ntmps14
  go_wp2
  go_ret
  exact ⟨rfl, rfl⟩
theorem refpad_any (n : Nat) (w : World) (h : (n : Int) ≤ 9223372036854775807) : Calls Try.prog 14 #[.int .i64 (n : Int)] w fun e w' => e = .returned (.int .i64 (padN n : Int)) ∧ w = w' := by
  have h0 : (0 : Int) ≤ (n : Int) := by omega
  have hd : decide ((n : Int) < 0) = false := by simp
  by_cases h4 : n % 4 = 0
  · have hb : ((n : Int) % 4 == 0) = true := by rw [beq_iff_eq]; omega
    have HX := Lib.hid (show padN n = 0 by unfold padN; omega)
    clear h4
    go_enter Try.func14, Try.ntmps14
    go_wp2
    go_ret
    exact ⟨by rw [HX.out]; rfl, rfl⟩
  · have hb : ((n : Int) % 4 == 0) = false := by rw [beq_eq_false_iff_ne]; omega
    have HX := Lib.hid (show (4 - (n : Int) % 4) = (padN n : Int) by unfold padN; omega)
    clear h4
    go_enter Try.func14, Try.ntmps14
    go_wp2
    go_ret
    exact ⟨by rw [← HX.out]; rfl, rfl⟩

set_option maxHeartbeats 400000 in
theorem padded_any (A : Option Addr) (m c : Nat) (xs : List Int) (w : World) (hm : xs.length = m) (hr : Cells w A (u8s xs)) (hk : m + 4 ≤ 140737488355328) :
    Calls Try.prog 12 #[.slice A m c] w fun e w' => e = .returned (.slice (some ⟨w.heap.size, 0, none⟩) (m + padN m) (m + padN m)) ∧ Hid (w'.heap[w.heap.size]? = some (.cells (u8s (xs ++ List.replicate (padN m) 0)).toArray 5 (0, 0))) ∧ Below w.heap.size w w' := by
  have HL := Lib.hid (show (u8s xs).length = m by simp [u8s, hm])
  have HO := Lib.hid (u8s_one xs)
  have HR := Lib.hid hr
  clear hr hm
  have hp := padN_lt m
  go_enter Try.func12, Try.ntmps12
  go_wp2_with (first
    | (go_at_call 13; refine (pad_any m _ (by omega)).mono ?_; rintro e w' ⟨rfl, rfl⟩)
    | (go_at_call 19; refine (ext_any A m c (padN m) (u8s xs) _ HL.out HR.out HO.out (by omega)).mono ?_; rintro e w' ⟨rfl, hrow, hbel⟩))
  go_ret
  exact ⟨rfl, (by have := hrow.out; show _ = _; simpa [u8s] using this), hbel⟩

theorem padN_step {k : Nat} (h : k % 4 ≠ 0) : padN k = padN (k + 1) + 1 := by unfold padN; omega
theorem padded_step {ys xs : List Int} {k : Nat} (h : ys ++ List.replicate (k + 1) 0 = xs) : (ys ++ [(0 : Int)]) ++ List.replicate k 0 = xs := by
  rw [← h, List.replicate_succ]; simp

theorem padded_len {ys xs : List Int} {t m : Nat} (h4 : padN ys.length = padN (ys.length + 1) + 1) (ht : t = padN ys.length) (h : ys ++ List.replicate t 0 = xs ++ List.replicate (padN m) 0) (hm : xs.length = m) : ys.length < m + 4 := by
  have := congrArg List.length h
  simp at this
  have := padN_lt m
  unfold padN at *
  omega
set_option maxHeartbeats 400000 in
theorem refpadded_any (A : Option Addr) (m c : Nat) (xs : List Int) (w : World) (hm : xs.length = m) (hr : Cells w A (u8s xs)) (hk : m + 4 ≤ 140737488355328) :
    Calls Try.prog 15 #[.slice A m c] w (NewB w (xs ++ List.replicate (padN m) 0)) := by
  have HM := Lib.hid hm
  clear hm
  have HR := Lib.hid hr
  clear hr
  have HO := Lib.hid (u8s_one xs)
  have hp := padN_lt m
  go_enter Try.func15, Try.ntmps15
  go_wp2_with (at_builtin; refine wpList_appendS rfl (.tmp 4) (.tmp 5) 22 rfl w.heap.size 5 (.int .u8 0) 1 Try.underlying22 info5 rfl (some ⟨w.heap.size, 0, none⟩) 0 0 [] rfl (World.ownsRow_made w _ _ (Nat.le_refl _) (by unfold maxLen; omega) (by simp)) A m c (u8s xs) rfl (by rw [u8s_length]; exact HM.out) (HR.out.alloc _) HO.out (by unfold maxLen; omega) (by omega) (by simp) ((Below.refl _ _).alloc (Nat.le_refl _) _) ?_; intro A' c' w' hown hbel hsz)
  have HW := Lib.hid (show w'.ownsRow w.heap.size 5 1 (.slice A' m c') m (u8s xs) by simpa using hown)
  have HB := Lib.hid hbel
  clear hown hbel hsz
  go_loopw [3] (fun v wr => ∃ (t : Nat) (ys : List Int) (A1 : Option Addr) (c1 : Nat), v = .slice A1 ys.length c1 ∧ Hid (t = padN ys.length) ∧ Hid (ys ++ List.replicate t 0 = xs ++ List.replicate (padN m) 0) ∧ Hid (wr.ownsRow w.heap.size 5 1 (.slice A1 ys.length c1) ys.length (u8s ys)) ∧ Hid (Below w.heap.size w wr) ∧ ys.length ≤ m + 4) (fun v _ => match v with | .slice _ n _ => padN n | _ => 0)
  case atStart => exact ⟨padN m, xs, A', c', by rw [HM.out], Lib.hid (by rw [HM.out]), Lib.hid rfl, by rw [HM.out]; exact HW, HB, by rw [HM.out]; omega⟩
  case round =>
    obtain ⟨t, ys, A1, c1, rfl, ht, hys, hw, hb, hlen⟩ := hrel
    have hsz : w.heap.size ≤ wr.heap.size := hb.out.size
    have h0 : (0 : Int) ≤ (ys.length : Int) := by omega
    by_cases h4 : ys.length % 4 = 0
    · have hd : ((ys.length : Int) % 4 == 0) = true := by rw [beq_iff_eq]; omega
      have hd' : ((ys.length : Int) % 4 != 0) = false := by simp; omega
      have HT := Lib.hid (show t = 0 by rw [ht.out]; unfold padN; omega)
      clear h4
      go_wp2
      go_ret
      have e := hys.out
      rw [HT.out] at e
      simp only [List.replicate_zero, List.append_nil] at e
      rw [← e]
      exact ⟨_, _, rfl, hw.out, hb.out⟩
    · have hd : ((ys.length : Int) % 4 == 0) = false := by rw [beq_eq_false_iff_ne]; omega
      have hd' : ((ys.length : Int) % 4 != 0) = true := by simp; omega
      have HT := Lib.hid (padN_step h4)
      have hlt : ys.length < m + 4 := padded_len HT.out ht.out hys.out HM.out
      clear h4
      go_wp2_with (at_builtin; refine wpList_appendS rfl (.tmp 11) (.tmp 12) 22 rfl w.heap.size 5 (.int .u8 0) 1 Try.underlying22 info5 rfl A1 ys.length c1 (u8s ys) rfl (hw.out.alloc _) (some ⟨wr.heap.size, 0, none⟩) 1 1 [.int .u8 0] rfl rfl (cells_new _ _ _ _ rfl) (by simp [Value.oneCell']) (by unfold maxLen; omega) (by omega) (by simp; omega) (hb.out.alloc hsz _) ?_; intro A2 c2 w2 hown2 hbel2 hsz2)
      go_roundw
      case rel => exact ⟨padN (ys.length + 1), ys ++ [0], A2, c2, by simp, Lib.hid (by simp), Lib.hid (padded_step (by have := hys.out; rw [ht.out, HT.out] at this; exact this)), Lib.hid (own_snoc hown2), Lib.hid hbel2, by simp; omega⟩
      case measure =>
        have e := HT.out
        show padN _ < padN _
        omega
end Go.Proofs.Ytmbhdfgopkbpgaa
