import Derived.Test.YtmbhdfgopkbpgaaWire2
namespace Go.Proofs.Ytmbhdfgopkbpgaa
open Go Go.RowKit

theorem refput_step {n : Int} {k : Nat} {ys xs : List Int} {s : Nat} (h : ys ++ be n (k + 1) = xs ++ be n s) : (ys ++ [n / 2 ^ (8 * k) % 256]) ++ be n k = xs ++ be n s := by
  rw [← h, be]; simp
theorem u8s_snoc (ys : List Int) (x : Int) : u8s ys ++ [Value.int .u8 x] = u8s (ys ++ [x]) := by simp [u8s]

theorem own_snoc {w : World} {base : Nat} {A : Option Addr} {c : Nat} {ys : List Int} {x : Int} (h : w.ownsRow base 5 1 (.slice A (ys.length + 1) c) (ys.length + 1) (u8s ys ++ [Value.int .u8 x])) :
    w.ownsRow base 5 1 (.slice A (ys ++ [x]).length c) (ys ++ [x]).length (u8s (ys ++ [x])) := by
  rw [u8s_snoc] at h
  simpa using h

set_option maxHeartbeats 400000 in
theorem refput_any (A : Option Addr) (m c : Nat) (s : Nat) (xs : List Int) (n : Int) (w : World) (hm : xs.length = m) (hr : Cells w A (u8s xs)) (hk : m + s ≤ 140737488355328) (hs1 : 1 ≤ s) (hs8 : s ≤ 8) :
    Calls Try.prog 11 #[.slice A m c, .int .u64 n, .int .i64 (s : Int)] w (NewB w (xs ++ be n s)) := by
  have h1 : (1 : Int) ≤ (s : Int) := by omega
  have h8 : (s : Int) ≤ 8 := by omega
  have HM := Lib.hid hm
  clear hm
  have HR := Lib.hid hr
  clear hr
  have HO := Lib.hid (u8s_one xs)
  go_enter Try.func11, Try.ntmps11
  go_wp2_with (at_builtin; refine wpList_appendS rfl (.tmp 9) (.tmp 10) 22 rfl w.heap.size 5 (.int .u8 0) 1 Try.underlying22 info5 rfl (some ⟨w.heap.size, 0, none⟩) 0 0 [] rfl (World.ownsRow_made w _ _ (Nat.le_refl _) (by unfold maxLen; omega) (by simp)) A m c (u8s xs) rfl (by rw [u8s_length]; exact HM.out) (HR.out.alloc _) HO.out (by unfold maxLen; omega) (by omega) (by simp) ((Below.refl _ _).alloc (Nat.le_refl _) _) ?_; intro A' c' w' hown hbel hsz)
  have HW := Lib.hid (show w'.ownsRow w.heap.size 5 1 (.slice A' m c') m (u8s xs) by simpa using hown)
  have HB := Lib.hid hbel
  have HL := Lib.hid (show m = xs.length from HM.out.symm)
  clear hown hbel hsz
  go_loopw [7, 8] (fun v i wr => ∃ (t : Nat) (ys : List Int) (A1 : Option Addr) (c1 : Nat), t ≤ s ∧ i = .int .i64 ((t : Int) - 1) ∧ Hid (ys ++ be n t = xs ++ be n s) ∧ v = .slice A1 ys.length c1 ∧ Hid (wr.ownsRow w.heap.size 5 1 (.slice A1 ys.length c1) ys.length (u8s ys)) ∧ Hid (Below w.heap.size w wr) ∧ ys.length + t = m + s) (fun _ i _ => (intOf i + 1).toNat)
  case atStart => exact ⟨s, xs, A', c', Nat.le_refl _, by go_num, Lib.hid rfl, by rw [HM.out], by rw [HM.out]; exact HW, HB, by rw [HM.out]⟩
  case round =>
    obtain ⟨t, ys, A1, c1, ht, hi, hys, rfl, hw, hb, hlen⟩ := hrel
    have hsz : w.heap.size ≤ wr.heap.size := hb.out.size
    cases t with
    | zero =>
      obtain rfl : u8 = Value.int .i64 (-1) := by rw [hi]; rfl
      go_wp2
      go_ret
      have e := hys.out
      simp only [be, List.append_nil] at e
      subst e
      exact ⟨_, _, rfl, hw.out, hb.out⟩
    | succ r =>
      obtain rfl : u8 = Value.int .i64 (r : Int) := by rw [hi]; go_num
      go_wp2_with (at_builtin; refine wpList_appendS rfl (.tmp 25) (.tmp 32) 22 rfl w.heap.size 5 (.int .u8 0) 1 Try.underlying22 info5 rfl A1 ys.length c1 (u8s ys) rfl (hw.out.alloc _) (some ⟨wr.heap.size, 0, none⟩) 1 1 [.int .u8 (n / 2 ^ (8 * r) % 256)] rfl rfl (cells_new _ _ _ _ rfl) (by simp [Value.oneCell']) (by unfold maxLen; omega) (by omega) (by simp; omega) (hb.out.alloc hsz _) ?_; intro A2 c2 w2 hown2 hbel2 hsz2)
      go_roundw
      case rel => exact ⟨r, ys ++ [n / 2 ^ (8 * r) % 256], A2, c2, by omega, by go_num, Lib.hid (refput_step hys.out), by simp, Lib.hid (own_snoc hown2), Lib.hid hbel2, by simp; omega⟩
      case measure => simp [intOf]
end Go.Proofs.Ytmbhdfgopkbpgaa
