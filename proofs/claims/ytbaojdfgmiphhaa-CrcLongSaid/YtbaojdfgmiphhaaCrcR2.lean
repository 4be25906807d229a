import Derived.Test.YtbaojdfgmiphhaaCrcR
namespace Go.Proofs.Ytbaojdfgmiphhaa
open Go Go.RowKit
set_option linter.unusedVariables false
theorem rmore (A : Option Addr) (cap : Nat) (xs : List Int) (s : Nat) (w : World) (hs : s < 4294967296) (hb : Byt xs) (hl : xs.length ≤ 140737488355328) (hx : Cells w A (ints .u8 xs)) :
    Calls Try.prog 13 #[.int .u32 (s : Int), .slice A xs.length cap] w fun e w' => e = .returned (.int .u32 ((Crc.more s (nats xs) : Nat) : Int)) ∧ w = w' := by
  cases xs with
  | cons x xs =>
    obtain ⟨g, o, rfl, hlt, hc⟩ := hx (by simp [ints])
    exact rmore1 g o cap _ s w hs hb hl hc
  | nil =>
    have hi : ((Crc.inv s : Nat) : Int) = 4294967295 - (s : Int) := by rw [Crc.inv_sub hs]; omega
    have hil := Crc.inv_lt hs
    have ho : (s : Int) = 4294967295 - ((Crc.inv s : Nat) : Int) := by omega
    have HI := Lib.hid hi
    have HO := Lib.hid ho
    clear hi ho
    go_enter Try.func13, Try.ntmps13
    go_wp2_with fail
    rw [← HI.out]
    go_loop [5, 6] (fun c i => c = .int .u32 (Crc.inv s : Nat) ∧ i = .int .i64 0) (fun _ _ => 0)
    case atStart => exact ⟨rfl, rfl⟩
    case round =>
      obtain ⟨rfl, rfl⟩ := hrel
      go_wp2
      go_ret
      refine ⟨?_, rfl⟩
      have : Crc.more s (nats []) = s := Crc.inv_inv s
      rw [this]
      conv => rhs; rw [HO.out]
      rfl
theorem rsum (A : Option Addr) (cap : Nat) (xs : List Int) (w : World) (hb : Byt xs) (hl : xs.length ≤ 140737488355328) (hx : Cells w A (ints .u8 xs)) :
    Calls Try.prog 11 #[.slice A xs.length cap] w fun e w' => e = .returned (.int .u32 ((Crc.more 0 (nats xs) : Nat) : Int)) ∧ w = w' := by
  have HB := Lib.hid hb
  have HX := Lib.hid hx
  clear hb hx
  go_enter Try.func11, Try.ntmps11
  go_wp2_with fail
  refine (rmore A cap xs 0 w (by omega) HB.out hl HX.out).mono ?_
  rintro e w1 ⟨rfl, rfl⟩
  go_wp2_with fail
  go_ret
  exact ⟨rfl, rfl⟩
theorem rzeros (s n : Nat) (w : World) (hs : s < 4294967296) (hn : n ≤ 9223372036854775807) :
    Calls Try.prog 15 #[.int .u32 (s : Int), .int .i64 (n : Int)] w (U32 (Crc.zeros s n) w) := by
  go_enter Try.func15, Try.ntmps15
  go_wp2_with fail
  go_loopw [0, 5] (fun c i wr => ∃ k r : Nat, k ≤ n ∧ c = .int .u32 (r : Int) ∧ i = .int .i64 k ∧ Hid (r = Crc.zeros s k) ∧ r < 4294967296 ∧ Hid (Up w wr)) (fun _ i _ => n - (intOf i).toNat)
  case atStart => exact ⟨0, s, Nat.zero_le _, rfl, rfl, (Crc.zeros_zero s).symm, hs, Up.refl w⟩
  case round =>
    obtain ⟨k, r, hk, rfl, rfl, HR, hr, HU⟩ := hrel
    by_cases hlt : k < n
    · have hlti : (k : Int) < (n : Int) := by omega
      go_wp2_with fail
      refine (rmore1 wr.heap.size 0 1 [0] r _ hr (by intro x hx; simp at hx; omega) (by simp) ?_).mono ?_
      · intro j u hu
        cases j with
        | zero => simp [ints] at hu; subst hu; rw [cell_of_row _ _ _ _ _ _ (heap_alloc_new wr _)]; rfl
        | succ j => simp [ints] at hu
      rintro e w1 ⟨rfl, rfl⟩
      go_wp2_with fail
      go_roundw
      case rel => exact ⟨k + 1, _, by omega, rfl, by go_num, by show _ = _; rw [← Crc.more_zero, ← HR.out]; rfl, Crc.more_lt hr (by intro b hb; simp [nats] at hb; omega), HU.out.trans ((Below.refl _ _).alloc (Nat.le_refl _) _)⟩
      case measure => simp [intOf]; omega
    · obtain rfl : k = n := by omega
      go_wp2_with fail
      go_ret
      exact ⟨by rw [← HR.out]; rfl, HU.out⟩
end Go.Proofs.Ytbaojdfgmiphhaa
