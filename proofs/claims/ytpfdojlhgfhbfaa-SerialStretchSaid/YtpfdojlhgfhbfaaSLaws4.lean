import Derived.Test.YtpfdojlhgfhbfaaSLaws3
import Derived.Test.YtpfdojlhgfhbfaaFrameI
namespace Go.Proofs.Ytpfdojlhgfhbfaa
open Go Go.RowKit
set_option linter.unusedVariables false
theorem within_v (v : Bool) (a b c : Int) (w : World) (h : inB a b c = v) : Calls Try.prog 14 #[.int .u32 a, .int .u32 b, .int .u32 c] w fun e w' => e = .returned (.bool v) ∧ Up w w' := by
  subst h; exact within a b c w
theorem in_low (a b : Int) : inB a b a = true := by unfold inB; simp; omega
theorem in_high (a b : Int) : inB a b b = true := by unfold inB; simp
theorem in_next (a b : Int) (ha : 0 ≤ a) (ha' : a ≤ 4294967295) : inB a b (IntKind.u32.wrap (b + 1)) = ((b + 1) % 4294967296 == a) := by
  rw [IntKind.wrap_u32']
  rw [Bool.eq_iff_iff]
  unfold inB
  rw [decide_eq_true_iff, beq_iff_eq]
  omega
theorem in_self (a x : Int) : inB a x x = true := by unfold inB; simp

theorem in_gt {a b x : Int} (h : (b - a) % 4294967296 < (x - a) % 4294967296) : inB a b x = false := by unfold inB; simp; omega
theorem in_le {a b x : Int} (h : (x - a) % 4294967296 ≤ (b - a) % 4294967296) : inB a b x = true := by unfold inB; simp; omega
set_option maxHeartbeats 400000 in
theorem law_stretch0 (a b : Int) (A : Option Addr) (cap : Nat) (w : World) (ha : 0 ≤ a) (ha' : a ≤ 4294967295) :
    Calls Try.prog 8 #[.int .u32 a, .int .u32 b, .slice A 0 cap] w (True2 w) := by
  have c3 : ∀ W, Calls Try.prog 14 #[.int .u32 a, .int .u32 b, .int .u32 (IntKind.u32.wrap (b + 1))] W fun e w' => e = .returned (.bool ((b + 1) % 4294967296 == a)) ∧ Up W w' := fun W => within_v _ a b _ W (in_next a b ha ha')
  have C3 := Lib.hid c3
  clear c3
  go_enter Try.func8, Try.ntmps8
  go_wp2_with fail
  refine (ans_ok _).mono ?_
  rintro e w5 ⟨rfl, hu5⟩
  go_wp2_with fail
  refine (within_v true _ _ _ _ (in_low a b)).mono ?_
  rintro e w6 ⟨rfl, hu6⟩
  go_wp2_with fail
  refine (within_v true _ _ _ _ (in_high a b)).mono ?_
  rintro e w7 ⟨rfl, hu7⟩
  go_wp2_with fail
  refine (C3.out _).mono ?_
  rintro e w8 ⟨rfl, hu8⟩
  have U8 := Lib.hid (((hu5.trans hu6).trans hu7).trans hu8)
  clear hu5 hu6 hu7 hu8
  go_wp2_with fail
  go_loop [7] (fun i => i = .int .i64 0) (fun _ => 0)
  case atStart => rfl
  case round =>
    subst hrel
    go_wp2
    go_ret
    exact ⟨rfl, U8.out⟩
set_option maxHeartbeats 400000 in
theorem law_stretch1 (a b : Int) (g o cap : Nat) (zs : List Int) (w : World) (ha : 0 ≤ a) (ha' : a ≤ 4294967295) (hg : g < w.heap.size) (hs : ∀ j u, (ints .u32 zs)[j]? = some u → w.cell? ⟨g, o + j, none⟩ = some u) (hl : zs.length ≤ 140737488355328) :
    Calls Try.prog 8 #[.int .u32 a, .int .u32 b, .slice (some ⟨g, o, none⟩) zs.length cap] w (True2 w) := by
  have HS := Lib.hid hs
  clear hs
  have c3 : ∀ W, Calls Try.prog 14 #[.int .u32 a, .int .u32 b, .int .u32 (IntKind.u32.wrap (b + 1))] W fun e w' => e = .returned (.bool ((b + 1) % 4294967296 == a)) ∧ Up W w' := fun W => within_v _ a b _ W (in_next a b ha ha')
  have C3 := Lib.hid c3
  clear c3
  go_enter Try.func8, Try.ntmps8
  go_wp2_with fail
  refine (ans_ok _).mono ?_
  rintro e w5 ⟨rfl, hu5⟩
  go_wp2_with fail
  refine (within_v true _ _ _ _ (in_low a b)).mono ?_
  rintro e w6 ⟨rfl, hu6⟩
  go_wp2_with fail
  refine (within_v true _ _ _ _ (in_high a b)).mono ?_
  rintro e w7 ⟨rfl, hu7⟩
  go_wp2_with fail
  refine (C3.out _).mono ?_
  rintro e w8 ⟨rfl, hu8⟩
  have U8 := Lib.hid (((hu5.trans hu6).trans hu7).trans hu8)
  clear hu5 hu6 hu7 hu8
  go_wp2_with fail
  go_loopw [7] (fun i wr => ∃ k : Nat, k ≤ zs.length ∧ k ≤ 50 ∧ i = .int .i64 k ∧ Hid (Up w wr)) (fun i _ => zs.length - (intOf i).toNat)
  case atStart => exact ⟨0, Nat.zero_le _, Nat.zero_le _, rfl, U8⟩
  case round =>
    obtain ⟨k, hk, hk5, rfl, HU⟩ := hrel
    by_cases hlt : k < zs.length
    · by_cases h50 : k < 50
      · have hi50 : (k : Int) < 50 := by omega
        obtain ⟨x, hx⟩ : ∃ x, zs[k]? = some x := ⟨zs[k], by simp [hlt]⟩
        have hcell : wr.cell? ⟨g, o + k, none⟩ = some (.int .u32 x) := (HU.out.cell (p := ⟨g, o + k, none⟩) hg).trans (HS.out k _ (by simp [ints, hx]))
        clear hx
        by_cases hgt : (b - a) % 4294967296 < (x - a) % 4294967296
        · go_wp2_with fail
          refine (within_v false _ _ _ _ (in_gt hgt)).mono ?_
          rintro e w9 ⟨rfl, hu9⟩
          go_wp2_with fail
          refine (within_v true _ _ _ _ (in_self a x)).mono ?_
          rintro e w10 ⟨rfl, hu10⟩
          go_wp2_with fail
          go_roundw
          case rel => exact ⟨k + 1, by omega, by omega, by go_num, Lib.hid (HU.out.trans (hu9.trans hu10))⟩
          case measure => simp [intOf]; omega
        · have hle : (x - a) % 4294967296 ≤ (b - a) % 4294967296 := by omega
          clear hgt
          go_wp2_with fail
          refine (within_v true _ _ _ _ (in_le hle)).mono ?_
          rintro e w9 ⟨rfl, hu9⟩
          go_wp2_with fail
          refine (within_v true _ _ _ _ (in_self a x)).mono ?_
          rintro e w10 ⟨rfl, hu10⟩
          go_wp2_with fail
          go_roundw
          case rel => exact ⟨k + 1, by omega, by omega, by go_num, Lib.hid (HU.out.trans (hu9.trans hu10))⟩
          case measure => simp [intOf]; omega
      · have hi50 : (50 : Int) ≤ (k : Int) := by omega
        go_wp2
        go_ret
        exact ⟨rfl, HU.out⟩
    · go_wp2
      go_ret
      exact ⟨rfl, HU.out⟩
theorem law_stretch (a b : Int) (A : Option Addr) (cap : Nat) (zs : List Int) (w : World) (ha : 0 ≤ a) (ha' : a ≤ 4294967295) (hs : IsS w (.slice A zs.length cap) (ints .u32 zs)) (hl : zs.length ≤ 140737488355328) :
    Calls Try.prog 8 #[.int .u32 a, .int .u32 b, .slice A zs.length cap] w (True2 w) := by
  obtain ⟨A', c, e, hc, hx⟩ := hs
  obtain rfl : A = A' := by injection e
  cases zs with
  | nil => exact law_stretch0 a b A cap w ha ha'
  | cons z zs =>
    obtain ⟨g, o, rfl, hg, hcell⟩ := hx (by simp [ints])
    exact law_stretch1 a b g o cap (z :: zs) w ha ha' hg hcell hl
end Go.Proofs.Ytpfdojlhgfhbfaa
