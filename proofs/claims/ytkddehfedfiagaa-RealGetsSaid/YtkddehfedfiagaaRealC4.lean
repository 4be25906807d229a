import Derived.Test.YtkddehfedfiagaaRealC3
namespace Go.Proofs.Ytkddehfedfiagaa
open Go Go.RowKit
set_option linter.unusedVariables false
theorem get0 (A : Option Addr) (m c s : Nat) (xs : List Int) (w : World) (h : InB w A m c xs) (hk : m ≤ 140737488355328) (ha : m = s) (hs1 : 1 ≤ s) (hs8 : s ≤ 8) :
    Calls Try.prog 38 #[.slice A m c, .int .i64 0, .int .i64 (s : Int)] w fun e w' => e = .returned (.tuple #[.int .u64 (num 0 xs), .int .i64 0]) ∧ w = w' := by
  have e0 : (xs.drop 0).take s = xs := by rw [List.drop_zero, List.take_of_length_le (by rw [h.len]; omega)]
  have := get_any A m c 0 s xs w h hk (by omega) hs1 hs8
  rw [e0] at this
  exact this
theorem number_long (A : Option Addr) (m c s : Nat) (w : World) (ha : s < m) (hk : m ≤ 140737488355328) : Calls Try.prog 29 #[.slice A m c, .int .i64 (s : Int)] w fun e w' => e = .returned (.tuple #[.int .u64 0, .int .i64 2]) ∧ w = w' := by
  have a1 : (s : Int) < (m : Int) := by omega
  go_enter Try.func29, Try.ntmps29
  go_wp2_with fail
  go_ret2
  exact ⟨rfl, rfl⟩
theorem number_short (A : Option Addr) (m c s : Nat) (w : World) (ha : m < s) (hk : m ≤ 140737488355328) (hs8 : s ≤ 8) : Calls Try.prog 29 #[.slice A m c, .int .i64 (s : Int)] w fun e w' => e = .returned (.tuple #[.int .u64 0, .int .i64 3]) ∧ w = w' := by
  have a1 : (m : Int) ≤ (s : Int) := by omega
  have C := Lib.hid (fun W => get_short A m c 0 s W hk (by omega) (by omega) (by omega) hs8)
  go_enter Try.func29, Try.ntmps29
  go_wp2_with fail
  refine (C.out _).mono ?_
  rintro e w1 ⟨rfl, rfl⟩
  go_wp2_with fail
  go_ret2
  exact ⟨rfl, rfl⟩
theorem number_ok (A : Option Addr) (m c s : Nat) (xs : List Int) (w : World) (h : InB w A m c xs) (ha : m = s) (hs1 : 1 ≤ s) (hs8 : s ≤ 8) : Calls Try.prog 29 #[.slice A m c, .int .i64 (s : Int)] w fun e w' => e = .returned (.tuple #[.int .u64 (num 0 xs), .int .i64 0]) ∧ w = w' := by
  have a1 : (m : Int) ≤ (s : Int) := by omega
  have C := Lib.hid (get0 A m c s xs w h (by omega) ha hs1 hs8)
  clear h ha
  go_enter Try.func29, Try.ntmps29
  go_wp2_with fail
  refine C.out.mono ?_
  rintro e w1 ⟨rfl, rfl⟩
  go_wp2_with fail
  go_ret2
  exact ⟨rfl, rfl⟩
theorem can32_self {v : Nat} (h : nan32 v = false) : can32 v = v := by unfold can32; rw [h]; rfl
theorem can64_self {v : Nat} (h : Rl.nanB v = false) : can64 v = v := by unfold can64; rw [h]; rfl
theorem get32_0 (w : World) (A : Option Addr) (n cap : Nat) (k : Int) (h : ∀ W : World, Calls Try.prog 29 #[.slice A n cap, .int .i64 4] W fun e w' => e = .returned (.tuple #[.int .u64 0, .int .i64 k]) ∧ W = w') :
    Calls Try.prog 15 #[.slice A n cap] w fun e w' => e = .returned (.tuple #[.float .f32 0, .int .i64 k]) ∧ w = w' := by
  have C := Lib.hid h
  have C2 := Lib.hid (fun W => cplain32 0 W (by omega))
  have f1 : ∀ W : World, (callFunc 8 #[.int .u32 0]).run Try.prog W = .ok (.value (.float .f32 0)) W := fun W => run_f32from 0 W
  clear h
  go_enter Try.func15, Try.ntmps15
  go_wp2_with fail
  refine (C.out _).mono ?_
  rintro e w1 ⟨rfl, rfl⟩
  go_wp2_with fail
  refine (C2.out _).mono ?_
  rintro e w1 ⟨rfl, rfl⟩
  go_wp2_with fail
  go_ret2
  exact ⟨rfl, rfl⟩
theorem get64_0 (w : World) (A : Option Addr) (n cap : Nat) (k : Int) (h : ∀ W : World, Calls Try.prog 29 #[.slice A n cap, .int .i64 8] W fun e w' => e = .returned (.tuple #[.int .u64 0, .int .i64 k]) ∧ W = w') :
    Calls Try.prog 16 #[.slice A n cap] w fun e w' => e = .returned (.tuple #[.float .f64 0, .int .i64 k]) ∧ w = w' := by
  have C := Lib.hid h
  have C2 := Lib.hid (fun W => cplain64 0 W (by omega))
  have f1 : ∀ W : World, (callFunc 9 #[.int .u64 0]).run Try.prog W = .ok (.value (.float .f64 0)) W := fun W => run_f64from 0 W
  clear h
  go_enter Try.func16, Try.ntmps16
  go_wp2_with fail
  refine (C.out _).mono ?_
  rintro e w1 ⟨rfl, rfl⟩
  go_wp2_with fail
  refine (C2.out _).mono ?_
  rintro e w1 ⟨rfl, rfl⟩
  go_wp2_with fail
  go_ret2
  exact ⟨rfl, rfl⟩
theorem get32_v (w : World) (A : Option Addr) (n cap v : Nat) (hv : v < 4294967296) (h : Calls Try.prog 29 #[.slice A n cap, .int .i64 4] w fun e w' => e = .returned (.tuple #[.int .u64 (v : Int), .int .i64 0]) ∧ w = w') :
    Calls Try.prog 15 #[.slice A n cap] w fun e w' => e = .returned (.tuple #[.float .f32 (can32 v), .int .i64 0]) ∧ w = w' := by
  have C := Lib.hid h
  have C2 := Lib.hid (fun W => cplain32 v W hv)
  have f1 := fun W => run_f32from v W
  clear h
  go_enter Try.func15, Try.ntmps15
  go_wp2_with fail
  refine C.out.mono ?_
  rintro e w1 ⟨rfl, rfl⟩
  go_wp2_with fail
  refine (C2.out _).mono ?_
  rintro e w1 ⟨rfl, rfl⟩
  go_wp2_with fail
  go_ret2
  exact ⟨rfl, rfl⟩
theorem get64_v (w : World) (A : Option Addr) (n cap v : Nat) (hv : v < 18446744073709551616) (h : Calls Try.prog 29 #[.slice A n cap, .int .i64 8] w fun e w' => e = .returned (.tuple #[.int .u64 (v : Int), .int .i64 0]) ∧ w = w') :
    Calls Try.prog 16 #[.slice A n cap] w fun e w' => e = .returned (.tuple #[.float .f64 (can64 v), .int .i64 0]) ∧ w = w' := by
  have C := Lib.hid h
  have C2 := Lib.hid (fun W => cplain64 v W hv)
  have f1 := fun W => run_f64from v W
  clear h
  go_enter Try.func16, Try.ntmps16
  go_wp2_with fail
  refine C.out.mono ?_
  rintro e w1 ⟨rfl, rfl⟩
  go_wp2_with fail
  refine (C2.out _).mono ?_
  rintro e w1 ⟨rfl, rfl⟩
  go_wp2_with fail
  go_ret2
  exact ⟨rfl, rfl⟩
theorem get32_c : CGet32 := fun A n cap xs w h hk => by
  rcases Nat.lt_trichotomy n 4 with l | l | l
  · refine (get32_0 w A n cap 3 fun W => number_short A n cap 4 W l hk (by omega)).mono ?_
    rintro e w' ⟨rfl, rfl⟩
    exact ⟨Up.refl _, fun _ => rfl, fun h2 => absurd h2 (by omega), fun h2 => absurd h2 (by omega)⟩
  · have hn := num_bd xs h.byt
    rw [h.len, l] at hn
    have h256 : (256 : Int) ^ 4 = 4294967296 := by decide
    obtain ⟨v, hv⟩ := Int.eq_ofNat_of_zero_le hn.1
    have hvl : v < 4294967296 := by omega
    have c := number_ok A n cap 4 xs w h l (by omega) (by omega)
    rw [hv] at c
    refine (get32_v w A n cap v hvl c).mono ?_
    rintro e w' ⟨rfl, rfl⟩
    refine ⟨Up.refl _, fun h2 => absurd h2 (by omega), fun h2 => absurd h2 (by omega), fun _ => ⟨_, can32_lt hvl, rfl, fun hh => ?_⟩⟩
    rw [hv, Int.toNat_natCast] at hh ⊢
    exact can32_self hh
  · refine (get32_0 w A n cap 2 fun W => number_long A n cap 4 W l hk).mono ?_
    rintro e w' ⟨rfl, rfl⟩
    exact ⟨Up.refl _, fun h2 => absurd h2 (by omega), fun _ => rfl, fun h2 => absurd h2 (by omega)⟩
theorem get64_c : CGet64 := fun A n cap xs w h hk => by
  rcases Nat.lt_trichotomy n 8 with l | l | l
  · refine (get64_0 w A n cap 3 fun W => number_short A n cap 8 W l hk (by omega)).mono ?_
    rintro e w' ⟨rfl, rfl⟩
    exact ⟨Up.refl _, fun _ => rfl, fun h2 => absurd h2 (by omega), fun h2 => absurd h2 (by omega)⟩
  · have hn := num_u64 xs h.byt (by rw [h.len]; omega)
    obtain ⟨v, hv⟩ := Int.eq_ofNat_of_zero_le hn.1
    have hvl : v < 18446744073709551616 := by omega
    have c := number_ok A n cap 8 xs w h l (by omega) (by omega)
    rw [hv] at c
    refine (get64_v w A n cap v hvl c).mono ?_
    rintro e w' ⟨rfl, rfl⟩
    refine ⟨Up.refl _, fun h2 => absurd h2 (by omega), fun h2 => absurd h2 (by omega), fun _ => ⟨_, can64_lt hvl, rfl, fun hh => ?_⟩⟩
    rw [hv, Int.toNat_natCast] at hh ⊢
    exact can64_self hh
  · refine (get64_0 w A n cap 2 fun W => number_long A n cap 8 W l hk).mono ?_
    rintro e w' ⟨rfl, rfl⟩
    exact ⟨Up.refl _, fun h2 => absurd h2 (by omega), fun _ => rfl, fun h2 => absurd h2 (by omega)⟩
theorem put0 (s : Nat) (n : Int) (w : World) (hs1 : 1 ≤ s) (hs8 : s ≤ 8) : Calls Try.prog 26 #[.slice none 0 0, .int .u64 n, .int .i64 (s : Int)] w (NewB w (be n s)) := by
  refine (put_any none 0 0 s [] n w (inB_nil w) (by omega) hs1 hs8).mono ?_
  rintro e w' ⟨A, N, c, rfl, hN, ho, hu⟩
  exact ⟨A, N, c, rfl, by simpa using ho, hu⟩
theorem put32_c : CPut32 := fun x w hx => by
  have C := Lib.hid (fun W => cbits32 x W hx)
  have P := Lib.hid (put0 4 (can32 x : Nat) w (by omega) (by omega))
  have hl := can32_lt hx
  have HF := Lib.hid (show ((can32 x : Nat) : Int) % 18446744073709551616 = (can32 x : Nat) by omega)
  go_enter Try.func10, Try.ntmps10
  go_wp2_with fail
  refine (C.out _).mono ?_
  rintro e w1 ⟨rfl, rfl⟩
  go_wp2_with fail
  refine P.out.mono ?_
  rintro e w1 ⟨A, N, c, rfl, ho, hu⟩
  have HO := Lib.hid ho
  clear ho
  go_wp2_with fail
  go_ret
  exact ⟨A, N, c, rfl, HO.out, hu⟩
theorem put64_c : CPut64 := fun x w hx => by
  have C := Lib.hid (fun W => cbits64 x W hx)
  have P := Lib.hid (put0 8 (can64 x : Nat) w (by omega) (by omega))
  go_enter Try.func11, Try.ntmps11
  go_wp2_with fail
  refine (C.out _).mono ?_
  rintro e w1 ⟨rfl, rfl⟩
  go_wp2_with fail
  refine P.out.mono ?_
  rintro e w1 ⟨A, N, c, rfl, ho, hu⟩
  have HO := Lib.hid ho
  clear ho
  go_wp2_with fail
  go_ret
  exact ⟨A, N, c, rfl, HO.out, hu⟩
theorem answers_c : CAns := fun w => by
  have P := Lib.hid (put32_c 1065353216 w (by omega))
  have O := Lib.hid (fun W => order_c 4607182418800017408 4611686018427387904 W (by omega) (by omega))
  have e1 : Rl.ordF 4607182418800017408 4611686018427387904 = -1 := by decide
  have e2 : strOfNums (be ((can32 1065353216 : Nat) : Int) 4) = ⟨#[63, 128, 0, 0]⟩ := by decide
  rw [e1] at O
  have E2 := Lib.hid e2
  clear e1 e2
  go_enter Try.func14, Try.ntmps14
  go_wp2_with fail
  refine P.out.mono ?_
  rintro e w1 ⟨A, N, c, rfl, ho, hu⟩
  have k1 := (rd_of ho).out.conv
  rw [E2.out] at k1
  clear ho
  go_wp2_with fail
  refine (O.out _).mono ?_
  rintro e w2 ⟨rfl, u2⟩
  go_wp2_with fail
  go_ret
  exact ⟨rfl, hu.trans u2⟩
end Go.Proofs.Ytkddehfedfiagaa
