import Derived.Test.YtmbhdfgopkbpgaaGives
namespace Go.Proofs.Ytmbhdfgopkbpgaa
open Go Go.RowKit

theorem back_out (A : Option Addr) (m c : Nat) (n n2 s : Int) (w : World) (hs : s < 1 ∨ 8 < s) :
    Calls Try.prog 5 #[.slice A m c, .int .u64 n, .int .u64 n2, .int .i64 s] w fun e w' => e = .returned (.bool true) ∧ Below w.heap.size w w' := by
  have hu0 := Up.refl w
  rcases hs with hs | hs
  · have hd : decide (s < 1) = true := by simpa using hs
    go_enter Try.func5, Try.ntmps5
    go_wp2_with (first
      | (go_at_call 8; refine (answers_gives).mono ?_; rintro e w1 ⟨hu1, v1, rfl, rfl⟩; replace hu0 := Up.trans hu0 hu1; clear hu1))
    go_ret
    exact ⟨rfl, hu0⟩
  · have hd : decide (s < 1) = false := by simp; omega
    have hd8 : decide (8 < s) = true := by simpa using hs
    go_enter Try.func5, Try.ntmps5
    go_wp2_with (first
      | (go_at_call 8; refine (answers_gives).mono ?_; rintro e w1 ⟨hu1, v1, rfl, rfl⟩; replace hu0 := Up.trans hu0 hu1; clear hu1))
    go_ret
    exact ⟨rfl, hu0⟩

/-- What two Puts in a row answer. -/
def twoL (xs : List Int) (n n2 : Int) (s : Nat) : List Int := xs ++ be n s ++ be n2 s
theorem twoL_length (xs : List Int) (n n2 : Int) (s : Nat) : (twoL xs n n2 s).length = xs.length + 2 * s := by simp [twoL, be_length]; omega
theorem twoL_byte (xs : List Int) (n n2 : Int) (s : Nat) (h : ∀ x ∈ xs, 0 ≤ x ∧ x < 256) : ∀ x ∈ twoL xs n n2 s, 0 ≤ x ∧ x < 256 := by
  intro x hx
  simp only [twoL, List.mem_append] at hx
  rcases hx with (hx | hx) | hx
  · exact h x hx
  · exact be_byte n s x hx
  · exact be_byte n2 s x hx
theorem twoL_first (xs : List Int) (n n2 : Int) (s : Nat) : ((twoL xs n n2 s).drop xs.length).take s = be n s := by
  unfold twoL
  rw [List.append_assoc, List.drop_left, List.take_append_of_le_length (by rw [be_length]; exact Nat.le_refl _), List.take_of_length_le (by rw [be_length]; exact Nat.le_refl _)]
theorem twoL_second (xs : List Int) (n n2 : Int) (s : Nat) : ((twoL xs n n2 s).drop (xs.length + s)).take s = be n2 s := by
  unfold twoL
  have : xs.length + s = (xs ++ be n s).length := by simp [be_length]
  rw [this, List.drop_left, List.take_of_length_le (by rw [be_length]; exact Nat.le_refl _)]
theorem twoL_put (xs : List Int) (n n2 : Int) (s : Nat) (h1 : 1 ≤ s) (h8 : s ≤ 8) : putL (putL xs n s) n2 s = twoL xs n n2 s := by
  unfold putL
  rw [if_pos (by omega), if_pos (by omega), Int.toNat_natCast]; rfl
theorem put_len (xs : List Int) (n : Int) (s : Nat) (h1 : 1 ≤ s) (h8 : s ≤ 8) : (putL xs n s).length = xs.length + s := by
  unfold putL
  rw [if_pos (by omega), Int.toNat_natCast, List.length_append, be_length]

set_option maxHeartbeats 400000 in
theorem back_in (A : Option Addr) (c : Nat) (xs : List Int) (n n2 : Int) (s : Nat) (w : World) (hb : BytesOf xs (.slice A xs.length c) w) (hk : xs.length + 4096 ≤ 140737488355328) (hx : ∀ x ∈ xs, 0 ≤ x ∧ x < 256) (hn0 : 0 ≤ n) (hm0 : 0 ≤ n2) (h1 : 1 ≤ s) (h8 : s < 8) :
    Calls Try.prog 5 #[.slice A xs.length c, .int .u64 n, .int .u64 n2, .int .i64 (s : Int)] w fun e w' => e = .returned (.bool true) ∧ Below w.heap.size w w' := by
  have hd1 : decide ((s : Int) < 1) = false := by simp; omega
  have hd8 : decide (8 < (s : Int)) = false := by simp; omega
  have i1 : (1 : Int) ≤ (s : Int) := by omega
  have i8 : (s : Int) < 8 := by omega
  have im : (xs.length : Int) ≤ 140737488355328 := by omega
  have HB := Lib.hid hb
  have HX := Lib.hid hx
  have HE := Lib.hid (show (num 0 (be n s) == IntKind.u64.wrap (n * 2 ^ (64 - 8 * s)) / 2 ^ (64 - 8 * s)) = true by rw [num_be n hn0, shift_cut n s h8]; simp)
  have HE2 := Lib.hid (show (num 0 (be n2 s) == IntKind.u64.wrap (n2 * 2 ^ (64 - 8 * s)) / 2 ^ (64 - 8 * s)) = true by rw [num_be n2 hm0, shift_cut n2 s h8]; simp)
  have HA := Lib.hid (show IntKind.i64.wrap (2 * (s : Int)) = 2 * s by rw [IntKind.wrap_i64]; omega)
  have HA2 := Lib.hid (show IntKind.i64.wrap ((xs.length : Int) + 2 * s) = xs.length + 2 * s by rw [IntKind.wrap_i64]; omega)
  have HQ := Lib.hid (show ((((twoL xs n n2 s).length : Nat) : Int) == (xs.length : Int) + 2 * s) = true by rw [twoL_length]; simp)
  have HT := Lib.hid (show (twoL xs n n2 s).take xs.length = xs by rw [twoL, List.append_assoc, List.take_left])
  have HLe := Lib.hid (show xs.length ≤ (twoL xs n n2 s).length by rw [twoL_length]; omega)
  clear hb hx
  have HU := Lib.hid (Up.refl w)
  go_enter Try.func5, Try.ntmps5
  go_wp2_with (first
    | (go_at_call 8; refine (answers_gives).mono ?_; rintro e w1 ⟨hu1, v1, rfl, rfl⟩; replace HU := Lib.hid (Up.trans HU.out hu1); clear hu1)
    | (go_at_call 10; refine (own_gives (xs := xs) (IsS.up HB.out HU.out) (by omega)).mono ?_; rintro e w2 ⟨hu2, v2, rfl, hv2⟩)
    )
  refine (put_gives (xs := xs) hv2 (by omega)).mono ?_
  rintro e w3 ⟨hu3, v3, rfl, hv3⟩
  go_wp2_with fail
  refine (put_gives hv3 (by rw [put_len _ _ _ h1 (by omega)]; omega)).mono ?_
  rintro e w4 ⟨hu4, v4, rfl, hv4⟩
  rw [twoL_put xs n n2 s h1 (by omega)] at hv4
  have HV := Lib.hid hv4
  have HU2 := Lib.hid (Up.trans HU.out (Up.trans hu2 (Up.trans hu3 hu4)))
  have HLn := Lib.hid (twoL_length xs n n2 s)
  clear hv2 hv3 hv4 hu2 hu3 hu4 HU
  go_wp2_with fail
  refine (get_gives xs.length s rfl rfl HV.out (by rw [HLn.out]; omega) (by rw [HLn.out]; omega) h1 (by omega) (twoL_byte _ _ _ _ HX.out)).mono ?_
  rintro e w5 ⟨hu5, v5, rfl, hv5⟩
  rw [twoL_first] at hv5
  obtain rfl : v5 = _ := hv5
  go_wp2_with fail
  refine (get_gives (xs.length + s) s (by omega) rfl (IsS.up HV.out hu5) (by rw [HLn.out]; omega) (by rw [HLn.out]; omega) h1 (by omega) (twoL_byte _ _ _ _ HX.out)).mono ?_
  rintro e w6 ⟨hu6, v6, rfl, hv6⟩
  rw [twoL_second] at hv6
  obtain rfl : v6 = _ := hv6
  have HV6 := Lib.hid (IsS.up HV.out (Up.trans hu5 hu6))
  have HU6 := Lib.hid (Up.trans HU2.out (Up.trans hu5 hu6))
  clear HV HU2 hu5 hu6
  go_wp2
  refine steady_lit (by kernel_rfl) (facts [Is (.int .i64 0), Is (.bool true), Is (.bool true), Is (.int .i64 0), Is (.bool true), Is (.bool true), Is (.bool true), Is (.int .u64 (num 0 (be n s))), Is (.int .u64 (IntKind.u64.wrap (n * 2 ^ (64 - 8 * s)) / 2 ^ (64 - 8 * s))), Is (.bool true), Is (.bool true), Is (.bool true), Is (.int .u64 (num 0 (be n2 s))), Is (.int .u64 (IntKind.u64.wrap (n2 * 2 ^ (64 - 8 * s)) / 2 ^ (64 - 8 * s))), Is (.bool true), Is (.bool true), Is (.bool true), BytesOf (twoL xs n n2 s), Is (.int .i64 (((twoL xs n n2 s)).length : Nat)), BytesOf xs, Is (.int .i64 ((xs).length : Nat)), Is (.int .i64 (s : Int)), Is (.int .i64 (2 * (s : Int))), Is (.int .i64 ((xs.length : Int) + 2 * (s : Int))), Is (.bool true), Is (.bool true), Is (.bool true), BytesOf (twoL xs n n2 s), BytesOf xs, Is (.int .i64 ((xs).length : Nat)), BytesOf xs, Is (.string (strOfNums xs)), BytesOf xs, Is (.string (strOfNums xs)), Is (.bool true), Is (.bool true), Is (.bool true)])
    (facts_keep (by simp [keeps_is, keeps_bytes])) 111 rfl (by decide +kernel) (by decide +kernel) ?_ ?_
  · refine ⟨?_, ?_, ?_, ?_, ?_, ?_, ?_, ?_, ?_, ?_, ?_, ?_, ?_, ?_, ?_, ?_, ?_, ?_, ?_, ?_, ?_, ?_, ?_, ?_, ?_, ?_, ?_, ?_, ?_, ?_, ?_, ?_, ?_, ?_, ?_, ?_, ?_, trivial⟩
    · refine opOk_plain rfl fun a w1 hu ho hd => ?_
      have s11 := ho 11 rfl
      exact fine_move _ rfl s11
    · refine opOk_plain rfl fun a w1 hu ho hd => ?_
      have d0 := hd 0 _ _ rfl rfl rfl
      exact fine_eqi _ _ _ _ _ _ _ true rfl d0 (rfl : _ = _) (by simp) rfl
    · refine opOk_plain rfl fun a w1 hu ho hd => ?_
      have d1 := hd 1 _ _ rfl rfl rfl
      exact fine_move _ rfl d1
    · refine opOk_guard 2 true _ _ rfl rfl rfl rfl (fun v w h => h) fun a w1 hu ho hd => ?_
      have s13 := ho 13 rfl
      exact fine_move _ rfl s13
    · refine opOk_guard 2 true _ _ rfl rfl rfl rfl (fun v w h => h) fun a w1 hu ho hd => ?_
      have d3 := hd 3 _ _ rfl rfl rfl
      exact fine_eqi _ _ _ _ _ _ _ true rfl d3 (rfl : _ = _) (by simp) rfl
    · refine opOk_plain rfl fun a w1 hu ho hd => ?_
      have d2 := hd 2 _ _ rfl rfl rfl
      have d4 := hd 4 _ _ rfl rfl rfl
      exact fine_pick _ _ _ true rfl d2 d4
    · refine opOk_plain rfl fun a w1 hu ho hd => ?_
      have d5 := hd 5 _ _ rfl rfl rfl
      exact fine_move _ rfl d5
    · refine opOk_guard 6 true _ _ rfl rfl rfl rfl (fun v w h => h) fun a w1 hu ho hd => ?_
      have s10 := ho 10 rfl
      exact fine_move _ rfl s10
    · refine opOk_guard 6 true _ _ rfl rfl rfl rfl (fun v w h => h) fun a w1 hu ho hd => ?_
      have s1 := ho 1 rfl
      exact fine_move _ rfl s1
    · refine opOk_guard 6 true _ _ rfl rfl rfl rfl (fun v w h => h) fun a w1 hu ho hd => ?_
      have d7 := hd 7 _ _ rfl rfl rfl
      have d8 := hd 8 _ _ rfl rfl rfl
      exact fine_eqi _ _ _ _ _ _ _ true rfl d7 d8 (HE.out) rfl
    · refine opOk_plain rfl fun a w1 hu ho hd => ?_
      have d6 := hd 6 _ _ rfl rfl rfl
      have d9 := hd 9 _ _ rfl rfl rfl
      exact fine_pick _ _ _ true rfl d6 d9
    · refine opOk_plain rfl fun a w1 hu ho hd => ?_
      have d10 := hd 10 _ _ rfl rfl rfl
      exact fine_move _ rfl d10
    · refine opOk_guard 11 true _ _ rfl rfl rfl rfl (fun v w h => h) fun a w1 hu ho hd => ?_
      have s12 := ho 12 rfl
      exact fine_move _ rfl s12
    · refine opOk_guard 11 true _ _ rfl rfl rfl rfl (fun v w h => h) fun a w1 hu ho hd => ?_
      have s2 := ho 2 rfl
      exact fine_move _ rfl s2
    · refine opOk_guard 11 true _ _ rfl rfl rfl rfl (fun v w h => h) fun a w1 hu ho hd => ?_
      have d12 := hd 12 _ _ rfl rfl rfl
      have d13 := hd 13 _ _ rfl rfl rfl
      exact fine_eqi _ _ _ _ _ _ _ true rfl d12 d13 (HE2.out) rfl
    · refine opOk_plain rfl fun a w1 hu ho hd => ?_
      have d11 := hd 11 _ _ rfl rfl rfl
      have d14 := hd 14 _ _ rfl rfl rfl
      exact fine_pick _ _ _ true rfl d11 d14
    · refine opOk_plain rfl fun a w1 hu ho hd => ?_
      have d15 := hd 15 _ _ rfl rfl rfl
      exact fine_move _ rfl d15
    · refine opOk_guard 16 true _ _ rfl rfl rfl rfl (fun v w h => h) fun a w1 hu ho hd => ?_
      have s9 := ho 9 rfl
      exact fine_move _ rfl (by rw [show a.eval (.tmp 9) = _ from s9]; exact IsS.up HV6.out hu)
    · refine opOk_guard 16 true _ _ rfl rfl rfl rfl (fun v w h => h) fun a w1 hu ho hd => ?_
      have d17 := hd 17 _ _ rfl rfl rfl
      exact fine_lenB _ _ rfl d17 rfl
    · refine opOk_guard 16 true _ _ rfl rfl rfl rfl (fun v w h => h) fun a w1 hu ho hd => ?_
      have s0 := ho 0 rfl
      exact fine_move _ rfl (by rw [show a.eval (.tmp 0) = _ from s0]; exact IsS.up HB.out (Up.trans HU6.out hu))
    · refine opOk_guard 16 true _ _ rfl rfl rfl rfl (fun v w h => h) fun a w1 hu ho hd => ?_
      have d19 := hd 19 _ _ rfl rfl rfl
      exact fine_lenB _ _ rfl d19 rfl
    · refine opOk_guard 16 true _ _ rfl rfl rfl rfl (fun v w h => h) fun a w1 hu ho hd => ?_
      have s3 := ho 3 rfl
      exact fine_move _ rfl s3
    · refine opOk_guard 16 true _ _ rfl rfl rfl rfl (fun v w h => h) fun a w1 hu ho hd => ?_
      have d21 := hd 21 _ _ rfl rfl rfl
      exact fine_mul _ _ _ _ _ _ _ rfl (rfl : _ = _) d21 (congrArg (Value.int .i64) (HA.out))
    · refine opOk_guard 16 true _ _ rfl rfl rfl rfl (fun v w h => h) fun a w1 hu ho hd => ?_
      have d20 := hd 20 _ _ rfl rfl rfl
      have d22 := hd 22 _ _ rfl rfl rfl
      exact fine_add _ _ _ _ _ _ _ rfl d20 d22 (congrArg (Value.int .i64) (HA2.out))
    · refine opOk_guard 16 true _ _ rfl rfl rfl rfl (fun v w h => h) fun a w1 hu ho hd => ?_
      have d18 := hd 18 _ _ rfl rfl rfl
      have d23 := hd 23 _ _ rfl rfl rfl
      exact fine_eqi _ _ _ _ _ _ _ true rfl d18 d23 (HQ.out) rfl
    · refine opOk_plain rfl fun a w1 hu ho hd => ?_
      have d16 := hd 16 _ _ rfl rfl rfl
      have d24 := hd 24 _ _ rfl rfl rfl
      exact fine_pick _ _ _ true rfl d16 d24
    · refine opOk_plain rfl fun a w1 hu ho hd => ?_
      have d25 := hd 25 _ _ rfl rfl rfl
      exact fine_move _ rfl d25
    · refine opOk_guard 26 true _ _ rfl rfl rfl rfl (fun v w h => h) fun a w1 hu ho hd => ?_
      have s9 := ho 9 rfl
      exact fine_move _ rfl (by rw [show a.eval (.tmp 9) = _ from s9]; exact IsS.up HV6.out hu)
    · refine opOk_guard 26 true _ _ rfl rfl rfl rfl (fun v w h => h) fun a w1 hu ho hd => ?_
      have s0 := ho 0 rfl
      exact fine_move _ rfl (by rw [show a.eval (.tmp 0) = _ from s0]; exact IsS.up HB.out (Up.trans HU6.out hu))
    · refine opOk_guard 26 true _ _ rfl rfl rfl rfl (fun v w h => h) fun a w1 hu ho hd => ?_
      have d28 := hd 28 _ _ rfl rfl rfl
      exact fine_lenB _ _ rfl d28 rfl
    · refine opOk_guard 26 true _ _ rfl rfl rfl rfl (fun v w h => h) fun a w1 hu ho hd => ?_
      have d27 := hd 27 _ _ rfl rfl rfl
      have d29 := hd 29 _ _ rfl rfl rfl
      exact fine_sliceHi _ _ _ xs.length rfl d27 d29 (HLe.out) (fun v hv => by rw [HT.out] at hv; exact hv)
    · refine opOk_guard 26 true _ _ rfl rfl rfl rfl (fun v w h => h) fun a w1 hu ho hd => ?_
      have d30 := hd 30 _ _ rfl rfl rfl
      exact fine_convert _ _ _ _ rfl (conv_bytes d30) rfl
    · refine opOk_guard 26 true _ _ rfl rfl rfl rfl (fun v w h => h) fun a w1 hu ho hd => ?_
      have s0 := ho 0 rfl
      exact fine_move _ rfl (by rw [show a.eval (.tmp 0) = _ from s0]; exact IsS.up HB.out (Up.trans HU6.out hu))
    · refine opOk_guard 26 true _ _ rfl rfl rfl rfl (fun v w h => h) fun a w1 hu ho hd => ?_
      have d32 := hd 32 _ _ rfl rfl rfl
      exact fine_convert _ _ _ _ rfl (conv_bytes d32) rfl
    · refine opOk_guard 26 true _ _ rfl rfl rfl rfl (fun v w h => h) fun a w1 hu ho hd => ?_
      have d31 := hd 31 _ _ rfl rfl rfl
      have d33 := hd 33 _ _ rfl rfl rfl
      exact fine_eqs _ _ _ _ _ _ true rfl d31 d33 (by simp) rfl
    · refine opOk_plain rfl fun a w1 hu ho hd => ?_
      have d26 := hd 26 _ _ rfl rfl rfl
      have d34 := hd 34 _ _ rfl rfl rfl
      exact fine_pick _ _ _ true rfl d26 d34
    · refine opOk_plain rfl fun a w1 hu ho hd => ?_
      have d35 := hd 35 _ _ rfl rfl rfl
      exact fine_assign _ rfl d35
  · intro a w1 hI
    have hres := hI.get (i := 36) rfl rfl
    have hbel := Up.trans HU6.out hI.world
    have hdef := hI.defers
    clear hI
    go_wp2
    refine bodyPost_ret (results_tmp rfl _ _ _) hdef ?_
    exact ⟨congrArg Ending.returned hres, hbel⟩

set_option maxHeartbeats 400000 in
theorem back_eight (A : Option Addr) (c : Nat) (xs : List Int) (n n2 : Int) (s : Nat) (w : World) (hb : BytesOf xs (.slice A xs.length c) w) (hk : xs.length + 4096 ≤ 140737488355328) (hx : ∀ x ∈ xs, 0 ≤ x ∧ x < 256) (hn0 : 0 ≤ n) (hm0 : 0 ≤ n2) (h1 : 1 ≤ s) (h8 : s ≤ 8) (h9 : 8 ≤ s) (hn1 : n < 18446744073709551616) (hm1 : n2 < 18446744073709551616) :
    Calls Try.prog 5 #[.slice A xs.length c, .int .u64 n, .int .u64 n2, .int .i64 (s : Int)] w fun e w' => e = .returned (.bool true) ∧ Below w.heap.size w w' := by
  have hd1 : decide ((s : Int) < 1) = false := by simp; omega
  have hd8 : decide (8 < (s : Int)) = false := by simp; omega
  have i1 : (1 : Int) ≤ (s : Int) := by omega
  have i8 : (8 : Int) ≤ (s : Int) := by omega
  have im : (xs.length : Int) ≤ 140737488355328 := by omega
  have HB := Lib.hid hb
  have HX := Lib.hid hx
  have HE := Lib.hid (show (num 0 (be n s) == n) = true by rw [num_be n hn0, show s = 8 by omega]; simp; omega)
  have HE2 := Lib.hid (show (num 0 (be n2 s) == n2) = true by rw [num_be n2 hm0, show s = 8 by omega]; simp; omega)
  have HA := Lib.hid (show IntKind.i64.wrap (2 * (s : Int)) = 2 * s by rw [IntKind.wrap_i64]; omega)
  have HA2 := Lib.hid (show IntKind.i64.wrap ((xs.length : Int) + 2 * s) = xs.length + 2 * s by rw [IntKind.wrap_i64]; omega)
  have HQ := Lib.hid (show ((((twoL xs n n2 s).length : Nat) : Int) == (xs.length : Int) + 2 * s) = true by rw [twoL_length]; simp)
  have HT := Lib.hid (show (twoL xs n n2 s).take xs.length = xs by rw [twoL, List.append_assoc, List.take_left])
  have HLe := Lib.hid (show xs.length ≤ (twoL xs n n2 s).length by rw [twoL_length]; omega)
  clear hb hx
  have HU := Lib.hid (Up.refl w)
  go_enter Try.func5, Try.ntmps5
  go_wp2_with (first
    | (go_at_call 8; refine (answers_gives).mono ?_; rintro e w1 ⟨hu1, v1, rfl, rfl⟩; replace HU := Lib.hid (Up.trans HU.out hu1); clear hu1)
    | (go_at_call 10; refine (own_gives (xs := xs) (IsS.up HB.out HU.out) (by omega)).mono ?_; rintro e w2 ⟨hu2, v2, rfl, hv2⟩)
    )
  refine (put_gives (xs := xs) hv2 (by omega)).mono ?_
  rintro e w3 ⟨hu3, v3, rfl, hv3⟩
  go_wp2_with fail
  refine (put_gives hv3 (by rw [put_len _ _ _ h1 (by omega)]; omega)).mono ?_
  rintro e w4 ⟨hu4, v4, rfl, hv4⟩
  rw [twoL_put xs n n2 s h1 (by omega)] at hv4
  have HV := Lib.hid hv4
  have HU2 := Lib.hid (Up.trans HU.out (Up.trans hu2 (Up.trans hu3 hu4)))
  have HLn := Lib.hid (twoL_length xs n n2 s)
  clear hv2 hv3 hv4 hu2 hu3 hu4 HU
  go_wp2_with fail
  refine (get_gives xs.length s rfl rfl HV.out (by rw [HLn.out]; omega) (by rw [HLn.out]; omega) h1 (by omega) (twoL_byte _ _ _ _ HX.out)).mono ?_
  rintro e w5 ⟨hu5, v5, rfl, hv5⟩
  rw [twoL_first] at hv5
  obtain rfl : v5 = _ := hv5
  go_wp2_with fail
  refine (get_gives (xs.length + s) s (by omega) rfl (IsS.up HV.out hu5) (by rw [HLn.out]; omega) (by rw [HLn.out]; omega) h1 (by omega) (twoL_byte _ _ _ _ HX.out)).mono ?_
  rintro e w6 ⟨hu6, v6, rfl, hv6⟩
  rw [twoL_second] at hv6
  obtain rfl : v6 = _ := hv6
  have HV6 := Lib.hid (IsS.up HV.out (Up.trans hu5 hu6))
  have HU6 := Lib.hid (Up.trans HU2.out (Up.trans hu5 hu6))
  clear HV HU2 hu5 hu6
  go_wp2
  refine steady_lit (by kernel_rfl) (facts [Is (.int .i64 0), Is (.bool true), Is (.bool true), Is (.int .i64 0), Is (.bool true), Is (.bool true), Is (.bool true), Is (.int .u64 (num 0 (be n s))), Is (.int .u64 n), Is (.bool true), Is (.bool true), Is (.bool true), Is (.int .u64 (num 0 (be n2 s))), Is (.int .u64 n2), Is (.bool true), Is (.bool true), Is (.bool true), BytesOf (twoL xs n n2 s), Is (.int .i64 (((twoL xs n n2 s)).length : Nat)), BytesOf xs, Is (.int .i64 ((xs).length : Nat)), Is (.int .i64 (s : Int)), Is (.int .i64 (2 * (s : Int))), Is (.int .i64 ((xs.length : Int) + 2 * (s : Int))), Is (.bool true), Is (.bool true), Is (.bool true), BytesOf (twoL xs n n2 s), BytesOf xs, Is (.int .i64 ((xs).length : Nat)), BytesOf xs, Is (.string (strOfNums xs)), BytesOf xs, Is (.string (strOfNums xs)), Is (.bool true), Is (.bool true), Is (.bool true)])
    (facts_keep (by simp [keeps_is, keeps_bytes])) 111 rfl (by decide +kernel) (by decide +kernel) ?_ ?_
  · refine ⟨?_, ?_, ?_, ?_, ?_, ?_, ?_, ?_, ?_, ?_, ?_, ?_, ?_, ?_, ?_, ?_, ?_, ?_, ?_, ?_, ?_, ?_, ?_, ?_, ?_, ?_, ?_, ?_, ?_, ?_, ?_, ?_, ?_, ?_, ?_, ?_, ?_, trivial⟩
    · refine opOk_plain rfl fun a w1 hu ho hd => ?_
      have s11 := ho 11 rfl
      exact fine_move _ rfl s11
    · refine opOk_plain rfl fun a w1 hu ho hd => ?_
      have d0 := hd 0 _ _ rfl rfl rfl
      exact fine_eqi _ _ _ _ _ _ _ true rfl d0 (rfl : _ = _) (by simp) rfl
    · refine opOk_plain rfl fun a w1 hu ho hd => ?_
      have d1 := hd 1 _ _ rfl rfl rfl
      exact fine_move _ rfl d1
    · refine opOk_guard 2 true _ _ rfl rfl rfl rfl (fun v w h => h) fun a w1 hu ho hd => ?_
      have s13 := ho 13 rfl
      exact fine_move _ rfl s13
    · refine opOk_guard 2 true _ _ rfl rfl rfl rfl (fun v w h => h) fun a w1 hu ho hd => ?_
      have d3 := hd 3 _ _ rfl rfl rfl
      exact fine_eqi _ _ _ _ _ _ _ true rfl d3 (rfl : _ = _) (by simp) rfl
    · refine opOk_plain rfl fun a w1 hu ho hd => ?_
      have d2 := hd 2 _ _ rfl rfl rfl
      have d4 := hd 4 _ _ rfl rfl rfl
      exact fine_pick _ _ _ true rfl d2 d4
    · refine opOk_plain rfl fun a w1 hu ho hd => ?_
      have d5 := hd 5 _ _ rfl rfl rfl
      exact fine_move _ rfl d5
    · refine opOk_guard 6 true _ _ rfl rfl rfl rfl (fun v w h => h) fun a w1 hu ho hd => ?_
      have s10 := ho 10 rfl
      exact fine_move _ rfl s10
    · refine opOk_guard 6 true _ _ rfl rfl rfl rfl (fun v w h => h) fun a w1 hu ho hd => ?_
      have s1 := ho 1 rfl
      exact fine_move _ rfl s1
    · refine opOk_guard 6 true _ _ rfl rfl rfl rfl (fun v w h => h) fun a w1 hu ho hd => ?_
      have d7 := hd 7 _ _ rfl rfl rfl
      have d8 := hd 8 _ _ rfl rfl rfl
      exact fine_eqi _ _ _ _ _ _ _ true rfl d7 d8 (HE.out) rfl
    · refine opOk_plain rfl fun a w1 hu ho hd => ?_
      have d6 := hd 6 _ _ rfl rfl rfl
      have d9 := hd 9 _ _ rfl rfl rfl
      exact fine_pick _ _ _ true rfl d6 d9
    · refine opOk_plain rfl fun a w1 hu ho hd => ?_
      have d10 := hd 10 _ _ rfl rfl rfl
      exact fine_move _ rfl d10
    · refine opOk_guard 11 true _ _ rfl rfl rfl rfl (fun v w h => h) fun a w1 hu ho hd => ?_
      have s12 := ho 12 rfl
      exact fine_move _ rfl s12
    · refine opOk_guard 11 true _ _ rfl rfl rfl rfl (fun v w h => h) fun a w1 hu ho hd => ?_
      have s2 := ho 2 rfl
      exact fine_move _ rfl s2
    · refine opOk_guard 11 true _ _ rfl rfl rfl rfl (fun v w h => h) fun a w1 hu ho hd => ?_
      have d12 := hd 12 _ _ rfl rfl rfl
      have d13 := hd 13 _ _ rfl rfl rfl
      exact fine_eqi _ _ _ _ _ _ _ true rfl d12 d13 (HE2.out) rfl
    · refine opOk_plain rfl fun a w1 hu ho hd => ?_
      have d11 := hd 11 _ _ rfl rfl rfl
      have d14 := hd 14 _ _ rfl rfl rfl
      exact fine_pick _ _ _ true rfl d11 d14
    · refine opOk_plain rfl fun a w1 hu ho hd => ?_
      have d15 := hd 15 _ _ rfl rfl rfl
      exact fine_move _ rfl d15
    · refine opOk_guard 16 true _ _ rfl rfl rfl rfl (fun v w h => h) fun a w1 hu ho hd => ?_
      have s9 := ho 9 rfl
      exact fine_move _ rfl (by rw [show a.eval (.tmp 9) = _ from s9]; exact IsS.up HV6.out hu)
    · refine opOk_guard 16 true _ _ rfl rfl rfl rfl (fun v w h => h) fun a w1 hu ho hd => ?_
      have d17 := hd 17 _ _ rfl rfl rfl
      exact fine_lenB _ _ rfl d17 rfl
    · refine opOk_guard 16 true _ _ rfl rfl rfl rfl (fun v w h => h) fun a w1 hu ho hd => ?_
      have s0 := ho 0 rfl
      exact fine_move _ rfl (by rw [show a.eval (.tmp 0) = _ from s0]; exact IsS.up HB.out (Up.trans HU6.out hu))
    · refine opOk_guard 16 true _ _ rfl rfl rfl rfl (fun v w h => h) fun a w1 hu ho hd => ?_
      have d19 := hd 19 _ _ rfl rfl rfl
      exact fine_lenB _ _ rfl d19 rfl
    · refine opOk_guard 16 true _ _ rfl rfl rfl rfl (fun v w h => h) fun a w1 hu ho hd => ?_
      have s3 := ho 3 rfl
      exact fine_move _ rfl s3
    · refine opOk_guard 16 true _ _ rfl rfl rfl rfl (fun v w h => h) fun a w1 hu ho hd => ?_
      have d21 := hd 21 _ _ rfl rfl rfl
      exact fine_mul _ _ _ _ _ _ _ rfl (rfl : _ = _) d21 (congrArg (Value.int .i64) (HA.out))
    · refine opOk_guard 16 true _ _ rfl rfl rfl rfl (fun v w h => h) fun a w1 hu ho hd => ?_
      have d20 := hd 20 _ _ rfl rfl rfl
      have d22 := hd 22 _ _ rfl rfl rfl
      exact fine_add _ _ _ _ _ _ _ rfl d20 d22 (congrArg (Value.int .i64) (HA2.out))
    · refine opOk_guard 16 true _ _ rfl rfl rfl rfl (fun v w h => h) fun a w1 hu ho hd => ?_
      have d18 := hd 18 _ _ rfl rfl rfl
      have d23 := hd 23 _ _ rfl rfl rfl
      exact fine_eqi _ _ _ _ _ _ _ true rfl d18 d23 (HQ.out) rfl
    · refine opOk_plain rfl fun a w1 hu ho hd => ?_
      have d16 := hd 16 _ _ rfl rfl rfl
      have d24 := hd 24 _ _ rfl rfl rfl
      exact fine_pick _ _ _ true rfl d16 d24
    · refine opOk_plain rfl fun a w1 hu ho hd => ?_
      have d25 := hd 25 _ _ rfl rfl rfl
      exact fine_move _ rfl d25
    · refine opOk_guard 26 true _ _ rfl rfl rfl rfl (fun v w h => h) fun a w1 hu ho hd => ?_
      have s9 := ho 9 rfl
      exact fine_move _ rfl (by rw [show a.eval (.tmp 9) = _ from s9]; exact IsS.up HV6.out hu)
    · refine opOk_guard 26 true _ _ rfl rfl rfl rfl (fun v w h => h) fun a w1 hu ho hd => ?_
      have s0 := ho 0 rfl
      exact fine_move _ rfl (by rw [show a.eval (.tmp 0) = _ from s0]; exact IsS.up HB.out (Up.trans HU6.out hu))
    · refine opOk_guard 26 true _ _ rfl rfl rfl rfl (fun v w h => h) fun a w1 hu ho hd => ?_
      have d28 := hd 28 _ _ rfl rfl rfl
      exact fine_lenB _ _ rfl d28 rfl
    · refine opOk_guard 26 true _ _ rfl rfl rfl rfl (fun v w h => h) fun a w1 hu ho hd => ?_
      have d27 := hd 27 _ _ rfl rfl rfl
      have d29 := hd 29 _ _ rfl rfl rfl
      exact fine_sliceHi _ _ _ xs.length rfl d27 d29 (HLe.out) (fun v hv => by rw [HT.out] at hv; exact hv)
    · refine opOk_guard 26 true _ _ rfl rfl rfl rfl (fun v w h => h) fun a w1 hu ho hd => ?_
      have d30 := hd 30 _ _ rfl rfl rfl
      exact fine_convert _ _ _ _ rfl (conv_bytes d30) rfl
    · refine opOk_guard 26 true _ _ rfl rfl rfl rfl (fun v w h => h) fun a w1 hu ho hd => ?_
      have s0 := ho 0 rfl
      exact fine_move _ rfl (by rw [show a.eval (.tmp 0) = _ from s0]; exact IsS.up HB.out (Up.trans HU6.out hu))
    · refine opOk_guard 26 true _ _ rfl rfl rfl rfl (fun v w h => h) fun a w1 hu ho hd => ?_
      have d32 := hd 32 _ _ rfl rfl rfl
      exact fine_convert _ _ _ _ rfl (conv_bytes d32) rfl
    · refine opOk_guard 26 true _ _ rfl rfl rfl rfl (fun v w h => h) fun a w1 hu ho hd => ?_
      have d31 := hd 31 _ _ rfl rfl rfl
      have d33 := hd 33 _ _ rfl rfl rfl
      exact fine_eqs _ _ _ _ _ _ true rfl d31 d33 (by simp) rfl
    · refine opOk_plain rfl fun a w1 hu ho hd => ?_
      have d26 := hd 26 _ _ rfl rfl rfl
      have d34 := hd 34 _ _ rfl rfl rfl
      exact fine_pick _ _ _ true rfl d26 d34
    · refine opOk_plain rfl fun a w1 hu ho hd => ?_
      have d35 := hd 35 _ _ rfl rfl rfl
      exact fine_assign _ rfl d35
  · intro a w1 hI
    have hres := hI.get (i := 36) rfl rfl
    have hbel := Up.trans HU6.out hI.world
    have hdef := hI.defers
    clear hI
    go_wp2
    refine bodyPost_ret (results_tmp rfl _ _ _) hdef ?_
    exact ⟨congrArg Ending.returned hres, hbel⟩
end Go.Proofs.Ytmbhdfgopkbpgaa
