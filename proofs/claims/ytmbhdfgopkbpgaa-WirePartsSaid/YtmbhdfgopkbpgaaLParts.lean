import Derived.Test.YtmbhdfgopkbpgaaGives
import Derived.Deep.QuietTactic
import Derived.BigQuiet
namespace Go.Proofs.Ytmbhdfgopkbpgaa
open Go Go.RowKit

theorem below_drewN {B : Nat} {a w : World} (h : Below B a w) (n : Nat) : Below B a (w.drewN n) := ⟨h.os, h.tape, h.output, h.size, h.block⟩
theorem str_append (a b : List Int) : strOfNums a ++ strOfNums b = strOfNums (a ++ b) := by
  apply ByteArray.ext
  simp [strOfNums, ByteArray.data_append]
theorem parts_eq (xs : List Int) (p q : Nat) (h : p ≤ q) :
    ((strOfNums (List.take p xs) ++ strOfNums (List.take (q - p) (List.drop p xs)) ++ strOfNums (List.take (xs.length - q) (List.drop q xs))).toList == (strOfNums xs).toList) = true := by
  rw [str_append, str_append, ← List.drop_take, List.take_of_length_le (l := List.drop q xs) (by simp)]
  have e1 : List.take p xs = List.take p (List.take q xs) := by rw [List.take_take, Nat.min_eq_left h]
  rw [e1, List.take_append_drop, List.take_append_drop]
  simp
set_option maxHeartbeats 400000 in
theorem parts_le (A : Option Addr) (c : Nat) (xs : List Int) (i j : Int) (p q : Nat) (w : World) (hb : BytesOf xs (.slice A xs.length c) w) (hk : xs.length + 4096 ≤ 140737488355328) (hi0 : 0 ≤ i) (hi1 : i < 65536) (hj0 : 0 ≤ j) (hj1 : j < 65536)
    (hp : i % ((xs.length : Int) + 1) = p) (hq : j % ((xs.length : Int) + 1) = q) (hpq : p ≤ q) :
    Calls Try.prog 6 #[.slice A xs.length c, .int .u16 i, .int .u16 j] w fun e w' => e = .returned (.bool true) ∧ Below w.heap.size w w' := by
  have HB := Lib.hid hb
  clear hb
  have i1 : (xs.length : Int) ≤ 140737488355328 := by omega
  have i2 : (0 : Int) < (xs.length : Int) + 1 := by omega
  have hn : ((xs.length : Int) + 1 == 0) = false := by simp; omega
  have hq1 : q ≤ xs.length := by have := Int.emod_lt_of_pos j i2; omega
  have hp1 : p ≤ xs.length := by omega
  have b1 : (strOfNums (List.take p xs)).size ≤ 140737488355328 := by rw [strOfNums_size, List.length_take]; omega
  have b2 : (strOfNums (List.take (q - p) (List.drop p xs))).size ≤ 140737488355328 := by rw [strOfNums_size, List.length_take, List.length_drop]; omega
  have b3 : (strOfNums (List.take (xs.length - q) (List.drop q xs))).size ≤ 140737488355328 := by rw [strOfNums_size, List.length_take, List.length_drop]; omega
  have HEQ := Lib.hid (parts_eq xs p q hpq)
  have HP := Lib.hid hp
  have HQ := Lib.hid hq
  clear hp hq
  go_enter Try.func6, Try.ntmps6
  go_wp2_with fail
  go_quiet (fail)
  rw [HP.out, HQ.out]
  have U0 : Up w (w.drewN nq) := below_drewN (Below.refl _ _) nq
  go_wp2_with fail
  refine (own_gives (xs := xs) (IsS.up HB.out U0) (by omega)).mono ?_
  rintro e w1 ⟨hu1, v1, rfl, hv1⟩
  go_wp2_with fail
  refine (part_gives 0 p (by omega) (by omega) hv1 (by omega) (by omega)).mono ?_
  rintro e w2 ⟨hu2, x1, rfl, hx1⟩
  have HX1 := Lib.hid hx1
  have U2 := Up.trans U0 (Up.trans hu1 hu2)
  clear hx1 hv1 hu1 hu2 U0
  go_wp2_with fail
  refine (own_gives (xs := xs) (IsS.up HB.out U2) (by omega)).mono ?_
  rintro e w3 ⟨hu3, v3, rfl, hv3⟩
  go_wp2_with fail
  refine (part_gives p (q - p) (by omega) (by omega) hv3 (by omega) (by omega)).mono ?_
  rintro e w4 ⟨hu4, x2, rfl, hx2⟩
  have HX2 := Lib.hid hx2
  have U4 := Up.trans U2 (Up.trans hu3 hu4)
  replace HX1 := Lib.hid (IsS.up HX1.out (Up.trans hu3 hu4))
  clear hx2 hv3 hu3 hu4 U2
  go_wp2_with fail
  refine (own_gives (xs := xs) (IsS.up HB.out U4) (by omega)).mono ?_
  rintro e w5 ⟨hu5, v5, rfl, hv5⟩
  go_wp2_with fail
  refine (part_gives q (xs.length - q) (by omega) (by omega) hv5 (by omega) (by omega)).mono ?_
  rintro e w6 ⟨hu6, x3, rfl, hx3⟩
  have HX3 := Lib.hid hx3
  have U6 := Up.trans U4 (Up.trans hu5 hu6)
  replace HX1 := Lib.hid (IsS.up HX1.out (Up.trans hu5 hu6))
  replace HX2 := Lib.hid (IsS.up HX2.out (Up.trans hu5 hu6))
  clear hx3 hv5 hu5 hu6 U4
  go_wp2_with fail
  refine (own_gives (xs := xs) (IsS.up HB.out U6) (by omega)).mono ?_
  rintro e w7 ⟨hu7, v7, rfl, hv7⟩
  go_wp2_with fail
  refine (short_gives q (xs.length + 1 - q) (by omega) (by omega) hv7 (by omega) (by omega) (by omega)).mono ?_
  rintro e w8 ⟨hu8, rfl⟩
  have U8 := Up.trans U6 (Up.trans hu7 hu8)
  replace HX1 := Lib.hid (IsS.up HX1.out (Up.trans hu7 hu8))
  replace HX2 := Lib.hid (IsS.up HX2.out (Up.trans hu7 hu8))
  replace HX3 := Lib.hid (IsS.up HX3.out (Up.trans hu7 hu8))
  clear hv7 hu7 hu8 U6
  go_wp2_with fail
  refine (answers_gives).mono ?_
  rintro e w9 ⟨hu9, v9, rfl, rfl⟩
  have c1 := conv_bytes (IsS.up HX1.out hu9)
  have c2 := conv_bytes (IsS.up HX2.out hu9)
  have c3 := conv_bytes (IsS.up HX3.out hu9)
  have c0 := conv_bytes (IsS.up HB.out (Up.trans U8 hu9))
  go_wp2_with fail
  go_ret
  exact ⟨by rw [← HEQ.out]; rfl, Up.trans U8 hu9⟩

set_option maxHeartbeats 400000 in
theorem parts_gt (A : Option Addr) (c : Nat) (xs : List Int) (i j : Int) (p q : Nat) (w : World) (hb : BytesOf xs (.slice A xs.length c) w) (hk : xs.length + 4096 ≤ 140737488355328) (hi0 : 0 ≤ i) (hi1 : i < 65536) (hj0 : 0 ≤ j) (hj1 : j < 65536)
    (hp : i % ((xs.length : Int) + 1) = q) (hq : j % ((xs.length : Int) + 1) = p) (hpq' : p < q) :
    Calls Try.prog 6 #[.slice A xs.length c, .int .u16 i, .int .u16 j] w fun e w' => e = .returned (.bool true) ∧ Below w.heap.size w w' := by
  have hpq : p ≤ q := by omega
  have HB := Lib.hid hb
  clear hb
  have i1 : (xs.length : Int) ≤ 140737488355328 := by omega
  have i2 : (0 : Int) < (xs.length : Int) + 1 := by omega
  have hn : ((xs.length : Int) + 1 == 0) = false := by simp; omega
  have hq1 : q ≤ xs.length := by have := Int.emod_lt_of_pos i i2; omega
  have hp1 : p ≤ xs.length := by omega
  have b1 : (strOfNums (List.take p xs)).size ≤ 140737488355328 := by rw [strOfNums_size, List.length_take]; omega
  have b2 : (strOfNums (List.take (q - p) (List.drop p xs))).size ≤ 140737488355328 := by rw [strOfNums_size, List.length_take, List.length_drop]; omega
  have b3 : (strOfNums (List.take (xs.length - q) (List.drop q xs))).size ≤ 140737488355328 := by rw [strOfNums_size, List.length_take, List.length_drop]; omega
  have HEQ := Lib.hid (parts_eq xs p q hpq)
  have HP := Lib.hid hp
  have HQ := Lib.hid hq
  clear hp hq
  go_enter Try.func6, Try.ntmps6
  go_wp2_with fail
  go_quiet (fail)
  rw [HP.out, HQ.out]
  have U0 : Up w (w.drewN nq) := below_drewN (Below.refl _ _) nq
  go_wp2_with fail
  refine (own_gives (xs := xs) (IsS.up HB.out U0) (by omega)).mono ?_
  rintro e w1 ⟨hu1, v1, rfl, hv1⟩
  go_wp2_with fail
  refine (part_gives 0 p (by omega) (by omega) hv1 (by omega) (by omega)).mono ?_
  rintro e w2 ⟨hu2, x1, rfl, hx1⟩
  have HX1 := Lib.hid hx1
  have U2 := Up.trans U0 (Up.trans hu1 hu2)
  clear hx1 hv1 hu1 hu2 U0
  go_wp2_with fail
  refine (own_gives (xs := xs) (IsS.up HB.out U2) (by omega)).mono ?_
  rintro e w3 ⟨hu3, v3, rfl, hv3⟩
  go_wp2_with fail
  refine (part_gives p (q - p) (by omega) (by omega) hv3 (by omega) (by omega)).mono ?_
  rintro e w4 ⟨hu4, x2, rfl, hx2⟩
  have HX2 := Lib.hid hx2
  have U4 := Up.trans U2 (Up.trans hu3 hu4)
  replace HX1 := Lib.hid (IsS.up HX1.out (Up.trans hu3 hu4))
  clear hx2 hv3 hu3 hu4 U2
  go_wp2_with fail
  refine (own_gives (xs := xs) (IsS.up HB.out U4) (by omega)).mono ?_
  rintro e w5 ⟨hu5, v5, rfl, hv5⟩
  go_wp2_with fail
  refine (part_gives q (xs.length - q) (by omega) (by omega) hv5 (by omega) (by omega)).mono ?_
  rintro e w6 ⟨hu6, x3, rfl, hx3⟩
  have HX3 := Lib.hid hx3
  have U6 := Up.trans U4 (Up.trans hu5 hu6)
  replace HX1 := Lib.hid (IsS.up HX1.out (Up.trans hu5 hu6))
  replace HX2 := Lib.hid (IsS.up HX2.out (Up.trans hu5 hu6))
  clear hx3 hv5 hu5 hu6 U4
  go_wp2_with fail
  refine (own_gives (xs := xs) (IsS.up HB.out U6) (by omega)).mono ?_
  rintro e w7 ⟨hu7, v7, rfl, hv7⟩
  go_wp2_with fail
  refine (short_gives q (xs.length + 1 - q) (by omega) (by omega) hv7 (by omega) (by omega) (by omega)).mono ?_
  rintro e w8 ⟨hu8, rfl⟩
  have U8 := Up.trans U6 (Up.trans hu7 hu8)
  replace HX1 := Lib.hid (IsS.up HX1.out (Up.trans hu7 hu8))
  replace HX2 := Lib.hid (IsS.up HX2.out (Up.trans hu7 hu8))
  replace HX3 := Lib.hid (IsS.up HX3.out (Up.trans hu7 hu8))
  clear hv7 hu7 hu8 U6
  go_wp2_with fail
  refine (answers_gives).mono ?_
  rintro e w9 ⟨hu9, v9, rfl, rfl⟩
  have c1 := conv_bytes (IsS.up HX1.out hu9)
  have c2 := conv_bytes (IsS.up HX2.out hu9)
  have c3 := conv_bytes (IsS.up HX3.out hu9)
  have c0 := conv_bytes (IsS.up HB.out (Up.trans U8 hu9))
  go_wp2_with fail
  go_ret
  exact ⟨by rw [← HEQ.out]; rfl, Up.trans U8 hu9⟩

end Go.Proofs.Ytmbhdfgopkbpgaa
