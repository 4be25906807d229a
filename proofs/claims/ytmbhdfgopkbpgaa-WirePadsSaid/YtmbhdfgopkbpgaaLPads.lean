import Derived.Test.YtmbhdfgopkbpgaaGives
namespace Go.Proofs.Ytmbhdfgopkbpgaa
open Go Go.RowKit

theorem pads_len (xs : List Int) (m : Nat) (hm : m = xs.length) (hk : xs.length + 9 ≤ 140737488355328) : (((padL xs).length : Nat) : Int).tmod 4 = 0 ∧ IntKind.i64.wrap ((m : Int) + padI ((m : Nat) : Int)) = ((padL xs).length : Nat) := by
  have h1 := padL_length xs
  have h2 := padN_lt m
  have h3 : (padL xs).length % 4 = 0 := by rw [h1]; unfold padN; omega
  refine ⟨by rw [Int.tmod_eq_emod_of_nonneg (by omega)]; omega, ?_⟩
  have h4 : padI ((m : Nat) : Int) = (padN m : Int) := by unfold padI; rw [if_neg (by omega), Int.toNat_natCast]
  rw [h4, IntKind.wrap_i64, h1, ← hm]
  omega

set_option maxHeartbeats 400000 in
theorem walk_pads (A : Option Addr) (m c : Nat) (xs : List Int) (n : Int) (w : World) (hb : BytesOf xs (.slice A m c) w) (hk : xs.length + 9 ≤ 140737488355328) (hn : n ≤ 9223372036854775807) :
    Calls Try.prog 4 #[.slice A m c, .int .i64 n] w fun e w' => e = .returned (.bool true) ∧ Below w.heap.size w w' := by
  have hm : m = xs.length := by obtain ⟨_, _, e, _⟩ := hb; rw [u8s_length] at e; injection e
  have HR4 := Lib.hid (pads_len xs m hm hk).1
  have HR5 := Lib.hid (pads_len xs m hm hk).2
  have hm1 : m + 9 ≤ 140737488355328 := by omega
  clear hm
  have HB := Lib.hid hb
  clear hb
  go_enter Try.func4, Try.ntmps4
  go_wp2_with (first
    | (go_at_call 10; refine (own_gives HB.out hk).mono ?_; rintro e w1 ⟨hu1, v1, rfl, hv1⟩)
    | (go_at_call 12; refine (padded_gives hv1 hk).mono ?_; rintro e w2 ⟨hu2, v2, rfl, hv2⟩))
  have HP := Lib.hid hv2
  have HU := Lib.hid (Up.trans hu1 hu2)
  clear hv1 hv2 hu1 hu2
  refine steady_lit (by kernel_rfl) (facts [Is (.bool true), Is (.bool true), Is (.int .i64 n), Is (.int .i64 (padI n)), Is (.int .i64 n), Is (.int .i64 (padI n)), Is (.bool true), Is (.bool true), Is (.bool true), BytesOf (padL xs), Is (.string (strOfNums (padL xs))), Is (.slice A m c), BytesOf (padL xs), Is (.string (strOfNums (padL xs))), Is (.bool true), Is (.bool true), Is (.bool true), BytesOf (padL xs), Is (.int .i64 (((padL xs)).length : Nat)), Is (.int .i64 0), Is (.bool true), Is (.bool true), Is (.bool true), BytesOf (padL xs), Is (.int .i64 (((padL xs)).length : Nat)), Is (.slice A m c), Is (.int .i64 (m : Nat)), Is (.slice A m c), Is (.int .i64 (m : Nat)), Is (.int .i64 (padI ((m : Nat) : Int))), Is (.int .i64 ((padL xs).length : Nat)), Is (.bool true), Is (.bool true), Is (.bool true)])
    (facts_keep (by simp [keeps_is, keeps_bytes])) 42 rfl (by decide +kernel) (by decide +kernel) ?_ ?_
  · refine ⟨?_, ?_, ?_, ?_, ?_, ?_, ?_, ?_, ?_, ?_, ?_, ?_, ?_, ?_, ?_, ?_, ?_, ?_, ?_, ?_, ?_, ?_, ?_, ?_, ?_, ?_, ?_, ?_, ?_, ?_, ?_, ?_, ?_, ?_, trivial⟩
    · refine opOk_plain rfl fun a w1 hu ho hd => ?_
      exact fine_fcall 8 [] _ rfl (by kernel_rfl) answers_gives
    · refine opOk_plain rfl fun a w1 hu ho hd => ?_
      have d0 := hd 0 _ _ rfl rfl rfl
      exact fine_move _ rfl d0
    · refine opOk_guard 1 true _ _ rfl rfl rfl rfl (fun v w h => h) fun a w1 hu ho hd => ?_
      have s1 := ho 1 rfl
      exact fine_move _ rfl s1
    · refine opOk_guard 1 true _ _ rfl rfl rfl rfl (fun v w h => h) fun a w1 hu ho hd => ?_
      have d2 := hd 2 _ _ rfl rfl rfl
      exact fine_fcall 13 [.tmp 11] _ rfl (by kernel_rfl) (by simp only [List.map_cons, List.map_nil, show a.eval (.tmp 11) = (.int .i64 n) from d2]; exact (pad_gives hn))
    · refine opOk_guard 1 true _ _ rfl rfl rfl rfl (fun v w h => h) fun a w1 hu ho hd => ?_
      have s1 := ho 1 rfl
      exact fine_move _ rfl s1
    · refine opOk_guard 1 true _ _ rfl rfl rfl rfl (fun v w h => h) fun a w1 hu ho hd => ?_
      have d4 := hd 4 _ _ rfl rfl rfl
      exact fine_fcall 14 [.tmp 13] _ rfl (by kernel_rfl) (by simp only [List.map_cons, List.map_nil, show a.eval (.tmp 13) = (.int .i64 n) from d4]; exact (refpad_gives hn))
    · refine opOk_guard 1 true _ _ rfl rfl rfl rfl (fun v w h => h) fun a w1 hu ho hd => ?_
      have d3 := hd 3 _ _ rfl rfl rfl
      have d5 := hd 5 _ _ rfl rfl rfl
      exact fine_eqi _ _ _ _ _ _ _ true rfl d3 d5 (by simp) rfl
    · refine opOk_plain rfl fun a w1 hu ho hd => ?_
      have d1 := hd 1 _ _ rfl rfl rfl
      have d6 := hd 6 _ _ rfl rfl rfl
      exact fine_pick _ _ _ true rfl d1 d6
    · refine opOk_plain rfl fun a w1 hu ho hd => ?_
      have d7 := hd 7 _ _ rfl rfl rfl
      exact fine_move _ rfl d7
    · refine opOk_guard 8 true _ _ rfl rfl rfl rfl (fun v w h => h) fun a w1 hu ho hd => ?_
      have s5 := ho 5 rfl
      exact fine_move _ rfl (by rw [show a.eval (.tmp 5) = _ from s5]; exact IsS.up HP.out hu)
    · refine opOk_guard 8 true _ _ rfl rfl rfl rfl (fun v w h => h) fun a w1 hu ho hd => ?_
      have d9 := hd 9 _ _ rfl rfl rfl
      exact fine_convert _ _ _ _ rfl (conv_bytes d9) rfl
    · refine opOk_guard 8 true _ _ rfl rfl rfl rfl (fun v w h => h) fun a w1 hu ho hd => ?_
      have s0 := ho 0 rfl
      exact fine_move _ rfl s0
    · refine opOk_guard 8 true _ _ rfl rfl rfl rfl (fun v w h => h) fun a w1 hu ho hd => ?_
      have d11 := hd 11 _ _ rfl rfl rfl
      exact fine_fcall 15 [.tmp 20] _ rfl (by kernel_rfl) (by simp only [List.map_cons, List.map_nil, show a.eval (.tmp 20) = (.slice A m c) from d11]; exact (refpadded_gives (IsS.up HB.out (Up.trans HU.out hu)) hk))
    · refine opOk_guard 8 true _ _ rfl rfl rfl rfl (fun v w h => h) fun a w1 hu ho hd => ?_
      have d12 := hd 12 _ _ rfl rfl rfl
      exact fine_convert _ _ _ _ rfl (conv_bytes d12) rfl
    · refine opOk_guard 8 true _ _ rfl rfl rfl rfl (fun v w h => h) fun a w1 hu ho hd => ?_
      have d10 := hd 10 _ _ rfl rfl rfl
      have d13 := hd 13 _ _ rfl rfl rfl
      exact fine_eqs _ _ _ _ _ _ true rfl d10 d13 (by simp) rfl
    · refine opOk_plain rfl fun a w1 hu ho hd => ?_
      have d14 := hd 14 _ _ rfl rfl rfl
      have d8 := hd 8 _ _ rfl rfl rfl
      exact fine_pick _ _ _ true rfl d8 d14
    · refine opOk_plain rfl fun a w1 hu ho hd => ?_
      have d15 := hd 15 _ _ rfl rfl rfl
      exact fine_move _ rfl d15
    · refine opOk_guard 16 true _ _ rfl rfl rfl rfl (fun v w h => h) fun a w1 hu ho hd => ?_
      have s5 := ho 5 rfl
      exact fine_move _ rfl (by rw [show a.eval (.tmp 5) = _ from s5]; exact IsS.up HP.out hu)
    · refine opOk_guard 16 true _ _ rfl rfl rfl rfl (fun v w h => h) fun a w1 hu ho hd => ?_
      have d17 := hd 17 _ _ rfl rfl rfl
      exact fine_lenB _ _ rfl d17 rfl
    · refine opOk_guard 16 true _ _ rfl rfl rfl rfl (fun v w h => h) fun a w1 hu ho hd => ?_
      have d18 := hd 18 _ _ rfl rfl rfl
      exact fine_rem _ _ _ _ _ _ _ rfl d18 (rfl : _ = _) (by decide) (congrArg (Value.int .i64) (HR4.out))
    · refine opOk_guard 16 true _ _ rfl rfl rfl rfl (fun v w h => h) fun a w1 hu ho hd => ?_
      have d19 := hd 19 _ _ rfl rfl rfl
      exact fine_eqi _ _ _ _ _ _ _ true rfl d19 (rfl : _ = _) (by simp) rfl
    · refine opOk_plain rfl fun a w1 hu ho hd => ?_
      have d16 := hd 16 _ _ rfl rfl rfl
      have d20 := hd 20 _ _ rfl rfl rfl
      exact fine_pick _ _ _ true rfl d16 d20
    · refine opOk_plain rfl fun a w1 hu ho hd => ?_
      have d21 := hd 21 _ _ rfl rfl rfl
      exact fine_move _ rfl d21
    · refine opOk_guard 22 true _ _ rfl rfl rfl rfl (fun v w h => h) fun a w1 hu ho hd => ?_
      have s5 := ho 5 rfl
      exact fine_move _ rfl (by rw [show a.eval (.tmp 5) = _ from s5]; exact IsS.up HP.out hu)
    · refine opOk_guard 22 true _ _ rfl rfl rfl rfl (fun v w h => h) fun a w1 hu ho hd => ?_
      have d23 := hd 23 _ _ rfl rfl rfl
      exact fine_lenB _ _ rfl d23 rfl
    · refine opOk_guard 22 true _ _ rfl rfl rfl rfl (fun v w h => h) fun a w1 hu ho hd => ?_
      have s0 := ho 0 rfl
      exact fine_move _ rfl s0
    · refine opOk_guard 22 true _ _ rfl rfl rfl rfl (fun v w h => h) fun a w1 hu ho hd => ?_
      have d25 := hd 25 _ _ rfl rfl rfl
      exact fine_len _ _ 5 _ _ _ rfl Try.underlying22 d25 rfl
    · refine opOk_guard 22 true _ _ rfl rfl rfl rfl (fun v w h => h) fun a w1 hu ho hd => ?_
      have s0 := ho 0 rfl
      exact fine_move _ rfl s0
    · refine opOk_guard 22 true _ _ rfl rfl rfl rfl (fun v w h => h) fun a w1 hu ho hd => ?_
      have d27 := hd 27 _ _ rfl rfl rfl
      exact fine_len _ _ 5 _ _ _ rfl Try.underlying22 d27 rfl
    · refine opOk_guard 22 true _ _ rfl rfl rfl rfl (fun v w h => h) fun a w1 hu ho hd => ?_
      have d28 := hd 28 _ _ rfl rfl rfl
      exact fine_fcall 13 [.tmp 37] _ rfl (by kernel_rfl) (by simp only [List.map_cons, List.map_nil, show a.eval (.tmp 37) = (.int .i64 (m : Nat)) from d28]; exact (pad_gives (by omega)))
    · refine opOk_guard 22 true _ _ rfl rfl rfl rfl (fun v w h => h) fun a w1 hu ho hd => ?_
      have d26 := hd 26 _ _ rfl rfl rfl
      have d29 := hd 29 _ _ rfl rfl rfl
      exact fine_add _ _ _ _ _ _ _ rfl d26 d29 (congrArg (Value.int .i64) (HR5.out))
    · refine opOk_guard 22 true _ _ rfl rfl rfl rfl (fun v w h => h) fun a w1 hu ho hd => ?_
      have d24 := hd 24 _ _ rfl rfl rfl
      have d30 := hd 30 _ _ rfl rfl rfl
      exact fine_eqi _ _ _ _ _ _ _ true rfl d24 d30 (by simp) rfl
    · refine opOk_plain rfl fun a w1 hu ho hd => ?_
      have d22 := hd 22 _ _ rfl rfl rfl
      have d31 := hd 31 _ _ rfl rfl rfl
      exact fine_pick _ _ _ true rfl d22 d31
    · refine opOk_plain rfl fun a w1 hu ho hd => ?_
      have d32 := hd 32 _ _ rfl rfl rfl
      exact fine_assign _ rfl d32
  · intro a w1 hI
    have hres := hI.get (i := 33) rfl rfl
    have hbel := Up.trans HU.out hI.world
    have hdef := hI.defers
    clear hI
    go_wp2
    refine bodyPost_ret (results_tmp rfl _ _ _) hdef ?_
    exact ⟨congrArg Ending.returned hres, hbel⟩
end Go.Proofs.Ytmbhdfgopkbpgaa
