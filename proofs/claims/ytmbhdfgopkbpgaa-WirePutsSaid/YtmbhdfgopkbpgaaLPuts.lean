import Derived.Test.YtmbhdfgopkbpgaaGives
namespace Go.Proofs.Ytmbhdfgopkbpgaa
open Go Go.RowKit

set_option maxHeartbeats 400000 in
theorem walk_puts (A : Option Addr) (m c : Nat) (xs : List Int) (n s : Int) (w : World) (hb : BytesOf xs (.slice A m c) w) (hk : xs.length + 9 ≤ 140737488355328) :
    Calls Try.prog 3 #[.slice A m c, .int .u64 n, .int .i64 s] w fun e w' => e = .returned (.bool true) ∧ Below w.heap.size w w' := by
  have HB := Lib.hid hb
  clear hb
  go_enter Try.func3, Try.ntmps3
  go_wp2
  refine steady_lit (by kernel_rfl) (facts [Is (.bool true), Is (.bool true), Is (.slice A m c), BytesOf xs, Is (.int .u64 n), Is (.int .i64 s), BytesOf (putL xs n s), Is (.string (strOfNums (putL xs n s))), Is (.slice A m c), Is (.int .u64 n), Is (.int .i64 s), BytesOf (putL xs n s), Is (.string (strOfNums (putL xs n s))), Is (.bool true), Is (.bool true), Is (.bool true)])
    (facts_keep (by simp [keeps_is, keeps_bytes])) 22 rfl (by decide +kernel) (by decide +kernel) ?_ ?_
  · refine ⟨?_, ?_, ?_, ?_, ?_, ?_, ?_, ?_, ?_, ?_, ?_, ?_, ?_, ?_, ?_, ?_, trivial⟩
    · refine opOk_plain rfl fun a w1 hu ho hd => ?_
      exact fine_fcall 8 [] _ rfl (by kernel_rfl) answers_gives
    · refine opOk_plain rfl fun a w1 hu ho hd => ?_
      have d0 := hd 0 _ _ rfl rfl rfl
      exact fine_move _ rfl d0
    · refine opOk_guard 1 true _ _ rfl rfl rfl rfl (fun v w h => h) fun a w1 hu ho hd => ?_
      have s0 := ho 0 rfl
      exact fine_move _ rfl s0
    · refine opOk_guard 1 true _ _ rfl rfl rfl rfl (fun v w h => h) fun a w1 hu ho hd => ?_
      have d2 := hd 2 _ _ rfl rfl rfl
      exact fine_fcall 10 [.tmp 9] _ rfl (by kernel_rfl) (by simp only [List.map_cons, List.map_nil, show a.eval (.tmp 9) = (.slice A m c) from d2]; exact (own_gives (IsS.up HB.out hu) hk))
    · refine opOk_guard 1 true _ _ rfl rfl rfl rfl (fun v w h => h) fun a w1 hu ho hd => ?_
      have s1 := ho 1 rfl
      exact fine_move _ rfl s1
    · refine opOk_guard 1 true _ _ rfl rfl rfl rfl (fun v w h => h) fun a w1 hu ho hd => ?_
      have s2 := ho 2 rfl
      exact fine_move _ rfl s2
    · refine opOk_guard 1 true _ _ rfl rfl rfl rfl (fun v w h => h) fun a w1 hu ho hd => ?_
      have d3 := hd 3 _ _ rfl rfl rfl
      have d4 := hd 4 _ _ rfl rfl rfl
      have d5 := hd 5 _ _ rfl rfl rfl
      exact fine_fcall 9 [.tmp 10, .tmp 11, .tmp 12] _ rfl (by kernel_rfl) (by simp only [List.map_cons, List.map_nil, show a.eval (.tmp 11) = (.int .u64 n) from d4, show a.eval (.tmp 12) = (.int .i64 s) from d5]; exact (put_gives d3 hk))
    · refine opOk_guard 1 true _ _ rfl rfl rfl rfl (fun v w h => h) fun a w1 hu ho hd => ?_
      have d6 := hd 6 _ _ rfl rfl rfl
      exact fine_convert _ _ _ _ rfl (conv_bytes d6) rfl
    · refine opOk_guard 1 true _ _ rfl rfl rfl rfl (fun v w h => h) fun a w1 hu ho hd => ?_
      have s0 := ho 0 rfl
      exact fine_move _ rfl s0
    · refine opOk_guard 1 true _ _ rfl rfl rfl rfl (fun v w h => h) fun a w1 hu ho hd => ?_
      have s1 := ho 1 rfl
      exact fine_move _ rfl s1
    · refine opOk_guard 1 true _ _ rfl rfl rfl rfl (fun v w h => h) fun a w1 hu ho hd => ?_
      have s2 := ho 2 rfl
      exact fine_move _ rfl s2
    · refine opOk_guard 1 true _ _ rfl rfl rfl rfl (fun v w h => h) fun a w1 hu ho hd => ?_
      have d10 := hd 10 _ _ rfl rfl rfl
      have d8 := hd 8 _ _ rfl rfl rfl
      have d9 := hd 9 _ _ rfl rfl rfl
      exact fine_fcall 11 [.tmp 15, .tmp 16, .tmp 17] _ rfl (by kernel_rfl) (by simp only [List.map_cons, List.map_nil, show a.eval (.tmp 15) = (.slice A m c) from d8, show a.eval (.tmp 16) = (.int .u64 n) from d9, show a.eval (.tmp 17) = (.int .i64 s) from d10]; exact (refput_gives (IsS.up HB.out hu) hk))
    · refine opOk_guard 1 true _ _ rfl rfl rfl rfl (fun v w h => h) fun a w1 hu ho hd => ?_
      have d11 := hd 11 _ _ rfl rfl rfl
      exact fine_convert _ _ _ _ rfl (conv_bytes d11) rfl
    · refine opOk_guard 1 true _ _ rfl rfl rfl rfl (fun v w h => h) fun a w1 hu ho hd => ?_
      have d12 := hd 12 _ _ rfl rfl rfl
      have d7 := hd 7 _ _ rfl rfl rfl
      exact fine_eqs _ _ _ _ _ _ true rfl d7 d12 (by simp) rfl
    · refine opOk_plain rfl fun a w1 hu ho hd => ?_
      have d1 := hd 1 _ _ rfl rfl rfl
      have d13 := hd 13 _ _ rfl rfl rfl
      exact fine_pick _ _ _ true rfl d1 d13
    · refine opOk_plain rfl fun a w1 hu ho hd => ?_
      have d14 := hd 14 _ _ rfl rfl rfl
      exact fine_assign _ rfl d14
  · intro a w1 hI
    have hres := hI.get (i := 15) rfl rfl
    have hbel := hI.world
    have hdef := hI.defers
    clear hI
    go_wp2
    refine bodyPost_ret (results_tmp rfl _ _ _) hdef ?_
    exact ⟨congrArg Ending.returned hres, hbel⟩
end Go.Proofs.Ytmbhdfgopkbpgaa
