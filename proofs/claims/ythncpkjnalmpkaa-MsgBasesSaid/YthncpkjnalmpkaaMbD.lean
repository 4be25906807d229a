import Derived.Test.YthncpkjnalmpkaaMbC
namespace Go.Proofs.Ythncpkjnalmpkaa
open Go Go.RowKit Mg Dc
set_option linter.unusedVariables false
set_option linter.unusedSimpArgs false
theorem cells0 (w : World) : Cells (w.alloc (.cells #[.int .u32 264, .int .u32 0, .int .i64 10, .bool true, .int .i64 1, .int .i64 1, .int .u32 296, .int .u32 0, .int .i64 10, .bool true, .int .i64 1, .int .i64 1, .int .u32 278, .int .u32 0, .int .i64 4, .bool true, .int .i64 0, .int .i64 1] 49)) (some ⟨w.heap.size, 0, none⟩) (rowr ru0) := row_cells (row0 w)
set_option maxRecDepth 100000 in
set_option maxHeartbeats 20000000 in
theorem rbase_any (c : Int) (w : World) (h0 : 0 ≤ c) (h1 : c < 4294967296) : Calls Try.prog 26 #[.int .u32 c] w (RPost (baseR c) w) := by
  go_enter Try.func26, Try.ntmps26
  by_cases hc : c = 257 ∨ c = 280 ∨ c = 282
  · have HB := Lib.hid (show baseR c = ru0 by unfold baseR; rw [if_pos hc])
    rcases hc with rfl | rfl | rfl
    all_goals
    go_upto_region 4 with (at_builtin; refine wpList_appendG rfl (.tmp 18) (.tmp 22) 45 rfl w.heap.size 49 _ 6 40 Try.underlying45 info49 rfl (by decide) none 0 0 [] rfl (World.ownsRow_nil _ _ _ _) (some ⟨w.heap.size, 0, none⟩) 3 3 (rowr ru0) rfl (by rw [rowr_length]; rfl) (cells0 w) (rowr_one _) (by omega) (by omega) (up_alloc w _).size ?_; intro A1 N1 k1 w1 HN1 HW1 HO1 HB1)
    have HR1 := Lib.hid (show w1.ownsRow w.heap.size 49 6 (.slice A1 N1 k1) N1 (rowr ru0) by have := HW1.out; rwa [List.nil_append] at this)
    obtain rfl : N1 = 3 := HN1.out
    have HU1 := Lib.hid (show Up w w1 from Below.out (up_alloc w _) HO1.out (fun k hk => by cases hk) (up_alloc w _).size)
    clear HW1 HO1 HB1 HN1
    go_wp2_with fail
    go_ret
    exact ⟨_, _, _, rfl, Lib.hid (by rw [HB.out]; exact inR_of HR1.out rfl (fun x hx => base_ok 257 x hx)), HU1⟩
  by_cases c4 : c = 9300
  · subst c4
    clear hc
    go_upto_region 4 with (at_builtin; refine wpList_appendG rfl (.tmp 18) (.tmp 22) 45 rfl w.heap.size 49 _ 6 40 Try.underlying45 info49 rfl (by decide) none 0 0 [] rfl (World.ownsRow_nil _ _ _ _) (some ⟨w.heap.size, 0, none⟩) 3 3 (rowr ru0) rfl (by rw [rowr_length]; rfl) (cells0 w) (rowr_one _) (by omega) (by omega) (up_alloc w _).size ?_; intro A1 N1 k1 w1 HN1 HW1 HO1 HB1)
    have HR1 := Lib.hid (show w1.ownsRow w.heap.size 49 6 (.slice A1 N1 k1) N1 (rowr ru0) by have := HW1.out; rwa [List.nil_append] at this)
    obtain rfl : N1 = 3 := HN1.out
    have HU1 := Lib.hid (show Up w w1 from Below.out (up_alloc w _) HO1.out (fun k hk => by cases hk) (up_alloc w _).size)
    clear HW1 HO1 HB1 HN1
    have HC1 := Lib.hid (cells1 w1)
    have HV := Lib.hid (up_alloc w1 (.cells #[.int .u32 283, .int .u32 0, .int .i64 10, .bool true, .int .i64 1, .int .i64 1, .int .u32 293, .int .u32 0, .int .i64 10, .bool true, .int .i64 0, .int .i64 1, .int .u32 282, .int .u32 0, .int .i64 10, .bool true, .int .i64 0, .int .i64 56, .int .u32 9100, .int .u32 0, .int .i64 1, .bool true, .int .i64 1, .int .i64 1] 49))
    have HR2 := Lib.hid (own_up HR1.out HV.out)
    have HU2 := Lib.hid (HU1.out.trans HV.out)
    have HS := Lib.hid HU2.out.size
    have HF := Lib.hid (show ∀ k, blk? A1 = some k → w.heap.size ≤ k from fun k hk => (row_lt HR1.out hk).1)
    clear HR1
    go_wp2_with (at_builtin; refine wpList_appendG rfl (.tmp 26) (.tmp 31) 45 rfl w.heap.size 49 _ 6 40 Try.underlying45 info49 rfl (by decide) A1 3 k1 (rowr ru0) rfl HR2.out (some ⟨w1.heap.size, 0, none⟩) 4 4 (rowr ru1) rfl (by rw [rowr_length]; rfl) HC1.out (rowr_one _) (by omega) (by omega) HS.out ?_; intro A' N' c' w' HN HW HO HB)
    go_ret
    obtain rfl : N' = 7 := HN.out
    exact ⟨_, _, _, rfl, Lib.hid (inR_of (l := ru0 ++ ru1) (by rw [rowr_append]; exact HW.out) rfl (base_ok 9300)), Lib.hid (Below.out HU2.out HO.out (fun k hk => HF.out k hk) HU2.out.size)⟩
  have b1 : (c == 257) = false := by simp; omega
  have b2 : (c == 280) = false := by simp; omega
  have b3 : (c == 282) = false := by simp; omega
  have b4 : (c == 9300) = false := by simpa using c4
  go_wp2_with fail
  go_ret
  exact ⟨none, 0, 0, rfl, Lib.hid (by unfold baseR; rw [if_neg hc, if_neg c4]; exact inR_nil _), Lib.hid (Up.refl _)⟩
end Go.Proofs.Ythncpkjnalmpkaa
