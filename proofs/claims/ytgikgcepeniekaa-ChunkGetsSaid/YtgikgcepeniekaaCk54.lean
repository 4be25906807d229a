import Derived.Test.YtgikgcepeniekaaCk52
import Derived.Test.YtgikgcepeniekaaCk44
namespace Go.Proofs.Ytgikgcepeniekaa
open Go Go.RowKit
set_option linter.unusedVariables false
set_option linter.unusedSimpArgs false
/-! The law ChunkGets. -/
set_option maxRecDepth 1000000 in
set_option maxHeartbeats 4000000 in
theorem law_gets (A : Option Addr) (m c : Nat) (xs : List Int) (w : World) (hin : InB w A m c xs) (hm : m ≤ 140737488351232) : Calls Try.prog 4 #[.slice A m c] w (RetB true w) := by
  have HI := Lib.hid hin
  clear hin
  go_enter Try.func4, Try.ntmps4
  go_wp2_with (at_builtin; refine wpList_appendI rfl (.tmp 8) (.tmp 9) 23 rfl .u8 w.heap.size 5 1 Try.underlying23 info5 (some ⟨w.heap.size, 0, none⟩) 0 0 [] rfl (ownI_new _ _ _) A m c xs rfl HI.out.len (HI.out.cells.alloc _) (by omega) (by omega) (by simp) ((Below.refl _ _).alloc (Nat.le_refl _) _) ?_; intro A6 N6 c6 w6 HN6 HW6 HB6 hsz6)
  have HO6 := Lib.hid (show OwnI .u8 5 w.heap.size w6 A6 N6 c6 xs by have := HW6.out; rw [List.nil_append] at this; exact this)
  have U6 := Lib.hid (show Up w w6 from HB6.out)
  have HI6 := Lib.hid (own_inB HO6.out HI.out.byt)
  have hN6 : N6 ≤ 140737488351232 := by have := HN6.out; omega
  clear HW6 HB6 hsz6 HN6 HO6
  refine (get_any' A6 N6 c6 xs w6 HI6.out hN6).mono ?_
  rintro e w7 ⟨l1, k1, A1, n1, c1, rfl, hr1, hL1, hb1, hn1, hu1⟩
  have U7 := Lib.hid (U6.out.trans hu1.out)
  clear HI6 U6 hb1 hu1
  go_wp2_with fail
  refine (rget_any A m c xs w7 (HI.out.up U7.out) hm).mono ?_
  rintro e w8 ⟨l2, k2, A2, n2, c2, rfl, hr2, hL2, hb2, hn2, hu2⟩
  have U8 := Lib.hid (U7.out.trans hu2.out)
  have HEQ := Lib.hid (getRes_inj hr1.out hr2.out).1
  obtain rfl := (getRes_inj hr1.out hr2.out).2
  have L1 := Lib.hid (hL1.out.up hu2.out)
  clear hr1 hr2 hL1 hb2 hu2 U7
  go_wp2_with fail
  refine (answers_ok w8).mono ?_
  rintro e w9 ⟨rfl, hu3⟩
  have U9 := Lib.hid (U8.out.trans hu3.out)
  have L1' := Lib.hid (L1.out.up hu3.out)
  have L2' := Lib.hid (hL2.out.up hu3.out)
  clear hu3 L1 hL2 U8
  have HN1 : n1 ≤ 140737488351232 := by have := hn1.out; omega
  have HN2 : n2 ≤ 140737488351232 := by have := hn2.out; omega
  go_wp2_with fail
  refine (sameL l1 l2 A1 A2 n1 c1 n2 c2 w9 L1'.out L2'.out HN1 HN2).mono ?_
  rintro e wa ⟨rfl, hu4⟩
  rw [decide_eq_true HEQ.out]
  have Ua := Lib.hid (U9.out.trans hu4.out)
  go_wp2_with fail
  go_ret
  exact ⟨by simp, Ua⟩
end Go.Proofs.Ytgikgcepeniekaa
