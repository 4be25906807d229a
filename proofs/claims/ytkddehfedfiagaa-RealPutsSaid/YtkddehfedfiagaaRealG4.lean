import Derived.Test.YtkddehfedfiagaaRealP
import Derived.Deep.QuietTactic
import Derived.BigQuiet
namespace Go.Proofs.Ytkddehfedfiagaa
open Go Go.RowKit
set_option linter.unusedVariables false
section
variable {P : Program} {ops : Array Oper} {Φ : Nat → Value → World → Prop} {a0 : Act} {w0 : World} {i : Nat} {o : Oper}
/-- An operation that is not wanted. -/
theorem opOk_skip (j : Nat) (b c : Bool) (oj : Oper) (d : Tmp) (hg : o.guard = some (j, b)) (hne : b ≠ c) (hin : (o.after.toList.any fun e => e.on == j && Region.binds .any e) = true) (hj : ops[j]? = some oj) (hdj : oj.dst = some d) (hv : ∀ v w, Φ j v w → v = .bool c)
    (h : ∀ w, Φ i undef w) : OpOk P ops Φ a0 w0 i o := by
  intro a w hu _ ho hd
  have hy := yielded_of (tmps := a.tmps) hj hdj (hv _ w (hd j oj d hin hj hdj))
  rw [if_neg (by simp [Region.wanted, hg, hy]; exact fun e => hne e.symm)]
  exact h w
end
def Any : Value → World → Prop := fun _ _ => True
theorem keeps_any : Keeps Any := fun _ _ _ _ _ => trivial
section
variable {P : Program} {o : Oper} {a : Act} {w : World} {φ : Value → World → Prop}
theorem fine_neqs (tx ty : TypeId) (x y : Operand) (s : ByteArray) (ho : o.op = .binOp .neq tx x y ty) (hx : a.eval x = .string s) (hy : a.eval y = .string s) (h : φ (.bool false) w) : Fine P o a w φ := by
  refine fine_bin .neq tx ty x y _ ho ?_ ?_ h
  · rw [hx, hy]; simp [go_sem]
  · rw [hx, hy]; simp [go_sem]
theorem fine_not (t : TypeId) (x : Operand) (b : Bool) (ho : o.op = .unOp .not t x) (hx : a.eval x = .bool b) (h : φ (.bool (!b)) w) : Fine P o a w φ := by
  refine fine_quiet _ ?_ h
  unfold execOp
  simp only [ho, hx]
  simp [go_sem]
end
def CGet32 : Prop := ∀ (A : Option Addr) (n cap : Nat) (xs : List Int) (w : World), InB w A n cap xs → n ≤ 140737488355328 → Calls Try.prog 15 #[.slice A n cap] w fun e w' => Up w w' ∧
  (n < 4 → e = .returned (.tuple #[.float .f32 0, .int .i64 3])) ∧ (4 < n → e = .returned (.tuple #[.float .f32 0, .int .i64 2])) ∧
  (n = 4 → ∃ v : Nat, v < 4294967296 ∧ e = .returned (.tuple #[.float .f32 v, .int .i64 0]) ∧ (nan32 (num 0 xs).toNat = false → v = (num 0 xs).toNat))
def CGet64 : Prop := ∀ (A : Option Addr) (n cap : Nat) (xs : List Int) (w : World), InB w A n cap xs → n ≤ 140737488355328 → Calls Try.prog 16 #[.slice A n cap] w fun e w' => Up w w' ∧
  (n < 8 → e = .returned (.tuple #[.float .f64 0, .int .i64 3])) ∧ (8 < n → e = .returned (.tuple #[.float .f64 0, .int .i64 2])) ∧
  (n = 8 → ∃ v : Nat, v < 18446744073709551616 ∧ e = .returned (.tuple #[.float .f64 v, .int .i64 0]) ∧ (Rl.nanB (num 0 xs).toNat = false → v = (num 0 xs).toNat))
theorem Up.drewN' {w w' : World} (h : Up w w') (n : Nat) : Up w (w'.drewN n) := ⟨h.os, h.tape, h.output, h.size, h.block⟩
set_option maxHeartbeats 1000000 in
theorem gets_less (hA : CAns) (g32 : CGet32) (g64 : CGet64) (A : Option Addr) (n c : Nat) (xs : List Int) (w : World) (h : InB w A n c xs) (hk : n ≤ 140737488351232) (l4 : n < 4) :
    Calls Try.prog 4 #[.slice A n c] w (True2 w) := by
  have HA := Lib.hid hA
  have G1 := Lib.hid g32
  have G2 := Lib.hid g64
  have H := Lib.hid h
  clear hA g32 g64 h
  have hki : (n : Int) ≤ 140737488351232 := by omega
  have fb1 := fun W => run_f32bits 0 W
  have fb2 := fun W => run_f64bits 0 W
  have t4 : (n : Int) < 4 := by omega
  have t8 : (n : Int) < 8 := by omega
  go_enter Try.func4, Try.ntmps4
  go_wp2_with (at_builtin; refine wpList_appendI rfl (.tmp 12) (.tmp 13) 28 rfl .u8 w.heap.size 5 1 Try.underlying28 info5 (some ⟨w.heap.size, 0, none⟩) 0 0 [] rfl (ownI_new _ _ _) A n c xs rfl H.out.len (H.out.cells.alloc _) (by omega) (by omega) (by simp) ((Below.refl _ _).alloc (Nat.le_refl _) _) ?_; intro A1 N1 c1 w1 HN1 HW1 HU1 hsz1)
  have M1 := Lib.hid (show N1 = n by have := HN1.out; omega)
  refine (G1.out A1 N1 c1 ([] ++ xs) _ (own_inB HW1.out (byt_nil.append H.out.byt)) (by have := M1.out; omega)).mono ?_
  rintro e w2 ⟨u2, q1, q2, q3⟩
  obtain rfl := q1 (by have := M1.out; omega)
  clear q1 q2 q3
  have U2 := Lib.hid (Up.trans HU1.out u2)
  clear u2 HN1 HW1 HU1 hsz1
  go_wp2_with (at_builtin; refine wpList_appendI rfl (.tmp 19) (.tmp 20) 28 rfl .u8 w2.heap.size 5 1 Try.underlying28 info5 (some ⟨w2.heap.size, 0, none⟩) 0 0 [] rfl (ownI_new _ _ _) A n c xs rfl H.out.len ((H.out.up U2.out).cells.alloc _) (by omega) (by omega) (by simp) ((Below.refl _ _).alloc (Nat.le_refl _) _) ?_; intro A3 N3 c3 w3 HN3 HW3 HU3 hsz3)
  have M3 := Lib.hid (show N3 = n by have := HN3.out; omega)
  refine (G2.out A3 N3 c3 ([] ++ xs) _ (own_inB HW3.out (byt_nil.append H.out.byt)) (by have := M3.out; omega)).mono ?_
  rintro e w4 ⟨u4, q1, q2, q3⟩
  obtain rfl := q1 (by have := M3.out; omega)
  clear q1 q2 q3
  have U4 := Lib.hid (U2.out.trans (Up.trans HU3.out u4))
  clear u4 HN3 HW3 HU3 hsz3
  go_wp2_with fail
  refine (HA.out _).mono ?_
  rintro e w5 ⟨rfl, u5⟩
  have U5 := Lib.hid (U4.out.trans u5)
  clear u5
  go_wp2_with fail
  go_quiet (fail)
  have U6 : Hid (Up w (w5.drewN nq)) := ⟨U5.out.os, U5.out.tape, U5.out.output, U5.out.size, U5.out.block⟩
  go_wp2_with fail
  refine (rget_short A n c 0 8 _ (by omega) (by omega) (by omega) (by omega) (by omega)).mono ?_
  rintro e w7 ⟨rfl, rfl⟩
  have U7 := U5
  go_wp2_with fail
  go_quiet (fail)
  go_wp2_with fail
  go_ret
  exact ⟨rfl, U7.out.drewN' _⟩
set_option maxHeartbeats 1000000 in
theorem gets_mid (hA : CAns) (g32 : CGet32) (g64 : CGet64) (A : Option Addr) (n c : Nat) (xs : List Int) (w : World) (h : InB w A n c xs) (hk : n ≤ 140737488351232) (l4 : 4 < n) (l8 : n < 8) :
    Calls Try.prog 4 #[.slice A n c] w (True2 w) := by
  have HA := Lib.hid hA
  have G1 := Lib.hid g32
  have G2 := Lib.hid g64
  have H := Lib.hid h
  clear hA g32 g64 h
  have hki : (n : Int) ≤ 140737488351232 := by omega
  have fb1 := fun W => run_f32bits 0 W
  have fb2 := fun W => run_f64bits 0 W
  have t4 : (4 : Int) < n := by omega
  have t8 : (n : Int) < 8 := by omega
  go_enter Try.func4, Try.ntmps4
  go_wp2_with (at_builtin; refine wpList_appendI rfl (.tmp 12) (.tmp 13) 28 rfl .u8 w.heap.size 5 1 Try.underlying28 info5 (some ⟨w.heap.size, 0, none⟩) 0 0 [] rfl (ownI_new _ _ _) A n c xs rfl H.out.len (H.out.cells.alloc _) (by omega) (by omega) (by simp) ((Below.refl _ _).alloc (Nat.le_refl _) _) ?_; intro A1 N1 c1 w1 HN1 HW1 HU1 hsz1)
  have M1 := Lib.hid (show N1 = n by have := HN1.out; omega)
  refine (G1.out A1 N1 c1 ([] ++ xs) _ (own_inB HW1.out (byt_nil.append H.out.byt)) (by have := M1.out; omega)).mono ?_
  rintro e w2 ⟨u2, q1, q2, q3⟩
  obtain rfl := q2 (by have := M1.out; omega)
  clear q1 q2 q3
  have U2 := Lib.hid (Up.trans HU1.out u2)
  clear u2 HN1 HW1 HU1 hsz1
  go_wp2_with (at_builtin; refine wpList_appendI rfl (.tmp 19) (.tmp 20) 28 rfl .u8 w2.heap.size 5 1 Try.underlying28 info5 (some ⟨w2.heap.size, 0, none⟩) 0 0 [] rfl (ownI_new _ _ _) A n c xs rfl H.out.len ((H.out.up U2.out).cells.alloc _) (by omega) (by omega) (by simp) ((Below.refl _ _).alloc (Nat.le_refl _) _) ?_; intro A3 N3 c3 w3 HN3 HW3 HU3 hsz3)
  have M3 := Lib.hid (show N3 = n by have := HN3.out; omega)
  refine (G2.out A3 N3 c3 ([] ++ xs) _ (own_inB HW3.out (byt_nil.append H.out.byt)) (by have := M3.out; omega)).mono ?_
  rintro e w4 ⟨u4, q1, q2, q3⟩
  obtain rfl := q1 (by have := M3.out; omega)
  clear q1 q2 q3
  have U4 := Lib.hid (U2.out.trans (Up.trans HU3.out u4))
  clear u4 HN3 HW3 HU3 hsz3
  go_wp2_with fail
  refine (HA.out _).mono ?_
  rintro e w5 ⟨rfl, u5⟩
  have U5 := Lib.hid (U4.out.trans u5)
  clear u5
  go_wp2_with fail
  go_quiet (fail)
  have U6 : Hid (Up w (w5.drewN nq)) := ⟨U5.out.os, U5.out.tape, U5.out.output, U5.out.size, U5.out.block⟩
  go_wp2_with fail
  refine (rget_short A n c 0 8 _ (by omega) (by omega) (by omega) (by omega) (by omega)).mono ?_
  rintro e w7 ⟨rfl, rfl⟩
  have U7 := U5
  go_wp2_with fail
  go_quiet (fail)
  go_wp2_with fail
  go_ret
  exact ⟨rfl, U7.out.drewN' _⟩
set_option maxHeartbeats 1000000 in
theorem gets_more (hA : CAns) (g32 : CGet32) (g64 : CGet64) (A : Option Addr) (n c : Nat) (xs : List Int) (w : World) (h : InB w A n c xs) (hk : n ≤ 140737488351232) (l8 : 8 < n) :
    Calls Try.prog 4 #[.slice A n c] w (True2 w) := by
  have HA := Lib.hid hA
  have G1 := Lib.hid g32
  have G2 := Lib.hid g64
  have H := Lib.hid h
  clear hA g32 g64 h
  have hki : (n : Int) ≤ 140737488351232 := by omega
  have fb1 := fun W => run_f32bits 0 W
  have fb2 := fun W => run_f64bits 0 W
  have t4 : (8 : Int) < n := by omega
  go_enter Try.func4, Try.ntmps4
  go_wp2_with (at_builtin; refine wpList_appendI rfl (.tmp 12) (.tmp 13) 28 rfl .u8 w.heap.size 5 1 Try.underlying28 info5 (some ⟨w.heap.size, 0, none⟩) 0 0 [] rfl (ownI_new _ _ _) A n c xs rfl H.out.len (H.out.cells.alloc _) (by omega) (by omega) (by simp) ((Below.refl _ _).alloc (Nat.le_refl _) _) ?_; intro A1 N1 c1 w1 HN1 HW1 HU1 hsz1)
  have M1 := Lib.hid (show N1 = n by have := HN1.out; omega)
  refine (G1.out A1 N1 c1 ([] ++ xs) _ (own_inB HW1.out (byt_nil.append H.out.byt)) (by have := M1.out; omega)).mono ?_
  rintro e w2 ⟨u2, q1, q2, q3⟩
  obtain rfl := q2 (by have := M1.out; omega)
  clear q1 q2 q3
  have U2 := Lib.hid (Up.trans HU1.out u2)
  clear u2 HN1 HW1 HU1 hsz1
  go_wp2_with (at_builtin; refine wpList_appendI rfl (.tmp 19) (.tmp 20) 28 rfl .u8 w2.heap.size 5 1 Try.underlying28 info5 (some ⟨w2.heap.size, 0, none⟩) 0 0 [] rfl (ownI_new _ _ _) A n c xs rfl H.out.len ((H.out.up U2.out).cells.alloc _) (by omega) (by omega) (by simp) ((Below.refl _ _).alloc (Nat.le_refl _) _) ?_; intro A3 N3 c3 w3 HN3 HW3 HU3 hsz3)
  have M3 := Lib.hid (show N3 = n by have := HN3.out; omega)
  refine (G2.out A3 N3 c3 ([] ++ xs) _ (own_inB HW3.out (byt_nil.append H.out.byt)) (by have := M3.out; omega)).mono ?_
  rintro e w4 ⟨u4, q1, q2, q3⟩
  obtain rfl := q2 (by have := M3.out; omega)
  clear q1 q2 q3
  have U4 := Lib.hid (U2.out.trans (Up.trans HU3.out u4))
  clear u4 HN3 HW3 HU3 hsz3
  go_wp2_with fail
  refine (HA.out _).mono ?_
  rintro e w5 ⟨rfl, u5⟩
  have U5 := Lib.hid (U4.out.trans u5)
  clear u5
  go_wp2_with fail
  go_quiet (fail)
  have U6 : Hid (Up w (w5.drewN nq)) := ⟨U5.out.os, U5.out.tape, U5.out.output, U5.out.size, U5.out.block⟩
  go_wp2_with fail
  refine (rget_ok A n c 0 8 xs _ (H.out.up U6.out) (by omega) (by omega) (by omega) (by omega)).mono ?_
  rintro e w7 ⟨rfl, u7⟩
  have U7 := Lib.hid (U6.out.trans u7)
  go_wp2_with fail
  go_quiet (fail)
  go_wp2_with fail
  go_ret
  exact ⟨rfl, U7.out.drewN' _⟩
theorem conv_u32 {N : Int} {v : Nat} (h1 : N = (v : Int)) (h : v < 4294967296) (w : World) : (convert 3 22 (.int .i64 N)).run Try.prog w = .ok (.int .u32 ((v : Nat) : Int)) w := by
  subst h1
  have e : IntKind.u32.wrap (v : Int) = (v : Int) := by rw [IntKind.wrap_u32']; omega
  simp [convert, run_underlying Try.underlying3, run_underlying Try.underlying22, Conv.intToInt, e]
theorem run_and31 {v : Nat} (h : v < 4294967296) (w : World) : (binOp .and 22 (.int .u32 (v : Int)) (.int .u32 2147483647)).run Try.prog w = .ok (.int .u32 ((v % 2147483648 : Nat) : Int)) w := by
  rw [← and31 v h]; simp [go_sem]
theorem run_leq_u32 {n : Nat} (h : n ≤ 2139095040) (w : World) : (binOp .leq 22 (.int .u32 (n : Int)) (.int .u32 2139095040)).run Try.prog w = .ok (.bool true) w := by
  have : (n : Int) ≤ 2139095040 := by omega
  simp [go_sem, this]
theorem run_leq_u32_no {n : Nat} (h : 2139095040 < n) (w : World) : (binOp .leq 22 (.int .u32 (n : Int)) (.int .u32 2139095040)).run Try.prog w = .ok (.bool false) w := by
  have : ¬ (n : Int) ≤ 2139095040 := by omega
  simp [go_sem, this]
set_option maxRecDepth 100000 in
set_option maxHeartbeats 2000000 in
theorem gets_four (hA : CAns) (p32 : CPut32) (g32 : CGet32) (g64 : CGet64) (A : Option Addr) (n c : Nat) (xs : List Int) (w : World) (h : InB w A n c xs) (hk : n ≤ 140737488351232) (l4 : n = 4) (v : Nat) (hv : (num 0 ((xs.drop 0).take 4)) = (v : Int)) (hvl : v < 4294967296) (ht : v % 2147483648 ≤ 2139095040) (hbe : be ((can32 v : Nat) : Int) 4 = xs) (hnn : nan32 (num 0 xs).toNat = false) (hnv : (num 0 xs).toNat = v) :
    Calls Try.prog 4 #[.slice A n c] w (True2 w) := by
  have HV := Lib.hid hv
  have HVL := Lib.hid hvl
  have HT := Lib.hid ht
  clear hv hvl ht
  have HBE := Lib.hid hbe
  clear hbe
  have HNN := Lib.hid hnn
  have HNV := Lib.hid hnv
  clear hnn hnv
  have HA := Lib.hid hA
  have G1 := Lib.hid g32
  have G2 := Lib.hid g64
  have H := Lib.hid h
  clear hA g32 g64 h
  have hki : (n : Int) ≤ 140737488351232 := by omega
  have fb1 := fun W => run_f32bits 0 W
  have fb2 := fun W => run_f64bits 0 W
  have L4 := Lib.hid l4
  have t4 : (4 : Int) ≤ n := by omega
  have t4' : (n : Int) ≤ 4 := by omega
  have t8 : (n : Int) < 8 := by omega
  have P1 := Lib.hid p32
  clear p32 l4
  go_enter Try.func4, Try.ntmps4
  go_wp2_with (at_builtin; refine wpList_appendI rfl (.tmp 12) (.tmp 13) 28 rfl .u8 w.heap.size 5 1 Try.underlying28 info5 (some ⟨w.heap.size, 0, none⟩) 0 0 [] rfl (ownI_new _ _ _) A n c xs rfl H.out.len (H.out.cells.alloc _) (by omega) (by omega) (by simp) ((Below.refl _ _).alloc (Nat.le_refl _) _) ?_; intro A1 N1 c1 w1 HN1 HW1 HU1 hsz1)
  have M1 := Lib.hid (show N1 = n by have := HN1.out; omega)
  refine (G1.out A1 N1 c1 ([] ++ xs) _ (own_inB HW1.out (byt_nil.append H.out.byt)) (by have := M1.out; omega)).mono ?_
  rintro e w2 ⟨u2, q1, q2, q3⟩
  obtain ⟨f, hf1, rfl, hf2⟩ := q3 (by have := M1.out; have := L4.out; omega)
  have hfv : v = f := by rw [hf2 (by rw [List.nil_append]; exact HNN.out), List.nil_append]; exact HNV.out.symm
  subst hfv
  have HF1 := Lib.hid hf1
  clear hf1 hf2
  clear q1 q2 q3
  have U2 := Lib.hid (Up.trans HU1.out u2)
  clear u2 HN1 HW1 HU1 hsz1
  go_wp2_with (at_builtin; refine wpList_appendI rfl (.tmp 19) (.tmp 20) 28 rfl .u8 w2.heap.size 5 1 Try.underlying28 info5 (some ⟨w2.heap.size, 0, none⟩) 0 0 [] rfl (ownI_new _ _ _) A n c xs rfl H.out.len ((H.out.up U2.out).cells.alloc _) (by omega) (by omega) (by simp) ((Below.refl _ _).alloc (Nat.le_refl _) _) ?_; intro A3 N3 c3 w3 HN3 HW3 HU3 hsz3)
  have M3 := Lib.hid (show N3 = n by have := HN3.out; omega)
  refine (G2.out A3 N3 c3 ([] ++ xs) _ (own_inB HW3.out (byt_nil.append H.out.byt)) (by have := M3.out; omega)).mono ?_
  rintro e w4 ⟨u4, q1, q2, q3⟩
  obtain rfl := q1 (by have := M3.out; have := L4.out; omega)
  clear q1 q2 q3
  have U4 := Lib.hid (U2.out.trans (Up.trans HU3.out u4))
  clear u4 HN3 HW3 HU3 hsz3
  go_wp2_with fail
  refine (HA.out _).mono ?_
  rintro e w5 ⟨rfl, u5⟩
  have U5 := Lib.hid (U4.out.trans u5)
  clear u5
  go_wp2_with fail
  refine steady_lit (by kernel_rfl) (facts [Is (.int .i64 0), Is (.bool true), Is (.bool true), Is (.slice A n c), Is (.int .i64 (num 0 ((xs.drop 0).take 4))), Is (.int .u32 ((v : Nat) : Int)), Is (.int .u32 ((v % 2147483648 : Nat) : Int)), Is (.bool true), Is (.bool true), Is (.bool true), Is (.float .f32 v), IsI .u8 xs, Is (.string (strOfNums xs)), Is (.slice A n c), Is (.string (strOfNums xs)), Is (.bool false), Is (.bool false)])
    (facts_keep (by simp [keeps_is, keeps_isI])) 102 rfl (by decide +kernel) (by decide +kernel) ?_ ?_
  · refine ⟨?_, ?_, ?_, ?_, ?_, ?_, ?_, ?_, ?_, ?_, ?_, ?_, ?_, ?_, ?_, ?_, ?_, trivial⟩
    · refine opOk_plain rfl fun a w1 hu ho hd => ?_
      have s4 := ho 4 rfl
      exact fine_move _ rfl s4
    · refine opOk_plain rfl fun a w1 hu ho hd => ?_
      have d0 := hd 0 _ _ rfl rfl rfl
      exact fine_eqi _ _ _ _ _ _ _ true rfl d0 (rfl : _ = Value.int .i64 0) rfl rfl
    · refine opOk_plain rfl fun a w1 hu ho hd => ?_
      have d1 := hd 1 _ _ rfl rfl rfl
      exact fine_move _ rfl d1
    · refine opOk_guard 2 true _ _ rfl rfl rfl rfl (fun v w h => h) fun a w1 hu ho hd => ?_
      have s0 := ho 0 rfl
      exact fine_move _ rfl s0
    · refine opOk_guard 2 true _ _ rfl rfl rfl rfl (fun v w h => h) fun a w1 hu ho hd => ?_
      have d3 := hd 3 _ _ rfl rfl rfl
      exact fine_fcall 17 [.tmp 52, .const (.int .i64 0), .const (.int .i64 4)] _ rfl (by kernel_rfl) (by simp only [List.map_cons, List.map_nil, show a.eval (.tmp 52) = _ from d3]; exact (rnum_ok A n c 0 4 xs _ ((H.out.up U5.out).up hu) (by omega) (by have := L4.out; omega) (by omega) (by omega)).mono fun e w' ⟨he, hup⟩ => ⟨hup, _, he, rfl⟩)
    · refine opOk_guard 2 true _ _ rfl rfl rfl rfl (fun v w h => h) fun a w1 hu ho hd => ?_
      have d4 := hd 4 _ _ rfl rfl rfl
      exact fine_convert 3 22 (.tmp 53) _ rfl (by rw [show a.eval (.tmp 53) = _ from d4]; exact conv_u32 HV.out HVL.out _) rfl
    · refine opOk_guard 2 true _ _ rfl rfl rfl rfl (fun v w h => h) fun a w1 hu ho hd => ?_
      have d5 := hd 5 _ _ rfl rfl rfl
      exact fine_bin .and 22 22 _ _ _ rfl (by rw [show a.eval (.tmp 54) = _ from d5]; rfl) (by rw [show a.eval (.tmp 54) = _ from d5]; exact run_and31 HVL.out _) rfl
    · refine opOk_guard 2 true _ _ rfl rfl rfl rfl (fun v w h => h) fun a w1 hu ho hd => ?_
      have d6 := hd 6 _ _ rfl rfl rfl
      exact fine_bin .leq 22 22 _ _ _ rfl (by rw [show a.eval (.tmp 55) = _ from d6]; rfl) (by rw [show a.eval (.tmp 55) = _ from d6]; exact run_leq_u32 HT.out _) rfl
    · refine opOk_plain rfl fun a w1 hu ho hd => ?_
      have d2 := hd 2 _ _ rfl rfl rfl
      have d7 := hd 7 _ _ rfl rfl rfl
      exact fine_pick _ _ _ true rfl d2 d7
    · refine opOk_plain rfl fun a w1 hu ho hd => ?_
      have d8 := hd 8 _ _ rfl rfl rfl
      exact fine_move _ rfl d8
    · refine opOk_guard 9 true _ _ rfl rfl rfl rfl (fun v w h => h) fun a w1 hu ho hd => ?_
      have s3 := ho 3 rfl
      exact fine_move _ rfl s3
    · refine opOk_guard 9 true _ _ rfl rfl rfl rfl (fun v w h => h) fun a w1 hu ho hd => ?_
      have d10 := hd 10 _ _ rfl rfl rfl
      exact fine_fcall 10 [.tmp 59] _ rfl (by kernel_rfl) (by simp only [List.map_cons, List.map_nil, show a.eval (.tmp 59) = _ from d10]; exact (P1.out v _ HVL.out).mono fun e w' ⟨A9, N9, c9, he, ho9, hup⟩ => ⟨hup, _, he, by have := ho9.isI; rw [HBE.out] at this; exact this⟩)
    · refine opOk_guard 9 true _ _ rfl rfl rfl rfl (fun v w h => h) fun a w1 hu ho hd => ?_
      have d11 := hd 11 _ _ rfl rfl rfl
      exact fine_convert 28 9 (.tmp 60) _ rfl (conv_I Try.underlying28 Try.underlying5 Try.underlying9 d11) rfl
    · refine opOk_guard 9 true _ _ rfl rfl rfl rfl (fun v w h => h) fun a w1 hu ho hd => ?_
      have s0 := ho 0 rfl
      exact fine_move _ rfl s0
    · refine opOk_guard 9 true _ _ rfl rfl rfl rfl (fun v w h => h) fun a w1 hu ho hd => ?_
      have d13 := hd 13 _ _ rfl rfl rfl
      exact fine_convert 28 9 (.tmp 62) _ rfl (by rw [show a.eval (.tmp 62) = _ from d13]; exact conv_I Try.underlying28 Try.underlying5 Try.underlying9 ((H.out.up U5.out).up hu).isI) rfl
    · refine opOk_guard 9 true _ _ rfl rfl rfl rfl (fun v w h => h) fun a w1 hu ho hd => ?_
      have d12 := hd 12 _ _ rfl rfl rfl
      have d14 := hd 14 _ _ rfl rfl rfl
      exact fine_neqs _ _ _ _ _ rfl d12 d14 rfl
    · refine opOk_plain rfl fun a w1 hu ho hd => ?_
      have d9 := hd 9 _ _ rfl rfl rfl
      have d15 := hd 15 _ _ rfl rfl rfl
      exact fine_pick _ _ _ true rfl d9 d15
  · intro a w8 hI
    have l0 : a.tmps.getD 0 undef = .slice A n c := hI.old 0 rfl
    have l2 : a.tmps.getD 2 undef = .bool false := hI.old 2 rfl
    have l3 : a.tmps.getD 3 undef = .float .f32 v := hI.old 3 rfl
    have l4 : a.tmps.getD 4 undef = .int .i64 0 := hI.old 4 rfl
    have l5 : a.tmps.getD 5 undef = .float .f64 0 := hI.old 5 rfl
    have l6 : a.tmps.getD 6 undef = .int .i64 3 := hI.old 6 rfl
    have l65 : a.tmps.getD 65 undef = .bool false := hI.get (i := 16) rfl rfl
    have hde : a.defers = [] := hI.defers
    have hal := act_lit a 102 hI.size
    have U8 := Lib.hid (hI.world)
    clear hI
    simp only [List.range, List.range.loop, List.map_cons, List.map_nil] at hal
    rw [l0, l2, l3, l4, l5, l6, l65, hde] at hal
    generalize a.tmps.getD 1 undef = t1 at hal
    generalize a.tmps.getD 7 undef = t7 at hal
    generalize a.tmps.getD 8 undef = t8 at hal
    generalize a.tmps.getD 9 undef = t9 at hal
    generalize a.tmps.getD 10 undef = t10 at hal
    generalize a.tmps.getD 11 undef = t11 at hal
    generalize a.tmps.getD 12 undef = t12 at hal
    generalize a.tmps.getD 13 undef = t13 at hal
    generalize a.tmps.getD 14 undef = t14 at hal
    generalize a.tmps.getD 15 undef = t15 at hal
    generalize a.tmps.getD 16 undef = t16 at hal
    generalize a.tmps.getD 17 undef = t17 at hal
    generalize a.tmps.getD 18 undef = t18 at hal
    generalize a.tmps.getD 19 undef = t19 at hal
    generalize a.tmps.getD 20 undef = t20 at hal
    generalize a.tmps.getD 21 undef = t21 at hal
    generalize a.tmps.getD 22 undef = t22 at hal
    generalize a.tmps.getD 23 undef = t23 at hal
    generalize a.tmps.getD 24 undef = t24 at hal
    generalize a.tmps.getD 25 undef = t25 at hal
    generalize a.tmps.getD 26 undef = t26 at hal
    generalize a.tmps.getD 27 undef = t27 at hal
    generalize a.tmps.getD 28 undef = t28 at hal
    generalize a.tmps.getD 29 undef = t29 at hal
    generalize a.tmps.getD 30 undef = t30 at hal
    generalize a.tmps.getD 31 undef = t31 at hal
    generalize a.tmps.getD 32 undef = t32 at hal
    generalize a.tmps.getD 33 undef = t33 at hal
    generalize a.tmps.getD 34 undef = t34 at hal
    generalize a.tmps.getD 35 undef = t35 at hal
    generalize a.tmps.getD 36 undef = t36 at hal
    generalize a.tmps.getD 37 undef = t37 at hal
    generalize a.tmps.getD 38 undef = t38 at hal
    generalize a.tmps.getD 39 undef = t39 at hal
    generalize a.tmps.getD 40 undef = t40 at hal
    generalize a.tmps.getD 41 undef = t41 at hal
    generalize a.tmps.getD 42 undef = t42 at hal
    generalize a.tmps.getD 43 undef = t43 at hal
    generalize a.tmps.getD 44 undef = t44 at hal
    generalize a.tmps.getD 45 undef = t45 at hal
    generalize a.tmps.getD 46 undef = t46 at hal
    generalize a.tmps.getD 47 undef = t47 at hal
    generalize a.tmps.getD 48 undef = t48 at hal
    generalize a.tmps.getD 49 undef = t49 at hal
    generalize a.tmps.getD 50 undef = t50 at hal
    generalize a.tmps.getD 51 undef = t51 at hal
    generalize a.tmps.getD 52 undef = t52 at hal
    generalize a.tmps.getD 53 undef = t53 at hal
    generalize a.tmps.getD 54 undef = t54 at hal
    generalize a.tmps.getD 55 undef = t55 at hal
    generalize a.tmps.getD 56 undef = t56 at hal
    generalize a.tmps.getD 57 undef = t57 at hal
    generalize a.tmps.getD 58 undef = t58 at hal
    generalize a.tmps.getD 59 undef = t59 at hal
    generalize a.tmps.getD 60 undef = t60 at hal
    generalize a.tmps.getD 61 undef = t61 at hal
    generalize a.tmps.getD 62 undef = t62 at hal
    generalize a.tmps.getD 63 undef = t63 at hal
    generalize a.tmps.getD 64 undef = t64 at hal
    generalize a.tmps.getD 66 undef = t66 at hal
    generalize a.tmps.getD 67 undef = t67 at hal
    generalize a.tmps.getD 68 undef = t68 at hal
    generalize a.tmps.getD 69 undef = t69 at hal
    generalize a.tmps.getD 70 undef = t70 at hal
    generalize a.tmps.getD 71 undef = t71 at hal
    generalize a.tmps.getD 72 undef = t72 at hal
    generalize a.tmps.getD 73 undef = t73 at hal
    generalize a.tmps.getD 74 undef = t74 at hal
    generalize a.tmps.getD 75 undef = t75 at hal
    generalize a.tmps.getD 76 undef = t76 at hal
    generalize a.tmps.getD 77 undef = t77 at hal
    generalize a.tmps.getD 78 undef = t78 at hal
    generalize a.tmps.getD 79 undef = t79 at hal
    generalize a.tmps.getD 80 undef = t80 at hal
    generalize a.tmps.getD 81 undef = t81 at hal
    generalize a.tmps.getD 82 undef = t82 at hal
    generalize a.tmps.getD 83 undef = t83 at hal
    generalize a.tmps.getD 84 undef = t84 at hal
    generalize a.tmps.getD 85 undef = t85 at hal
    generalize a.tmps.getD 86 undef = t86 at hal
    generalize a.tmps.getD 87 undef = t87 at hal
    generalize a.tmps.getD 88 undef = t88 at hal
    generalize a.tmps.getD 89 undef = t89 at hal
    generalize a.tmps.getD 90 undef = t90 at hal
    generalize a.tmps.getD 91 undef = t91 at hal
    generalize a.tmps.getD 92 undef = t92 at hal
    generalize a.tmps.getD 93 undef = t93 at hal
    generalize a.tmps.getD 94 undef = t94 at hal
    generalize a.tmps.getD 95 undef = t95 at hal
    generalize a.tmps.getD 96 undef = t96 at hal
    generalize a.tmps.getD 97 undef = t97 at hal
    generalize a.tmps.getD 98 undef = t98 at hal
    generalize a.tmps.getD 99 undef = t99 at hal
    generalize a.tmps.getD 100 undef = t100 at hal
    generalize a.tmps.getD 101 undef = t101 at hal
    clear l0 l2 l3 l4 l5 l6 l65 hde
    subst hal
    go_wp2_with fail
    refine (rget_short A n c 0 8 _ (by omega) (by have := L4.out; omega) (by omega) (by omega) (by omega)).mono ?_
    rintro e w7 ⟨rfl, rfl⟩
    go_wp2_with fail
    go_quiet (fail)
    go_wp2_with fail
    go_ret
    exact ⟨rfl, (U5.out.trans U8.out).drewN' _⟩
end Go.Proofs.Ytkddehfedfiagaa
