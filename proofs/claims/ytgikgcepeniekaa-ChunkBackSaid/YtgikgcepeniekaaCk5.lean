import Derived.Test.YtgikgcepeniekaaCk3
import Derived.Test.YtgikgcepeniekaaCkS
import Derived.Test.YtgikgcepeniekaaStaged
namespace Go.Proofs.Ytgikgcepeniekaa
open Go Go.RowKit
set_option linter.unusedVariables false
/-! The reader: bytes. -/
/-- Bytes of its own, and no error. -/
def PhT (B : Nat) (ys : List Int) (v : Value) (w : World) : Prop := ∃ A N c, v = .tuple #[.slice A N c, .int .i64 0] ∧ N = ys.length ∧ OwnI .u8 5 B w A N c ys
def PhB (B : Nat) (ys : List Int) (v : Value) (w : World) : Prop := ∃ A N c, v = .slice A N c ∧ N = ys.length ∧ OwnI .u8 5 B w A N c ys
theorem keeps_PhT (B : Nat) (ys : List Int) : Keeps (PhT B ys) := fun v w w' ⟨A, N, c, e, hn, ho⟩ hu => ⟨A, N, c, e, hn, own_up ho hu⟩
theorem keeps_PhB (B : Nat) (ys : List Int) : Keeps (PhB B ys) := fun v w w' ⟨A, N, c, e, hn, ho⟩ hu => ⟨A, N, c, e, hn, own_up ho hu⟩
theorem OwnI.base {k : IntKind} {E : TypeId} {B B' : Nat} {w : World} {A : Option Addr} {N c : Nat} {xs : List Int} (h : OwnI k E B w A N c xs) (hb : B' ≤ B) : OwnI k E B' w A N c xs := by
  refine ⟨h.1, ?_⟩
  rcases h.2 with h2 | ⟨g, cap, cur, h1, h2, h3⟩
  · exact .inl h2
  · exact .inr ⟨g, cap, cur, h1, Nat.le_trans hb h2, h3⟩
/-- Behind a method that reads bytes: they are a row of its own. -/
def BytesPost (g : Nat) (xs : List Int) (ys : List Int) (r' : R) (w : World) (e : Ending) (w' : World) : Prop := ∃ A N c, e = .returned (.slice A N c) ∧ Hid (N = ys.length) ∧ Hid (OwnI .u8 5 w.heap.size w' A N c ys) ∧ Hid (IsR w' g xs r') ∧ Hid (Out (One g) w w')
section
variable {g : Nat} {xs : List Int} {r : R}
set_option maxRecDepth 100000 in
set_option maxHeartbeats 2000000 in
theorem rbytes_ok (w : World) (h : IsR w g xs r) (n : Nat) (hn : r.at_ + n ≤ xs.length) : Calls Try.prog 54 #[.pointer (some ⟨g, 0, none⟩), .int .i64 (n : Int)] w (BytesPost g xs ((xs.drop r.at_).take n) ⟨r.at_ + n, r.e⟩ w) := by
  obtain ⟨A, m, c, k1, k2, k3⟩ := h.ex
  have hc0 := cell_of k1 (j := 0) rfl
  have hc1 := cell_of k1 (j := 1) rfl
  have hm : m ≤ 140737488351232 := by have := h.len; have := k2.len; omega
  have HM := Lib.hid k2.len
  have HA := Lib.hid h.at_
  have H := Lib.hid h
  have HB := Lib.hid k2
  have HN := Lib.hid hn
  clear hn
  clear h k1 k2 k3
  have HK : ∀ φ ∈ [Is (.pointer (some ⟨g, 0, none⟩)), Is (.pointer (some ⟨g, 0, none⟩)), Is (.pointer (some ⟨g, 0, none⟩)), Is (.slice A m c), Is (.pointer (some ⟨g, 0, none⟩)), Is (.pointer (some ⟨g, 0, none⟩)), Is (.pointer (some ⟨g, 1, none⟩)), Is (.int .i64 (r.at_ : Int)), Is (.int .i64 (n : Int)), PhT w.heap.size ((xs.drop r.at_).take n), PhT w.heap.size ((xs.drop r.at_).take n), PhB w.heap.size ((xs.drop r.at_).take n), Is (.int .i64 0), PhB w.heap.size ((xs.drop r.at_).take n), Is (.int .i64 0)], Keeps φ := by
    intro φ hφ
    simp only [List.mem_cons, List.mem_nil_iff, or_false] at hφ
    rcases hφ with rfl | rfl | rfl | rfl | rfl | rfl | rfl | rfl | rfl | rfl | rfl | rfl | rfl | rfl | rfl <;> first | exact keeps_is _ | exact keeps_PhT _ _ | exact keeps_PhB _ _
  go_enter Try.func54, Try.ntmps54
  go_upto_region 1 with (fail)
  refine staged_lit (by kernel_rfl) (facts [Is (.pointer (some ⟨g, 0, none⟩)), Is (.pointer (some ⟨g, 0, none⟩)), Is (.pointer (some ⟨g, 0, none⟩)), Is (.slice A m c), Is (.pointer (some ⟨g, 0, none⟩)), Is (.pointer (some ⟨g, 0, none⟩)), Is (.pointer (some ⟨g, 1, none⟩)), Is (.int .i64 (r.at_ : Int)), Is (.int .i64 (n : Int)), PhT w.heap.size ((xs.drop r.at_).take n), PhT w.heap.size ((xs.drop r.at_).take n), PhB w.heap.size ((xs.drop r.at_).take n), Is (.int .i64 0), PhB w.heap.size ((xs.drop r.at_).take n), Is (.int .i64 0)]) (Stg [] (fun _ wx => Up w wx)) 25 rfl (by decide +kernel) (by decide +kernel) (Stg.start (up_drewN w 1)) ?_ ?_
  · refine ⟨?_, ?_, ?_, ?_, ?_, ?_, ?_, ?_, ?_, ?_, ?_, ?_, ?_, ?_, ?_, trivial⟩
    · refine opS_same rfl rfl fun L ac w1 hJ hl hc ho hd => ?_
      have s0 : ac.eval (.tmp 0) = .pointer (some ⟨g, 0, none⟩) := ho 0 rfl
      exact ⟨_, x_move (.tmp 0) rfl s0, rfl⟩
    · refine opS_same rfl rfl fun L ac w1 hJ hl hc ho hd => ?_
      have d0 : ac.eval (.tmp 8) = .pointer (some ⟨g, 0, none⟩) := hd 0 _ _ rfl rfl rfl
      exact ⟨_, x_nil (.tmp 8) rfl d0, rfl⟩
    · refine opS_same rfl rfl fun L ac w1 hJ hl hc ho hd => ?_
      have d1 : ac.eval (.tmp 9) = .pointer (some ⟨g, 0, none⟩) := hd 1 _ _ rfl rfl rfl
      exact ⟨_, x_field 77 (.tmp 9) 0 rfl d1 (fld770 _ _ _), rfl⟩
    · refine opS_same rfl rfl fun L ac w1 hJ hl hc ho hd => ?_
      have d2 : ac.eval (.tmp 10) = .pointer (some ⟨g, 0, none⟩) := hd 2 _ _ rfl rfl rfl
      obtain ⟨_, _, hU⟩ := hJ
      exact ⟨_, x_load 23 (.tmp 10) rfl d2 (run_load1 agg23 (cell_up hc0 hU)), rfl⟩
    · refine opS_same rfl rfl fun L ac w1 hJ hl hc ho hd => ?_
      have s0 : ac.eval (.tmp 0) = .pointer (some ⟨g, 0, none⟩) := ho 0 rfl
      exact ⟨_, x_move (.tmp 0) rfl s0, rfl⟩
    · refine opS_same rfl rfl fun L ac w1 hJ hl hc ho hd => ?_
      have d4 : ac.eval (.tmp 12) = .pointer (some ⟨g, 0, none⟩) := hd 4 _ _ rfl rfl rfl
      exact ⟨_, x_nil (.tmp 12) rfl d4, rfl⟩
    · refine opS_same rfl rfl fun L ac w1 hJ hl hc ho hd => ?_
      have d5 : ac.eval (.tmp 13) = .pointer (some ⟨g, 0, none⟩) := hd 5 _ _ rfl rfl rfl
      exact ⟨_, x_field 77 (.tmp 13) 1 rfl d5 (fld771 _ _ _), rfl⟩
    · refine opS_same rfl rfl fun L ac w1 hJ hl hc ho hd => ?_
      have d6 : ac.eval (.tmp 14) = .pointer (some ⟨g, 1, none⟩) := hd 6 _ _ rfl rfl rfl
      obtain ⟨_, _, hU⟩ := hJ
      exact ⟨_, x_load 3 (.tmp 14) rfl d6 (run_load1 agg3 (cell_up hc1 hU)), rfl⟩
    · refine opS_same rfl rfl fun L ac w1 hJ hl hc ho hd => ?_
      have s1 : ac.eval (.tmp 1) = .int .i64 (n : Int) := ho 1 rfl
      exact ⟨_, x_move (.tmp 1) rfl s1, rfl⟩
    · refine opS_callUp rfl rfl (fun k wa wb h hu => Up.trans h hu) (facts_keep HK) fun L ac w1 hJ hl hc ho hd => ?_
      have d3 : ac.eval (.tmp 11) = .slice A m c := hd 3 _ _ rfl rfl rfl
      have d7 : ac.eval (.tmp 15) = .int .i64 (r.at_ : Int) := hd 7 _ _ rfl rfl rfl
      have d8 : ac.eval (.tmp 16) = .int .i64 (n : Int) := hd 8 _ _ rfl rfl rfl
      obtain ⟨_, _, hU⟩ := hJ
      refine ⟨63, _, x_fcall 63 [.tmp 11, .tmp 15, .tmp 16] _ rfl (by kernel_rfl), ?_⟩
      simp only [List.map_cons, List.map_nil, d3, d7, d8]
      refine (part_any A m c r.at_ n xs w1 (HB.out.up hU) (by omega) (by have := HN.out; have := HM.out; omega)).mono fun e w2 ⟨A9, N9, c9, he, hn9, ho9, hu9⟩ => ⟨_, he, hu9.out, A9, N9, c9, rfl, ?_, ho9.out.base hU.size⟩
      have := HN.out
      rw [hn9.out]; simp; omega
    · refine opS_same rfl rfl fun L ac w1 hJ hl hc ho hd => ?_
      have d9 := hd 9 _ _ rfl rfl rfl
      exact ⟨_, x_move (.tmp 17) rfl rfl, d9⟩
    · refine opS_same rfl rfl fun L ac w1 hJ hl hc ho hd => ?_
      have d10 := hd 10 _ _ rfl rfl rfl
      obtain ⟨A9, N9, c9, e9, hn9, ho9⟩ := d10
      exact ⟨_, x_extract (.tmp 7) 0 rfl e9 rfl, A9, N9, c9, rfl, hn9, ho9⟩
    · refine opS_same rfl rfl fun L ac w1 hJ hl hc ho hd => ?_
      have d10 := hd 10 _ _ rfl rfl rfl
      obtain ⟨A9, N9, c9, e9, hn9, ho9⟩ := d10
      exact ⟨_, x_extract (.tmp 7) 1 rfl e9 rfl, rfl⟩
    · refine opS_same rfl rfl fun L ac w1 hJ hl hc ho hd => ?_
      have d11 := hd 11 _ _ rfl rfl rfl
      exact ⟨_, x_assign (.tmp 18) rfl rfl, d11⟩
    · refine opS_same rfl rfl fun L ac w1 hJ hl hc ho hd => ?_
      have d12 : ac.eval (.tmp 19) = .int .i64 0 := hd 12 _ _ rfl rfl rfl
      exact ⟨_, x_assign (.tmp 19) rfl d12, rfl⟩
  · intro L a1 w9 hI hall
    obtain ⟨k, hk, hU⟩ := hI.done hall (by simp)
    have HU := Lib.hid hU
    clear hk hU k HK hc0 hc1
    have l0 : a1.tmps.getD 0 undef = .pointer (some ⟨g, 0, none⟩) := hI.old 0 rfl
    have l1 : a1.tmps.getD 1 undef = .int .i64 (n : Int) := hI.old 1 rfl
    have l6 : a1.tmps.getD 6 undef = .int .i64 0 := hI.get hall (i := 14) rfl rfl
    obtain ⟨A5, N5, c5, l5, hn5, ho5⟩ := hI.get hall (i := 13) (d := 5) rfl rfl
    have hde : a1.defers = [] := hI.defers
    have hal := act_lit a1 25 hI.size
    clear hI
    simp only [List.range, List.range.loop, List.map_cons, List.map_nil] at hal
    rw [l0, l1, l6, l5, hde] at hal
    generalize a1.tmps.getD 2 undef = t2 at hal
    generalize a1.tmps.getD 3 undef = t3 at hal
    generalize a1.tmps.getD 4 undef = t4 at hal
    generalize a1.tmps.getD 7 undef = t7 at hal
    generalize a1.tmps.getD 8 undef = t8 at hal
    generalize a1.tmps.getD 9 undef = t9 at hal
    generalize a1.tmps.getD 10 undef = t10 at hal
    generalize a1.tmps.getD 11 undef = t11 at hal
    generalize a1.tmps.getD 12 undef = t12 at hal
    generalize a1.tmps.getD 13 undef = t13 at hal
    generalize a1.tmps.getD 14 undef = t14 at hal
    generalize a1.tmps.getD 15 undef = t15 at hal
    generalize a1.tmps.getD 16 undef = t16 at hal
    generalize a1.tmps.getD 17 undef = t17 at hal
    generalize a1.tmps.getD 18 undef = t18 at hal
    generalize a1.tmps.getD 19 undef = t19 at hal
    generalize a1.tmps.getD 20 undef = t20 at hal
    generalize a1.tmps.getD 21 undef = t21 at hal
    generalize a1.tmps.getD 22 undef = t22 at hal
    generalize a1.tmps.getD 23 undef = t23 at hal
    generalize a1.tmps.getD 24 undef = t24 at hal
    clear l0 l1 l6 l5 hde
    subst hal
    have HO5 := Lib.hid ho5
    have HN5 := Lib.hid hn5
    clear ho5 hn5
    go_wp2_with fail
    refine (rpass_ok n w9 (H.out.up HU.out) HN.out).mono ?_
    intro e w2 hp
    have HP := Lib.hid (hp.outr HU.out)
    have HO := Lib.hid hp.2.2.out
    have HH := Lib.hid (show g < w.heap.size from H.out.lt)
    obtain ⟨rfl, -⟩ := hp
    go_wp2_with fail
    go_ret
    refine ⟨A5, N5, c5, rfl, HN5, Lib.hid (HO.out.own HO5.out (fun q hq e => ?_)), HP.out.2.1, HP.out.2.2⟩
    have h1 : q = g := e
    have := (row_lt HO5.out (by rwa [ownBlock_slice] at hq)).1
    have := HH.out
    omega
set_option maxRecDepth 100000 in
set_option maxHeartbeats 2000000 in
theorem rbytes_short (w : World) (h : IsR w g xs r) (n : Nat) (hn : xs.length < r.at_ + n) : Calls Try.prog 54 #[.pointer (some ⟨g, 0, none⟩), .int .i64 (n : Int)] w (BytesPost g xs [] (failR 3 r) w) := by
  obtain ⟨A, m, c, k1, k2, k3⟩ := h.ex
  have hc0 := cell_of k1 (j := 0) rfl
  have hc1 := cell_of k1 (j := 1) rfl
  have hm : m ≤ 140737488351232 := by have := h.len; have := k2.len; omega
  have HM := Lib.hid k2.len
  have HA := Lib.hid h.at_
  have H := Lib.hid h
  have HB := Lib.hid k2
  have HN := Lib.hid hn
  clear hn
  clear h k1 k2 k3
  have HK : ∀ φ ∈ [Is (.pointer (some ⟨g, 0, none⟩)), Is (.pointer (some ⟨g, 0, none⟩)), Is (.pointer (some ⟨g, 0, none⟩)), Is (.slice A m c), Is (.pointer (some ⟨g, 0, none⟩)), Is (.pointer (some ⟨g, 0, none⟩)), Is (.pointer (some ⟨g, 1, none⟩)), Is (.int .i64 (r.at_ : Int)), Is (.int .i64 (n : Int)), Is (.tuple #[.slice none 0 0, .int .i64 3]), Is (.tuple #[.slice none 0 0, .int .i64 3]), Is (.slice none 0 0), Is (.int .i64 3), Is (.slice none 0 0), Is (.int .i64 3)], Keeps φ := by
    intro φ hφ
    simp only [List.mem_cons, List.mem_nil_iff, or_false] at hφ
    rcases hφ with rfl | rfl | rfl | rfl | rfl | rfl | rfl | rfl | rfl | rfl | rfl | rfl | rfl | rfl | rfl <;> first | exact keeps_is _ | exact keeps_PhT _ _ | exact keeps_PhB _ _
  go_enter Try.func54, Try.ntmps54
  go_upto_region 1 with (fail)
  refine staged_lit (by kernel_rfl) (facts [Is (.pointer (some ⟨g, 0, none⟩)), Is (.pointer (some ⟨g, 0, none⟩)), Is (.pointer (some ⟨g, 0, none⟩)), Is (.slice A m c), Is (.pointer (some ⟨g, 0, none⟩)), Is (.pointer (some ⟨g, 0, none⟩)), Is (.pointer (some ⟨g, 1, none⟩)), Is (.int .i64 (r.at_ : Int)), Is (.int .i64 (n : Int)), Is (.tuple #[.slice none 0 0, .int .i64 3]), Is (.tuple #[.slice none 0 0, .int .i64 3]), Is (.slice none 0 0), Is (.int .i64 3), Is (.slice none 0 0), Is (.int .i64 3)]) (Stg [] (fun _ wx => Up w wx)) 25 rfl (by decide +kernel) (by decide +kernel) (Stg.start (up_drewN w 1)) ?_ ?_
  · refine ⟨?_, ?_, ?_, ?_, ?_, ?_, ?_, ?_, ?_, ?_, ?_, ?_, ?_, ?_, ?_, trivial⟩
    · refine opS_same rfl rfl fun L ac w1 hJ hl hc ho hd => ?_
      have s0 : ac.eval (.tmp 0) = .pointer (some ⟨g, 0, none⟩) := ho 0 rfl
      exact ⟨_, x_move (.tmp 0) rfl s0, rfl⟩
    · refine opS_same rfl rfl fun L ac w1 hJ hl hc ho hd => ?_
      have d0 : ac.eval (.tmp 8) = .pointer (some ⟨g, 0, none⟩) := hd 0 _ _ rfl rfl rfl
      exact ⟨_, x_nil (.tmp 8) rfl d0, rfl⟩
    · refine opS_same rfl rfl fun L ac w1 hJ hl hc ho hd => ?_
      have d1 : ac.eval (.tmp 9) = .pointer (some ⟨g, 0, none⟩) := hd 1 _ _ rfl rfl rfl
      exact ⟨_, x_field 77 (.tmp 9) 0 rfl d1 (fld770 _ _ _), rfl⟩
    · refine opS_same rfl rfl fun L ac w1 hJ hl hc ho hd => ?_
      have d2 : ac.eval (.tmp 10) = .pointer (some ⟨g, 0, none⟩) := hd 2 _ _ rfl rfl rfl
      obtain ⟨_, _, hU⟩ := hJ
      exact ⟨_, x_load 23 (.tmp 10) rfl d2 (run_load1 agg23 (cell_up hc0 hU)), rfl⟩
    · refine opS_same rfl rfl fun L ac w1 hJ hl hc ho hd => ?_
      have s0 : ac.eval (.tmp 0) = .pointer (some ⟨g, 0, none⟩) := ho 0 rfl
      exact ⟨_, x_move (.tmp 0) rfl s0, rfl⟩
    · refine opS_same rfl rfl fun L ac w1 hJ hl hc ho hd => ?_
      have d4 : ac.eval (.tmp 12) = .pointer (some ⟨g, 0, none⟩) := hd 4 _ _ rfl rfl rfl
      exact ⟨_, x_nil (.tmp 12) rfl d4, rfl⟩
    · refine opS_same rfl rfl fun L ac w1 hJ hl hc ho hd => ?_
      have d5 : ac.eval (.tmp 13) = .pointer (some ⟨g, 0, none⟩) := hd 5 _ _ rfl rfl rfl
      exact ⟨_, x_field 77 (.tmp 13) 1 rfl d5 (fld771 _ _ _), rfl⟩
    · refine opS_same rfl rfl fun L ac w1 hJ hl hc ho hd => ?_
      have d6 : ac.eval (.tmp 14) = .pointer (some ⟨g, 1, none⟩) := hd 6 _ _ rfl rfl rfl
      obtain ⟨_, _, hU⟩ := hJ
      exact ⟨_, x_load 3 (.tmp 14) rfl d6 (run_load1 agg3 (cell_up hc1 hU)), rfl⟩
    · refine opS_same rfl rfl fun L ac w1 hJ hl hc ho hd => ?_
      have s1 : ac.eval (.tmp 1) = .int .i64 (n : Int) := ho 1 rfl
      exact ⟨_, x_move (.tmp 1) rfl s1, rfl⟩
    · refine opS_callUp rfl rfl (fun k wa wb h hu => Up.trans h hu) (facts_keep HK) fun L ac w1 hJ hl hc ho hd => ?_
      have d3 : ac.eval (.tmp 11) = .slice A m c := hd 3 _ _ rfl rfl rfl
      have d7 : ac.eval (.tmp 15) = .int .i64 (r.at_ : Int) := hd 7 _ _ rfl rfl rfl
      have d8 : ac.eval (.tmp 16) = .int .i64 (n : Int) := hd 8 _ _ rfl rfl rfl
      obtain ⟨_, _, hU⟩ := hJ
      refine ⟨63, _, x_fcall 63 [.tmp 11, .tmp 15, .tmp 16] _ rfl (by kernel_rfl), ?_⟩
      simp only [List.map_cons, List.map_nil, d3, d7, d8]
      refine (part_short A m c r.at_ n w1 (by omega) (by have := HN.out; have := HM.out; omega) (by have := HA.out; have := HM.out; omega)).mono fun e w2 ⟨he, hw⟩ => ⟨_, he, by rw [hw]; exact Up.refl _, rfl⟩
    · refine opS_same rfl rfl fun L ac w1 hJ hl hc ho hd => ?_
      have d9 : ac.eval (.tmp 17) = .tuple #[.slice none 0 0, .int .i64 3] := hd 9 _ _ rfl rfl rfl
      exact ⟨_, x_move (.tmp 17) rfl d9, rfl⟩
    · refine opS_same rfl rfl fun L ac w1 hJ hl hc ho hd => ?_
      have d10 : ac.eval (.tmp 7) = .tuple #[.slice none 0 0, .int .i64 3] := hd 10 _ _ rfl rfl rfl
      exact ⟨_, x_extract (.tmp 7) 0 rfl d10 rfl, rfl⟩
    · refine opS_same rfl rfl fun L ac w1 hJ hl hc ho hd => ?_
      have d10 : ac.eval (.tmp 7) = .tuple #[.slice none 0 0, .int .i64 3] := hd 10 _ _ rfl rfl rfl
      exact ⟨_, x_extract (.tmp 7) 1 rfl d10 rfl, rfl⟩
    · refine opS_same rfl rfl fun L ac w1 hJ hl hc ho hd => ?_
      have d11 : ac.eval (.tmp 18) = .slice none 0 0 := hd 11 _ _ rfl rfl rfl
      exact ⟨_, x_assign (.tmp 18) rfl d11, rfl⟩
    · refine opS_same rfl rfl fun L ac w1 hJ hl hc ho hd => ?_
      have d12 : ac.eval (.tmp 19) = .int .i64 3 := hd 12 _ _ rfl rfl rfl
      exact ⟨_, x_assign (.tmp 19) rfl d12, rfl⟩
  · intro L a1 w9 hI hall
    obtain ⟨k, hk, hU⟩ := hI.done hall (by simp)
    have HU := Lib.hid hU
    clear hk hU k HK hc0 hc1
    have l0 : a1.tmps.getD 0 undef = .pointer (some ⟨g, 0, none⟩) := hI.old 0 rfl
    have l1 : a1.tmps.getD 1 undef = .int .i64 (n : Int) := hI.old 1 rfl
    have l6 : a1.tmps.getD 6 undef = .int .i64 3 := hI.get hall (i := 14) rfl rfl
    have l5 : a1.tmps.getD 5 undef = .slice none 0 0 := hI.get hall (i := 13) rfl rfl
    have hde : a1.defers = [] := hI.defers
    have hal := act_lit a1 25 hI.size
    clear hI
    simp only [List.range, List.range.loop, List.map_cons, List.map_nil] at hal
    rw [l0, l1, l6, l5, hde] at hal
    generalize a1.tmps.getD 2 undef = t2 at hal
    generalize a1.tmps.getD 3 undef = t3 at hal
    generalize a1.tmps.getD 4 undef = t4 at hal
    generalize a1.tmps.getD 7 undef = t7 at hal
    generalize a1.tmps.getD 8 undef = t8 at hal
    generalize a1.tmps.getD 9 undef = t9 at hal
    generalize a1.tmps.getD 10 undef = t10 at hal
    generalize a1.tmps.getD 11 undef = t11 at hal
    generalize a1.tmps.getD 12 undef = t12 at hal
    generalize a1.tmps.getD 13 undef = t13 at hal
    generalize a1.tmps.getD 14 undef = t14 at hal
    generalize a1.tmps.getD 15 undef = t15 at hal
    generalize a1.tmps.getD 16 undef = t16 at hal
    generalize a1.tmps.getD 17 undef = t17 at hal
    generalize a1.tmps.getD 18 undef = t18 at hal
    generalize a1.tmps.getD 19 undef = t19 at hal
    generalize a1.tmps.getD 20 undef = t20 at hal
    generalize a1.tmps.getD 21 undef = t21 at hal
    generalize a1.tmps.getD 22 undef = t22 at hal
    generalize a1.tmps.getD 23 undef = t23 at hal
    generalize a1.tmps.getD 24 undef = t24 at hal
    clear l0 l1 l6 l5 hde
    subst hal
    go_wp2_with fail
    refine (rpass_err (n : Int) 3 w9 (H.out.up HU.out) (.inl rfl)).mono ?_
    intro e w2 hp
    have HP := Lib.hid (hp.outr HU.out)
    obtain ⟨rfl, -⟩ := hp
    go_wp2_with fail
    go_ret
    exact ⟨none, 0, 0, rfl, Lib.hid rfl, Lib.hid (ownI_nil _ _ _ _), HP.out.2.1, HP.out.2.2⟩
set_option maxRecDepth 100000 in
set_option maxHeartbeats 2000000 in
theorem rbytes_neg (w : World) (h : IsR w g xs r) (n : Int) (hn : n < 0) : Calls Try.prog 54 #[.pointer (some ⟨g, 0, none⟩), .int .i64 n] w (BytesPost g xs [] (failR 1 r) w) := by
  obtain ⟨A, m, c, k1, k2, k3⟩ := h.ex
  have hc0 := cell_of k1 (j := 0) rfl
  have hc1 := cell_of k1 (j := 1) rfl
  have hm : m ≤ 140737488351232 := by have := h.len; have := k2.len; omega
  have HM := Lib.hid k2.len
  have HA := Lib.hid h.at_
  have H := Lib.hid h
  have HB := Lib.hid k2
  clear h k1 k2 k3
  have HK : ∀ φ ∈ [Is (.pointer (some ⟨g, 0, none⟩)), Is (.pointer (some ⟨g, 0, none⟩)), Is (.pointer (some ⟨g, 0, none⟩)), Is (.slice A m c), Is (.pointer (some ⟨g, 0, none⟩)), Is (.pointer (some ⟨g, 0, none⟩)), Is (.pointer (some ⟨g, 1, none⟩)), Is (.int .i64 (r.at_ : Int)), Is (.int .i64 n), Is (.tuple #[.slice none 0 0, .int .i64 1]), Is (.tuple #[.slice none 0 0, .int .i64 1]), Is (.slice none 0 0), Is (.int .i64 1), Is (.slice none 0 0), Is (.int .i64 1)], Keeps φ := by
    intro φ hφ
    simp only [List.mem_cons, List.mem_nil_iff, or_false] at hφ
    rcases hφ with rfl | rfl | rfl | rfl | rfl | rfl | rfl | rfl | rfl | rfl | rfl | rfl | rfl | rfl | rfl <;> first | exact keeps_is _ | exact keeps_PhT _ _ | exact keeps_PhB _ _
  go_enter Try.func54, Try.ntmps54
  go_upto_region 1 with (fail)
  refine staged_lit (by kernel_rfl) (facts [Is (.pointer (some ⟨g, 0, none⟩)), Is (.pointer (some ⟨g, 0, none⟩)), Is (.pointer (some ⟨g, 0, none⟩)), Is (.slice A m c), Is (.pointer (some ⟨g, 0, none⟩)), Is (.pointer (some ⟨g, 0, none⟩)), Is (.pointer (some ⟨g, 1, none⟩)), Is (.int .i64 (r.at_ : Int)), Is (.int .i64 n), Is (.tuple #[.slice none 0 0, .int .i64 1]), Is (.tuple #[.slice none 0 0, .int .i64 1]), Is (.slice none 0 0), Is (.int .i64 1), Is (.slice none 0 0), Is (.int .i64 1)]) (Stg [] (fun _ wx => Up w wx)) 25 rfl (by decide +kernel) (by decide +kernel) (Stg.start (up_drewN w 1)) ?_ ?_
  · refine ⟨?_, ?_, ?_, ?_, ?_, ?_, ?_, ?_, ?_, ?_, ?_, ?_, ?_, ?_, ?_, trivial⟩
    · refine opS_same rfl rfl fun L ac w1 hJ hl hc ho hd => ?_
      have s0 : ac.eval (.tmp 0) = .pointer (some ⟨g, 0, none⟩) := ho 0 rfl
      exact ⟨_, x_move (.tmp 0) rfl s0, rfl⟩
    · refine opS_same rfl rfl fun L ac w1 hJ hl hc ho hd => ?_
      have d0 : ac.eval (.tmp 8) = .pointer (some ⟨g, 0, none⟩) := hd 0 _ _ rfl rfl rfl
      exact ⟨_, x_nil (.tmp 8) rfl d0, rfl⟩
    · refine opS_same rfl rfl fun L ac w1 hJ hl hc ho hd => ?_
      have d1 : ac.eval (.tmp 9) = .pointer (some ⟨g, 0, none⟩) := hd 1 _ _ rfl rfl rfl
      exact ⟨_, x_field 77 (.tmp 9) 0 rfl d1 (fld770 _ _ _), rfl⟩
    · refine opS_same rfl rfl fun L ac w1 hJ hl hc ho hd => ?_
      have d2 : ac.eval (.tmp 10) = .pointer (some ⟨g, 0, none⟩) := hd 2 _ _ rfl rfl rfl
      obtain ⟨_, _, hU⟩ := hJ
      exact ⟨_, x_load 23 (.tmp 10) rfl d2 (run_load1 agg23 (cell_up hc0 hU)), rfl⟩
    · refine opS_same rfl rfl fun L ac w1 hJ hl hc ho hd => ?_
      have s0 : ac.eval (.tmp 0) = .pointer (some ⟨g, 0, none⟩) := ho 0 rfl
      exact ⟨_, x_move (.tmp 0) rfl s0, rfl⟩
    · refine opS_same rfl rfl fun L ac w1 hJ hl hc ho hd => ?_
      have d4 : ac.eval (.tmp 12) = .pointer (some ⟨g, 0, none⟩) := hd 4 _ _ rfl rfl rfl
      exact ⟨_, x_nil (.tmp 12) rfl d4, rfl⟩
    · refine opS_same rfl rfl fun L ac w1 hJ hl hc ho hd => ?_
      have d5 : ac.eval (.tmp 13) = .pointer (some ⟨g, 0, none⟩) := hd 5 _ _ rfl rfl rfl
      exact ⟨_, x_field 77 (.tmp 13) 1 rfl d5 (fld771 _ _ _), rfl⟩
    · refine opS_same rfl rfl fun L ac w1 hJ hl hc ho hd => ?_
      have d6 : ac.eval (.tmp 14) = .pointer (some ⟨g, 1, none⟩) := hd 6 _ _ rfl rfl rfl
      obtain ⟨_, _, hU⟩ := hJ
      exact ⟨_, x_load 3 (.tmp 14) rfl d6 (run_load1 agg3 (cell_up hc1 hU)), rfl⟩
    · refine opS_same rfl rfl fun L ac w1 hJ hl hc ho hd => ?_
      have s1 : ac.eval (.tmp 1) = .int .i64 n := ho 1 rfl
      exact ⟨_, x_move (.tmp 1) rfl s1, rfl⟩
    · refine opS_callUp rfl rfl (fun k wa wb h hu => Up.trans h hu) (facts_keep HK) fun L ac w1 hJ hl hc ho hd => ?_
      have d3 : ac.eval (.tmp 11) = .slice A m c := hd 3 _ _ rfl rfl rfl
      have d7 : ac.eval (.tmp 15) = .int .i64 (r.at_ : Int) := hd 7 _ _ rfl rfl rfl
      have d8 : ac.eval (.tmp 16) = .int .i64 n := hd 8 _ _ rfl rfl rfl
      obtain ⟨_, _, hU⟩ := hJ
      refine ⟨63, _, x_fcall 63 [.tmp 11, .tmp 15, .tmp 16] _ rfl (by kernel_rfl), ?_⟩
      simp only [List.map_cons, List.map_nil, d3, d7, d8]
      refine (part_neg A m c r.at_ n w1 hn).mono fun e w2 ⟨he, hw⟩ => ⟨_, he, by rw [hw]; exact Up.refl _, rfl⟩
    · refine opS_same rfl rfl fun L ac w1 hJ hl hc ho hd => ?_
      have d9 : ac.eval (.tmp 17) = .tuple #[.slice none 0 0, .int .i64 1] := hd 9 _ _ rfl rfl rfl
      exact ⟨_, x_move (.tmp 17) rfl d9, rfl⟩
    · refine opS_same rfl rfl fun L ac w1 hJ hl hc ho hd => ?_
      have d10 : ac.eval (.tmp 7) = .tuple #[.slice none 0 0, .int .i64 1] := hd 10 _ _ rfl rfl rfl
      exact ⟨_, x_extract (.tmp 7) 0 rfl d10 rfl, rfl⟩
    · refine opS_same rfl rfl fun L ac w1 hJ hl hc ho hd => ?_
      have d10 : ac.eval (.tmp 7) = .tuple #[.slice none 0 0, .int .i64 1] := hd 10 _ _ rfl rfl rfl
      exact ⟨_, x_extract (.tmp 7) 1 rfl d10 rfl, rfl⟩
    · refine opS_same rfl rfl fun L ac w1 hJ hl hc ho hd => ?_
      have d11 : ac.eval (.tmp 18) = .slice none 0 0 := hd 11 _ _ rfl rfl rfl
      exact ⟨_, x_assign (.tmp 18) rfl d11, rfl⟩
    · refine opS_same rfl rfl fun L ac w1 hJ hl hc ho hd => ?_
      have d12 : ac.eval (.tmp 19) = .int .i64 1 := hd 12 _ _ rfl rfl rfl
      exact ⟨_, x_assign (.tmp 19) rfl d12, rfl⟩
  · intro L a1 w9 hI hall
    obtain ⟨k, hk, hU⟩ := hI.done hall (by simp)
    have HU := Lib.hid hU
    clear hk hU k HK hc0 hc1
    have l0 : a1.tmps.getD 0 undef = .pointer (some ⟨g, 0, none⟩) := hI.old 0 rfl
    have l1 : a1.tmps.getD 1 undef = .int .i64 n := hI.old 1 rfl
    have l6 : a1.tmps.getD 6 undef = .int .i64 1 := hI.get hall (i := 14) rfl rfl
    have l5 : a1.tmps.getD 5 undef = .slice none 0 0 := hI.get hall (i := 13) rfl rfl
    have hde : a1.defers = [] := hI.defers
    have hal := act_lit a1 25 hI.size
    clear hI
    simp only [List.range, List.range.loop, List.map_cons, List.map_nil] at hal
    rw [l0, l1, l6, l5, hde] at hal
    generalize a1.tmps.getD 2 undef = t2 at hal
    generalize a1.tmps.getD 3 undef = t3 at hal
    generalize a1.tmps.getD 4 undef = t4 at hal
    generalize a1.tmps.getD 7 undef = t7 at hal
    generalize a1.tmps.getD 8 undef = t8 at hal
    generalize a1.tmps.getD 9 undef = t9 at hal
    generalize a1.tmps.getD 10 undef = t10 at hal
    generalize a1.tmps.getD 11 undef = t11 at hal
    generalize a1.tmps.getD 12 undef = t12 at hal
    generalize a1.tmps.getD 13 undef = t13 at hal
    generalize a1.tmps.getD 14 undef = t14 at hal
    generalize a1.tmps.getD 15 undef = t15 at hal
    generalize a1.tmps.getD 16 undef = t16 at hal
    generalize a1.tmps.getD 17 undef = t17 at hal
    generalize a1.tmps.getD 18 undef = t18 at hal
    generalize a1.tmps.getD 19 undef = t19 at hal
    generalize a1.tmps.getD 20 undef = t20 at hal
    generalize a1.tmps.getD 21 undef = t21 at hal
    generalize a1.tmps.getD 22 undef = t22 at hal
    generalize a1.tmps.getD 23 undef = t23 at hal
    generalize a1.tmps.getD 24 undef = t24 at hal
    clear l0 l1 l6 l5 hde
    subst hal
    go_wp2_with fail
    refine (rpass_err n 1 w9 (H.out.up HU.out) (.inr rfl)).mono ?_
    intro e w2 hp
    have HP := Lib.hid (hp.outr HU.out)
    obtain ⟨rfl, -⟩ := hp
    go_wp2_with fail
    go_ret
    exact ⟨none, 0, 0, rfl, Lib.hid rfl, Lib.hid (ownI_nil _ _ _ _), HP.out.2.1, HP.out.2.2⟩
theorem rbytes (n : Nat) (w : World) (h : IsR w g xs r) : Calls Try.prog 54 #[.pointer (some ⟨g, 0, none⟩), .int .i64 (n : Int)] w (BytesPost g xs (rdB xs n r) (rdN xs n r) w) := by
  by_cases hn : r.at_ + n ≤ xs.length
  · rw [rdB, rdN, if_pos hn, if_pos hn]; exact rbytes_ok w h n hn
  · rw [rdB, rdN, if_neg hn, if_neg hn]; exact rbytes_short w h n (by omega)
end
end Go.Proofs.Ytgikgcepeniekaa
namespace Go.Proofs.Ytgikgcepeniekaa
open Go Go.RowKit
set_option linter.unusedVariables false
/-! The reader: padded bytes. -/
def rdBI (xs : List Int) (n : Int) (r : R) : List Int := if n < 0 then [] else rdB xs n.toNat r
def rdNI (xs : List Int) (n : Int) (r : R) : R := if n < 0 then failR 1 r else rdN xs n.toNat r
def zerR (zs : List Int) (r : R) : R := zs.foldl (fun r x => reqR (x == 0) r) r
theorem zerR_snoc (zs : List Int) (x : Int) (r : R) : zerR (zs ++ [x]) r = reqR (x == 0) (zerR zs r) := by simp [zerR]
/-- A padded text is read. -/
structure PdStep (xs bs : List Int) (r r' : R) : Prop where
  ex : ∃ (n : Nat) (r1 : R), RdStep xs 2 (n : Int) r r1 ∧ bs = rdBI xs ((n : Int) - 4) (reqR (decide (4 ≤ (n : Int))) r1) ∧
    r' = zerR (rdB xs (padN n) (rdNI xs ((n : Int) - 4) (reqR (decide (4 ≤ (n : Int))) r1))) (rdN xs (padN n) (rdNI xs ((n : Int) - 4) (reqR (decide (4 ≤ (n : Int))) r1)))
/-- Behind it. -/
def PadPost (g : Nat) (xs : List Int) (r : R) (w : World) (e : Ending) (w' : World) : Prop := ∃ A N c bs r', e = .returned (.slice A N c) ∧ Hid (PdStep xs bs r r') ∧ Hid (N = bs.length) ∧ Hid (Byt bs) ∧ Hid (OwnI .u8 5 w.heap.size w' A N c bs) ∧ Hid (IsR w' g xs r') ∧ Hid (Out (One g) w w')
section
variable {g : Nat} {xs : List Int} {r : R}
theorem rbytesI (n : Int) (w : World) (h : IsR w g xs r) : Calls Try.prog 54 #[.pointer (some ⟨g, 0, none⟩), .int .i64 n] w (BytesPost g xs (rdBI xs n r) (rdNI xs n r) w) := by
  by_cases hn : n < 0
  · rw [rdBI, rdNI, if_pos hn, if_pos hn]; exact rbytes_neg w h n hn
  · rw [rdBI, rdNI, if_neg hn, if_neg hn]
    have := rbytes n.toNat w h
    rwa [Int.toNat_of_nonneg (by omega)] at this
theorem own_one {w w' : World} {B : Nat} {A : Option Addr} {N c : Nat} {ys : List Int} (h : OwnI .u8 5 B w A N c ys) (ho : Out (One g) w w') (hg : g < B) : OwnI .u8 5 B w' A N c ys :=
  ho.own h (fun q hq e => by
    have h1 : q = g := e
    have := (row_lt h (by rwa [ownBlock_slice] at hq)).1
    omega)
theorem IsR.byt {w : World} (h : IsR w g xs r) : Byt xs := by
  obtain ⟨A, m, c, h1, h2, h3⟩ := h.ex
  exact h2.byt
theorem byt_rdBI {n : Int} {r : R} (h : Byt xs) : Byt (rdBI xs n r) := by
  unfold rdBI rdB
  split
  · exact byt_nil
  · split
    · exact (h.drop _).take _
    · exact byt_nil
set_option maxRecDepth 100000 in
set_option maxHeartbeats 1000000 in
theorem rpadded (w : World) (h : IsR w g xs r) : Calls Try.prog 41 #[.pointer (some ⟨g, 0, none⟩)] w (PadPost g xs r w) := by
  have H := Lib.hid h
  have HG := Lib.hid h.lt
  clear h
  go_enter Try.func41, Try.ntmps41
  go_wp2_with fail
  refine (rtwo w H.out).mono ?_
  rintro e w1 ⟨v, r1, rfl, hs, hb, hi, ho⟩
  obtain ⟨n, rfl⟩ : ∃ n : Nat, v = n := ⟨v.toNat, by have := hb.out.1; omega⟩
  have hn : (n : Int) < 65536 := by have := hb.out.2; simpa using this
  go_wp2_with fail
  refine (rrequire (decide (4 ≤ (n : Int))) w1 hi.out).mono ?_
  rintro e w2 ⟨rfl, hi2, ho2⟩
  go_wp2_with fail
  refine (rbytesI ((n : Int) - 4) w2 hi2.out).mono ?_
  rintro e w3 ⟨A3, N3, c3, rfl, hN3, hO3, hi3, ho3⟩
  go_wp2_with (first
    | (go_at_call 34; refine (pad_any n _ (by omega)).mono ?_; rintro e w' ⟨rfl, rfl⟩)
    | fail)
  refine (rbytes (padN n) w3 hi3.out).mono ?_
  rintro e w4 ⟨A4, N4, c4, rfl, hN4, hO4, hi4, ho4⟩
  obtain ⟨r4, hr4⟩ : ∃ r4, r4 = rdN xs (padN n) (rdNI xs ((n : Int) - 4) (reqR (decide (4 ≤ (n : Int))) r1)) := ⟨_, rfl⟩
  obtain ⟨zs, hzs⟩ : ∃ zs, zs = rdB xs (padN n) (rdNI xs ((n : Int) - 4) (reqR (decide (4 ≤ (n : Int))) r1)) := ⟨_, rfl⟩
  have HO4 := Lib.hid (show Out (One g) w w4 from ((ho.out.trans ho2.out (Sub.refl _ _)).trans ho3.out (Sub.refl _ _)).trans ho4.out (Sub.refl _ _))
  have hz2 : w.heap.size ≤ w2.heap.size := by have := ho.out.size; have := ho2.out.size; omega
  have hz3 : w.heap.size ≤ w3.heap.size := by have := ho3.out.size; omega
  have HZ := Lib.hid (show OwnI .u8 5 w.heap.size w4 A4 N4 c4 zs by rw [hzs]; exact hO4.out.base hz3)
  have HB3 := Lib.hid (own_one (hO3.out.base hz2) ho4.out HG.out)
  have HI4 := Lib.hid (show IsR w4 g xs r4 by rw [hr4]; exact hi4.out)
  have HNZ := Lib.hid (show N4 = zs.length by rw [hzs]; exact hN4.out)
  have HS := hs
  have HR4 := Lib.hid hr4
  have HZS := Lib.hid hzs
  have hnz : N4 ≤ 4 := by
    rw [HNZ.out, hzs]; unfold rdB; split
    · simp; have := padN_lt n; omega
    · simp
  clear hr4 hzs hz2 hz3 ho4 hi4 hO4 hN4 ho3 hO3 hi3 ho2 hi2 hs hb hi ho hn
  go_wp2_with fail
  go_loopw [23] (fun i wr => ∃ k : Nat, k ≤ N4 ∧ i = .int .i64 (k : Int) ∧ Hid (IsR wr g xs (zerR (zs.take k) r4)) ∧ Hid (Out (One g) w4 wr)) (fun i _ => N4 - (intOf i).toNat)
  case atStart => exact ⟨0, Nat.zero_le _, rfl, HI4, Lib.hid (Out.refl _ _)⟩
  case round =>
    obtain ⟨k, hk, rfl, hi, ho⟩ := hrel
    have HW := Lib.hid (own_one HZ.out ho.out HG.out)
    by_cases hlt : k < N4
    · obtain ⟨x, hx⟩ : ∃ x, zs[k]? = some x := ⟨_, List.getElem?_eq_getElem (by rw [← HNZ.out]; exact hlt)⟩
      obtain ⟨ga, rfl, ga1, ga2⟩ := HW.out.at_ (by omega)
      have hcell := HW.out.cellAt hx
      have HX := Lib.hid (show zs.take (k + 1) = zs.take k ++ [x] by
        obtain ⟨hl, he⟩ := List.getElem?_eq_some_iff.1 hx
        rw [List.take_succ_eq_append_getElem hl, he])
      clear hx
      go_wp2_with fail
      refine (rrequire (x == 0) wr hi.out).mono ?_
      rintro e w5 ⟨rfl, hi5, ho5⟩
      go_wp2_with fail
      go_roundw
      case rel => exact ⟨k + 1, by omega, by go_num, Lib.hid (by rw [HX.out, zerR_snoc]; exact hi5.out), Lib.hid (ho.out.trans ho5.out (Sub.refl _ _))⟩
      case measure => simp [intOf]; omega
    · obtain rfl : k = N4 := by omega
      go_wp2_with fail
      go_ret
      have e1 : zs.take k = zs := List.take_of_length_le (by rw [HNZ.out]; exact Nat.le_refl _)
      have h5 := hi.out
      rw [e1] at h5
      exact ⟨A3, N3, c3, _, _, rfl, Lib.hid ⟨n, r1, HS.out, rfl, rfl⟩, hN3, Lib.hid (byt_rdBI H.out.byt), Lib.hid (own_one HB3.out ho.out HG.out), Lib.hid (by rw [← HR4.out, ← HZS.out]; exact h5), Lib.hid (HO4.out.trans ho.out (Sub.refl _ _))⟩
end
end Go.Proofs.Ytgikgcepeniekaa
