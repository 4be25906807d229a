import Derived.Test.YtahpejcejbgcpaaRt4
import Derived.Test.YtahpejcejbgcpaaRt2
import Derived.Test.YtahpejcejbgcpaaRt7
import Derived.Deep.RegionWith
namespace Go.Proofs.Ytahpejcejbgcpaa
open Go Go.RowKit
set_option linter.unusedVariables false
set_option linter.unusedSimpArgs false
set_option maxRecDepth 100000 in
set_option maxHeartbeats 1000000 in
theorem ackC_any (x : Wy) (n : Int) (full : Bool) (b g f : Nat) (w : World) (h : w.heap[b]? = some (.cells x.cs 23 (0, 0))) (hg : w.heap[g]? = some (.cells #[.int .i64 n] 3 (0, 0))) (hf : w.heap[f]? = some (.cells #[.bool full] 4 (0, 0))) (hx : x.Ok) (hn : 0 ≤ n) (hn2 : n ≤ 65536) : Calls Try.prog 32 #[.pointer (some ⟨b, 0, none⟩), .pointer (some ⟨f, 0, none⟩), .pointer (some ⟨g, 0, none⟩)] w (Turn b (ackW x n full) w) := by
  have hb := lt_of_blk h
  have T := Lib.hid (Tr.refl h)
  have H := Lib.hid h
  have HX := Lib.hid hx
  have kg : w.cell? ⟨g, 0, none⟩ = some (.int .i64 n) := cell_of hg rfl
  have kf : w.cell? ⟨f, 0, none⟩ = some (.bool full) := cell_of hf rfl
  clear h hx hg hf
  cases full with
  | false =>
    go_enter Try.func32, Try.ntmps32
    go_wp2_with fail
    go_end0
    exact turn_mk T.out (by unfold ackW; simp)
  | true =>
    by_cases h1 : 0 < n
    · have d1 : decide (n > 0) = true := decide_eq_true h1
      have e1 : ackW x n true = growW x n := by unfold ackW; simp [h1]
      rw [e1]
      clear e1
      go_enter Try.func32, Try.ntmps32
      go_wp2_with fail
      refine (growC_any x n b w H.out HX.out hn hn2).mono ?_
      rintro e w' ⟨rfl, h2, h3⟩
      go_wp2_with fail
      go_end0
      exact ⟨rfl, h2, h3⟩
    · have d1 : decide (n > 0) = false := decide_eq_false h1
      have e1 : ackW x n true = x := by unfold ackW; simp [h1]
      rw [e1]
      clear e1
      go_enter Try.func32, Try.ntmps32
      go_wp2_with fail
      go_end0
      exact turn_mk T.out rfl
end Go.Proofs.Ytahpejcejbgcpaa
namespace Go.Proofs.Ytahpejcejbgcpaa
open Go Go.RowKit
set_option linter.unusedVariables false
set_option linter.unusedSimpArgs false
theorem results_row_tmp {P : Program} {fn : Func} {p u : Tmp} {ty : TypeId} (h : fn.results = #[.cell p ty, .tmp u]) (tmps : Array Value) (w : World) (g : Nat) (t : TypeId) (cs : Array Value) (fr : Nat × Nat) (d : TypeDesc)
    (hp : tmps.getD p undef = .pointer (some ⟨g, 0, none⟩)) (hg : w.heap[g]? = some (.cells cs t fr))
    (hu : P.underlying ty = some d) (hd : (match d with | .struct _ | .array _ _ => true | _ => false) = true) (hi : (P.info? ty).map (·.size) = some cs.size) :
    (results fn tmps).run P w = .ok (.tuple #[.agg cs, tmps.getD u undef]) w := by
  have hp' : tmps[p]?.getD undef = .pointer (some ⟨g, 0, none⟩) := by simpa using hp
  simp [results, h, hp', asAddr, run_loadVar_row w g t ty cs fr d hg hu hd hi, Result.andThen]
abbrev W0 : Wy := ⟨0, 0, 0, 0, 0, 0, 0⟩
/-- A way and an error. -/
def WRes (y : Wy) (n : Int) (w : World) (e : Ending) (w' : World) : Prop := e = .returned (.tuple #[.agg y.cs, .int .i64 n]) ∧ Hid (Up w w')
set_option maxRecDepth 100000 in
set_option maxHeartbeats 2000000 in
theorem changed_f (x : Wy) (h : ¬ x.Ok) (m : Bool) (F : Value) (w : World) : Calls Try.prog 24 #[.agg x.cs, .bool m, F] w (WRes W0 2 w) := by
  have HS : ∀ wx, Calls Try.prog 12 #[.agg x.cs] wx fun e w' => e = .returned (.bool false) ∧ Hid (Up wx w') := fun wx => (sound_any x wx).mono fun e w' ⟨h1, h2⟩ => ⟨by rw [h1, okB_f h], Lib.hid h2⟩
  clear h
  have hu0 := up_alloc w (.cells x.cs 23)
  have hm0 := new_at w (.cells x.cs 23)
  have hm1 := new_at (w.alloc (.cells x.cs 23)) (.cells W0.cs 23)
  have hm0' := (up_alloc (w.alloc (.cells x.cs 23)) (.cells W0.cs 23)).block _ (lt_of_blk hm0) |>.trans hm0
  have hu1 : Up w ((w.alloc (.cells x.cs 23)).alloc (.cells W0.cs 23)) := hu0.trans (up_alloc _ _)
  have hsz : (w.alloc (.cells x.cs 23)).heap.size = w.heap.size + 1 := by simp
  rw [hsz] at hm1
  have HM1 := Lib.hid hm1
  have HM0 := Lib.hid hm0'
  have HU1 := Lib.hid hu1
  clear hm1 hm0' hu1 hsz hu0 hm0
  change Hid (((w.alloc (.cells x.cs 23)).alloc (.cells #[.int .i64 0, .int .i64 0, .int .i64 0, .int .i64 0, .int .i64 0, .int .i64 0, .int .i64 0] 23)).heap[w.heap.size + 1]? = _) at HM1
  change Hid (((w.alloc (.cells x.cs 23)).alloc (.cells #[.int .i64 0, .int .i64 0, .int .i64 0, .int .i64 0, .int .i64 0, .int .i64 0, .int .i64 0] 23)).heap[w.heap.size]? = _) at HM0
  change Hid (Up w ((w.alloc (.cells x.cs 23)).alloc (.cells #[.int .i64 0, .int .i64 0, .int .i64 0, .int .i64 0, .int .i64 0, .int .i64 0, .int .i64 0] 23))) at HU1
  go_enter Try.func24, Try.ntmps24
  go_upto_region 1 with (fail)
  generalize (w.alloc (.cells x.cs 23)).alloc (.cells #[.int .i64 0, .int .i64 0, .int .i64 0, .int .i64 0, .int .i64 0, .int .i64 0, .int .i64 0] 23) = w2 at HM1 HM0 HU1 ⊢
  obtain ⟨p, hp⟩ : ∃ p, p = w.heap.size := ⟨_, rfl⟩
  rw [← hp] at HM1 HM0 ⊢
  have HP := Lib.hid hp
  clear hp
  have k0 : w2.cell? ⟨p, 0, none⟩ = some (.int .i64 x.s) := cell_of HM0.out rfl
  have k1 : w2.cell? ⟨p, 1, none⟩ = some (.int .i64 x.v) := cell_of HM0.out rfl
  have k2 : w2.cell? ⟨p, 2, none⟩ = some (.int .i64 x.r) := cell_of HM0.out rfl
  have k3 : w2.cell? ⟨p, 3, none⟩ = some (.int .i64 x.e) := cell_of HM0.out rfl
  have k4 : w2.cell? ⟨p, 4, none⟩ = some (.int .i64 x.c) := cell_of HM0.out rfl
  have k5 : w2.cell? ⟨p, 5, none⟩ = some (.int .i64 x.t) := cell_of HM0.out rfl
  have k6 : w2.cell? ⟨p, 6, none⟩ = some (.int .i64 x.a) := cell_of HM0.out rfl
  go_wp2_with fail
  refine (HS _).mono ?_
  rintro e w3 ⟨rfl, HU3⟩
  have hm3 := (HU3.out.block _ (lt_of_blk HM1.out)).trans HM1.out
  have HU4 := Lib.hid (HU1.out.trans HU3.out)
  have HM3 := Lib.hid hm3
  have f3 : ∀ j, w3.frozen? ⟨p + 1, j, none⟩ = false := fun j => frozen_at hm3
  have q0 : w3.cell? ⟨p + 1, 0, none⟩ = some (.int .i64 0) := cell_of hm3 rfl
  have q1 : w3.cell? ⟨p + 1, 1, none⟩ = some (.int .i64 0) := cell_of hm3 rfl
  have q2 : w3.cell? ⟨p + 1, 2, none⟩ = some (.int .i64 0) := cell_of hm3 rfl
  have q3 : w3.cell? ⟨p + 1, 3, none⟩ = some (.int .i64 0) := cell_of hm3 rfl
  have q4 : w3.cell? ⟨p + 1, 4, none⟩ = some (.int .i64 0) := cell_of hm3 rfl
  have q5 : w3.cell? ⟨p + 1, 5, none⟩ = some (.int .i64 0) := cell_of hm3 rfl
  have q6 : w3.cell? ⟨p + 1, 6, none⟩ = some (.int .i64 0) := cell_of hm3 rfl
  clear k0 k1 k2 k3 k4 k5 k6
  clear hm3
  go_wp2_with fail
  have HT := ((((((((Tr.refl HM3.out).set 0 (.int .i64 W0.s)).set 1 (.int .i64 W0.v)).set 2 (.int .i64 W0.r)).set 3 (.int .i64 W0.e)).set 4 (.int .i64 W0.c)).set 5 (.int .i64 W0.t)).set 6 (.int .i64 W0.a))
  refine bodyPost_ret (results_row_tmp (fn := Try.f24) (p := 6) (u := 7) (ty := 23) rfl _ _ (p + 1) 23 W0.cs (0, 0) _ rfl HT.1 Try.underlying23 rfl rfl) rfl ⟨rfl, Lib.hid (Below.out HU4.out HT.2 (fun k hk => by rw [hk, HP.out]; omega) (HU4.out).size)⟩
set_option maxRecDepth 100000 in
set_option maxHeartbeats 2000000 in
theorem changed_m (x : Wy) (h : x.Ok) (F : Value) (w : World) : Calls Try.prog 24 #[.agg x.cs, .bool false, F] w (WRes W0 1 w) := by
  have HS : ∀ wx, Calls Try.prog 12 #[.agg x.cs] wx fun e w' => e = .returned (.bool true) ∧ Hid (Up wx w') := fun wx => (sound_any x wx).mono fun e w' ⟨h1, h2⟩ => ⟨by rw [h1, okB_t h], Lib.hid h2⟩
  clear h
  have hu0 := up_alloc w (.cells x.cs 23)
  have hm0 := new_at w (.cells x.cs 23)
  have hm1 := new_at (w.alloc (.cells x.cs 23)) (.cells W0.cs 23)
  have hm0' := (up_alloc (w.alloc (.cells x.cs 23)) (.cells W0.cs 23)).block _ (lt_of_blk hm0) |>.trans hm0
  have hu1 : Up w ((w.alloc (.cells x.cs 23)).alloc (.cells W0.cs 23)) := hu0.trans (up_alloc _ _)
  have hsz : (w.alloc (.cells x.cs 23)).heap.size = w.heap.size + 1 := by simp
  rw [hsz] at hm1
  have HM1 := Lib.hid hm1
  have HM0 := Lib.hid hm0'
  have HU1 := Lib.hid hu1
  clear hm1 hm0' hu1 hsz hu0 hm0
  change Hid (((w.alloc (.cells x.cs 23)).alloc (.cells #[.int .i64 0, .int .i64 0, .int .i64 0, .int .i64 0, .int .i64 0, .int .i64 0, .int .i64 0] 23)).heap[w.heap.size + 1]? = _) at HM1
  change Hid (((w.alloc (.cells x.cs 23)).alloc (.cells #[.int .i64 0, .int .i64 0, .int .i64 0, .int .i64 0, .int .i64 0, .int .i64 0, .int .i64 0] 23)).heap[w.heap.size]? = _) at HM0
  change Hid (Up w ((w.alloc (.cells x.cs 23)).alloc (.cells #[.int .i64 0, .int .i64 0, .int .i64 0, .int .i64 0, .int .i64 0, .int .i64 0, .int .i64 0] 23))) at HU1
  go_enter Try.func24, Try.ntmps24
  go_upto_region 1 with (fail)
  generalize (w.alloc (.cells x.cs 23)).alloc (.cells #[.int .i64 0, .int .i64 0, .int .i64 0, .int .i64 0, .int .i64 0, .int .i64 0, .int .i64 0] 23) = w2 at HM1 HM0 HU1 ⊢
  obtain ⟨p, hp⟩ : ∃ p, p = w.heap.size := ⟨_, rfl⟩
  rw [← hp] at HM1 HM0 ⊢
  have HP := Lib.hid hp
  clear hp
  have k0 : w2.cell? ⟨p, 0, none⟩ = some (.int .i64 x.s) := cell_of HM0.out rfl
  have k1 : w2.cell? ⟨p, 1, none⟩ = some (.int .i64 x.v) := cell_of HM0.out rfl
  have k2 : w2.cell? ⟨p, 2, none⟩ = some (.int .i64 x.r) := cell_of HM0.out rfl
  have k3 : w2.cell? ⟨p, 3, none⟩ = some (.int .i64 x.e) := cell_of HM0.out rfl
  have k4 : w2.cell? ⟨p, 4, none⟩ = some (.int .i64 x.c) := cell_of HM0.out rfl
  have k5 : w2.cell? ⟨p, 5, none⟩ = some (.int .i64 x.t) := cell_of HM0.out rfl
  have k6 : w2.cell? ⟨p, 6, none⟩ = some (.int .i64 x.a) := cell_of HM0.out rfl
  go_wp2_with fail
  refine (HS _).mono ?_
  rintro e w3 ⟨rfl, HU3⟩
  have hm3 := (HU3.out.block _ (lt_of_blk HM1.out)).trans HM1.out
  have HU4 := Lib.hid (HU1.out.trans HU3.out)
  have HM3 := Lib.hid hm3
  have f3 : ∀ j, w3.frozen? ⟨p + 1, j, none⟩ = false := fun j => frozen_at hm3
  have q0 : w3.cell? ⟨p + 1, 0, none⟩ = some (.int .i64 0) := cell_of hm3 rfl
  have q1 : w3.cell? ⟨p + 1, 1, none⟩ = some (.int .i64 0) := cell_of hm3 rfl
  have q2 : w3.cell? ⟨p + 1, 2, none⟩ = some (.int .i64 0) := cell_of hm3 rfl
  have q3 : w3.cell? ⟨p + 1, 3, none⟩ = some (.int .i64 0) := cell_of hm3 rfl
  have q4 : w3.cell? ⟨p + 1, 4, none⟩ = some (.int .i64 0) := cell_of hm3 rfl
  have q5 : w3.cell? ⟨p + 1, 5, none⟩ = some (.int .i64 0) := cell_of hm3 rfl
  have q6 : w3.cell? ⟨p + 1, 6, none⟩ = some (.int .i64 0) := cell_of hm3 rfl
  clear k0 k1 k2 k3 k4 k5 k6
  clear hm3
  go_wp2_with fail
  have HT := ((((((((Tr.refl HM3.out).set 0 (.int .i64 W0.s)).set 1 (.int .i64 W0.v)).set 2 (.int .i64 W0.r)).set 3 (.int .i64 W0.e)).set 4 (.int .i64 W0.c)).set 5 (.int .i64 W0.t)).set 6 (.int .i64 W0.a))
  refine bodyPost_ret (results_row_tmp (fn := Try.f24) (p := 6) (u := 7) (ty := 23) rfl _ _ (p + 1) 23 W0.cs (0, 0) _ rfl HT.1 Try.underlying23 rfl rfl) rfl ⟨rfl, Lib.hid (Below.out HU4.out HT.2 (fun k hk => by rw [hk, HP.out]; omega) (HU4.out).size)⟩
set_option maxRecDepth 100000 in
set_option maxHeartbeats 2000000 in
theorem changed_t (x y : Wy) (h : x.Ok) (K : Nat) (caps : Array Value) (w : World) (hcf : ∀ args wx, (callFunc K args).run Try.prog wx = .ok (.enter K args) wx)
    (hK : ∀ b w', w.heap.size ≤ b → w'.heap[b]? = some (.cells x.cs 23 (0, 0)) → Up w w' → Calls Try.prog K (#[.pointer (some ⟨b, 0, none⟩)] ++ caps) w' (Turn b y w')) :
    Calls Try.prog 24 #[.agg x.cs, .bool true, .func (.func K) #[] caps] w (WRes y 0 w) := by
  have HS : ∀ wx, Calls Try.prog 12 #[.agg x.cs] wx fun e w' => e = .returned (.bool true) ∧ Hid (Up wx w') := fun wx => (sound_any x wx).mono fun e w' ⟨h1, h2⟩ => ⟨by rw [h1, okB_t h], Lib.hid h2⟩
  have HK := Lib.hid hK
  clear h hK
  have hu0 := up_alloc w (.cells x.cs 23)
  have hm0 := new_at w (.cells x.cs 23)
  have hm1 := new_at (w.alloc (.cells x.cs 23)) (.cells W0.cs 23)
  have hm0' := (up_alloc (w.alloc (.cells x.cs 23)) (.cells W0.cs 23)).block _ (lt_of_blk hm0) |>.trans hm0
  have hu1 : Up w ((w.alloc (.cells x.cs 23)).alloc (.cells W0.cs 23)) := hu0.trans (up_alloc _ _)
  have hsz : (w.alloc (.cells x.cs 23)).heap.size = w.heap.size + 1 := by simp
  rw [hsz] at hm1
  have HM1 := Lib.hid hm1
  have HM0 := Lib.hid hm0'
  have HU1 := Lib.hid hu1
  clear hm1 hm0' hu1 hsz hu0 hm0
  change Hid (((w.alloc (.cells x.cs 23)).alloc (.cells #[.int .i64 0, .int .i64 0, .int .i64 0, .int .i64 0, .int .i64 0, .int .i64 0, .int .i64 0] 23)).heap[w.heap.size + 1]? = _) at HM1
  change Hid (((w.alloc (.cells x.cs 23)).alloc (.cells #[.int .i64 0, .int .i64 0, .int .i64 0, .int .i64 0, .int .i64 0, .int .i64 0, .int .i64 0] 23)).heap[w.heap.size]? = _) at HM0
  change Hid (Up w ((w.alloc (.cells x.cs 23)).alloc (.cells #[.int .i64 0, .int .i64 0, .int .i64 0, .int .i64 0, .int .i64 0, .int .i64 0, .int .i64 0] 23))) at HU1
  go_enter Try.func24, Try.ntmps24
  go_upto_region 1 with (fail)
  generalize (w.alloc (.cells x.cs 23)).alloc (.cells #[.int .i64 0, .int .i64 0, .int .i64 0, .int .i64 0, .int .i64 0, .int .i64 0, .int .i64 0] 23) = w2 at HM1 HM0 HU1 ⊢
  obtain ⟨p, hp⟩ : ∃ p, p = w.heap.size := ⟨_, rfl⟩
  rw [← hp] at HM1 HM0 ⊢
  have HP := Lib.hid hp
  clear hp
  have k0 : w2.cell? ⟨p, 0, none⟩ = some (.int .i64 x.s) := cell_of HM0.out rfl
  have k1 : w2.cell? ⟨p, 1, none⟩ = some (.int .i64 x.v) := cell_of HM0.out rfl
  have k2 : w2.cell? ⟨p, 2, none⟩ = some (.int .i64 x.r) := cell_of HM0.out rfl
  have k3 : w2.cell? ⟨p, 3, none⟩ = some (.int .i64 x.e) := cell_of HM0.out rfl
  have k4 : w2.cell? ⟨p, 4, none⟩ = some (.int .i64 x.c) := cell_of HM0.out rfl
  have k5 : w2.cell? ⟨p, 5, none⟩ = some (.int .i64 x.t) := cell_of HM0.out rfl
  have k6 : w2.cell? ⟨p, 6, none⟩ = some (.int .i64 x.a) := cell_of HM0.out rfl
  go_wp2_with fail
  refine (HS _).mono ?_
  rintro e w3 ⟨rfl, HU3⟩
  have hm3 := (HU3.out.block _ (lt_of_blk HM1.out)).trans HM1.out
  have hm0 := (HU3.out.block _ (lt_of_blk HM0.out)).trans HM0.out
  have HU4 := Lib.hid (HU1.out.trans HU3.out)
  have HM3 := Lib.hid hm3
  have HM4 := Lib.hid hm0
  clear hm3 hm0 HM1 HM0
  have hle : w.heap.size ≤ p := by rw [HP.out]; exact Nat.le_refl _
  clear k0 k1 k2 k3 k4 k5 k6
  go_wp2_with fail
  refine (HK.out p w3 hle HM4.out HU4.out).mono ?_
  rintro e w4 ⟨rfl, hk4, ho4⟩
  have HM5 := Lib.hid (ho4.blk HM3.out (by omega))
  have hm5 := HM5.out
  have HU5 : Hid (Up w w4) := Lib.hid (Below.out HU4.out ho4 (fun k hk => by rw [hk]; exact hle) HU4.out.size)
  have k0 : w4.cell? ⟨p, 0, none⟩ = some (.int .i64 y.s) := cell_of hk4 rfl
  have k1 : w4.cell? ⟨p, 1, none⟩ = some (.int .i64 y.v) := cell_of hk4 rfl
  have k2 : w4.cell? ⟨p, 2, none⟩ = some (.int .i64 y.r) := cell_of hk4 rfl
  have k3 : w4.cell? ⟨p, 3, none⟩ = some (.int .i64 y.e) := cell_of hk4 rfl
  have k4 : w4.cell? ⟨p, 4, none⟩ = some (.int .i64 y.c) := cell_of hk4 rfl
  have k5 : w4.cell? ⟨p, 5, none⟩ = some (.int .i64 y.t) := cell_of hk4 rfl
  have k6 : w4.cell? ⟨p, 6, none⟩ = some (.int .i64 y.a) := cell_of hk4 rfl
  have f3 : ∀ j, w4.frozen? ⟨p + 1, j, none⟩ = false := fun j => frozen_at hm5
  have q0 : w4.cell? ⟨p + 1, 0, none⟩ = some (.int .i64 0) := cell_of hm5 rfl
  have q1 : w4.cell? ⟨p + 1, 1, none⟩ = some (.int .i64 0) := cell_of hm5 rfl
  have q2 : w4.cell? ⟨p + 1, 2, none⟩ = some (.int .i64 0) := cell_of hm5 rfl
  have q3 : w4.cell? ⟨p + 1, 3, none⟩ = some (.int .i64 0) := cell_of hm5 rfl
  have q4 : w4.cell? ⟨p + 1, 4, none⟩ = some (.int .i64 0) := cell_of hm5 rfl
  have q5 : w4.cell? ⟨p + 1, 5, none⟩ = some (.int .i64 0) := cell_of hm5 rfl
  have q6 : w4.cell? ⟨p + 1, 6, none⟩ = some (.int .i64 0) := cell_of hm5 rfl
  clear hm5 ho4 hk4 hle HM4 HK HS
  go_wp2_with fail
  have HT := ((((((((Tr.refl HM5.out).set 0 (.int .i64 y.s)).set 1 (.int .i64 y.v)).set 2 (.int .i64 y.r)).set 3 (.int .i64 y.e)).set 4 (.int .i64 y.c)).set 5 (.int .i64 y.t)).set 6 (.int .i64 y.a))
  refine bodyPost_ret (results_row_tmp (fn := Try.f24) (p := 6) (u := 7) (ty := 23) rfl _ _ (p + 1) 23 y.cs (0, 0) _ rfl HT.1 Try.underlying23 rfl rfl) rfl ⟨rfl, Lib.hid (Below.out HU5.out HT.2 (fun k hk => by rw [hk, HP.out]; omega) (HU5.out).size)⟩
end Go.Proofs.Ytahpejcejbgcpaa
namespace Go.Proofs.Ytahpejcejbgcpaa
open Go Go.RowKit
set_option linter.unusedVariables false
set_option linter.unusedSimpArgs false
def measOf (x : Wy) (n : Int) : Wy × Int := if x.Ok then (if 0 ≤ n ∧ n ≤ 1099511627776 then (measW x n, 0) else (W0, 1)) else (W0, 2)
def lateOf (x : Wy) : Wy × Int := if x.Ok then (lateW x, 0) else (W0, 2)
def fastOf (x : Wy) : Wy × Int := if x.Ok then (fastW x, 0) else (W0, 2)
def ackOf (x : Wy) (n : Int) (full : Bool) : Wy × Int := if x.Ok then (if 0 ≤ n ∧ n ≤ 65536 then (ackW x n full, 0) else (W0, 1)) else (W0, 2)
/-- What all of them answer. -/
def WR (r : Wy × Int) (w : World) (e : Ending) (w' : World) : Prop := WRes r.1 r.2 w e w'
set_option maxRecDepth 100000 in
set_option maxHeartbeats 4000000 in
theorem late_any (x : Wy) (w : World) : Calls Try.prog 14 #[.agg x.cs] w (WR (lateOf x) w) := by
  obtain ⟨r, hr⟩ : ∃ r, r = lateOf x := ⟨_, rfl⟩
  have HC : ∀ wx, Calls Try.prog 24 #[.agg x.cs, .bool true, .func (.func 29) #[] #[]] wx (WRes r.1 r.2 wx) := fun wx => by
    subst hr
    unfold lateOf
    by_cases h : x.Ok
    · rw [if_pos h]
      exact changed_t x (lateW x) h 29 #[] wx (fun args wy => by rfl) (fun b w' _ hb _ => lateC_any x b w' hb h)
    · rw [if_neg h]
      exact changed_f x h _ _ wx
  rw [← hr]
  clear hr
  have hu0 := up_alloc w (.cells x.cs 23)
  have hm0 := new_at w (.cells x.cs 23)
  have hm1 := new_at (w.alloc (.cells x.cs 23)) (.cells W0.cs 23)
  have hm0' := (up_alloc (w.alloc (.cells x.cs 23)) (.cells W0.cs 23)).block _ (lt_of_blk hm0) |>.trans hm0
  have hu1 : Up w ((w.alloc (.cells x.cs 23)).alloc (.cells W0.cs 23)) := hu0.trans (up_alloc _ _)
  have hsz : (w.alloc (.cells x.cs 23)).heap.size = w.heap.size + 1 := by simp
  rw [hsz] at hm1
  have HM1 := Lib.hid hm1
  have HM0 := Lib.hid hm0'
  have HU1 := Lib.hid hu1
  clear hm1 hm0' hu1 hsz hu0 hm0
  change Hid (((w.alloc (.cells x.cs 23)).alloc (.cells #[.int .i64 0, .int .i64 0, .int .i64 0, .int .i64 0, .int .i64 0, .int .i64 0, .int .i64 0] 23)).heap[w.heap.size + 1]? = _) at HM1
  change Hid (((w.alloc (.cells x.cs 23)).alloc (.cells #[.int .i64 0, .int .i64 0, .int .i64 0, .int .i64 0, .int .i64 0, .int .i64 0, .int .i64 0] 23)).heap[w.heap.size]? = _) at HM0
  change Hid (Up w ((w.alloc (.cells x.cs 23)).alloc (.cells #[.int .i64 0, .int .i64 0, .int .i64 0, .int .i64 0, .int .i64 0, .int .i64 0, .int .i64 0] 23))) at HU1
  go_enter Try.func14, Try.ntmps14
  go_upto_region 1 with (fail)
  generalize (w.alloc (.cells x.cs 23)).alloc (.cells #[.int .i64 0, .int .i64 0, .int .i64 0, .int .i64 0, .int .i64 0, .int .i64 0, .int .i64 0] 23) = w2 at HM1 HM0 HU1 ⊢
  obtain ⟨p, hp⟩ : ∃ p, p = w.heap.size := ⟨_, rfl⟩
  rw [← hp] at HM1 HM0 ⊢
  have HP := Lib.hid hp
  clear hp
  have k0 : w2.cell? ⟨p, 0, none⟩ = some (.int .i64 x.s) := cell_of HM0.out rfl
  have k1 : w2.cell? ⟨p, 1, none⟩ = some (.int .i64 x.v) := cell_of HM0.out rfl
  have k2 : w2.cell? ⟨p, 2, none⟩ = some (.int .i64 x.r) := cell_of HM0.out rfl
  have k3 : w2.cell? ⟨p, 3, none⟩ = some (.int .i64 x.e) := cell_of HM0.out rfl
  have k4 : w2.cell? ⟨p, 4, none⟩ = some (.int .i64 x.c) := cell_of HM0.out rfl
  have k5 : w2.cell? ⟨p, 5, none⟩ = some (.int .i64 x.t) := cell_of HM0.out rfl
  have k6 : w2.cell? ⟨p, 6, none⟩ = some (.int .i64 x.a) := cell_of HM0.out rfl
  go_wp2_with fail
  refine (HC _).mono ?_
  rintro e w3 ⟨rfl, HU3⟩
  have hm3 := (HU3.out.block _ (lt_of_blk HM1.out)).trans HM1.out
  have HU4 := Lib.hid (HU1.out.trans HU3.out)
  have HM3 := Lib.hid hm3
  have f3 : ∀ j, w3.frozen? ⟨p + 1, j, none⟩ = false := fun j => frozen_at hm3
  have q0 : w3.cell? ⟨p + 1, 0, none⟩ = some (.int .i64 0) := cell_of hm3 rfl
  have q1 : w3.cell? ⟨p + 1, 1, none⟩ = some (.int .i64 0) := cell_of hm3 rfl
  have q2 : w3.cell? ⟨p + 1, 2, none⟩ = some (.int .i64 0) := cell_of hm3 rfl
  have q3 : w3.cell? ⟨p + 1, 3, none⟩ = some (.int .i64 0) := cell_of hm3 rfl
  have q4 : w3.cell? ⟨p + 1, 4, none⟩ = some (.int .i64 0) := cell_of hm3 rfl
  have q5 : w3.cell? ⟨p + 1, 5, none⟩ = some (.int .i64 0) := cell_of hm3 rfl
  have q6 : w3.cell? ⟨p + 1, 6, none⟩ = some (.int .i64 0) := cell_of hm3 rfl
  clear k0 k1 k2 k3 k4 k5 k6
  clear hm3 HC
  go_wp2_with fail
  have HT := ((((((((Tr.refl HM3.out).set 0 (.int .i64 r.1.s)).set 1 (.int .i64 r.1.v)).set 2 (.int .i64 r.1.r)).set 3 (.int .i64 r.1.e)).set 4 (.int .i64 r.1.c)).set 5 (.int .i64 r.1.t)).set 6 (.int .i64 r.1.a))
  refine bodyPost_ret (results_row_tmp (fn := Try.f14) (p := 2) (u := 3) (ty := 23) rfl _ _ (p + 1) 23 r.1.cs (0, 0) _ rfl HT.1 Try.underlying23 rfl rfl) rfl ⟨rfl, Lib.hid (Below.out HU4.out HT.2 (fun k hk => by rw [hk, HP.out]; omega) (HU4.out).size)⟩
set_option maxRecDepth 100000 in
set_option maxHeartbeats 4000000 in
theorem fast_any (x : Wy) (w : World) : Calls Try.prog 16 #[.agg x.cs] w (WR (fastOf x) w) := by
  obtain ⟨r, hr⟩ : ∃ r, r = fastOf x := ⟨_, rfl⟩
  have HC : ∀ wx, Calls Try.prog 24 #[.agg x.cs, .bool true, .func (.func 31) #[] #[]] wx (WRes r.1 r.2 wx) := fun wx => by
    subst hr
    unfold fastOf
    by_cases h : x.Ok
    · rw [if_pos h]
      exact changed_t x (fastW x) h 31 #[] wx (fun args wy => by rfl) (fun b w' _ hb _ => fastC_any x b w' hb h)
    · rw [if_neg h]
      exact changed_f x h _ _ wx
  rw [← hr]
  clear hr
  have hu0 := up_alloc w (.cells x.cs 23)
  have hm0 := new_at w (.cells x.cs 23)
  have hm1 := new_at (w.alloc (.cells x.cs 23)) (.cells W0.cs 23)
  have hm0' := (up_alloc (w.alloc (.cells x.cs 23)) (.cells W0.cs 23)).block _ (lt_of_blk hm0) |>.trans hm0
  have hu1 : Up w ((w.alloc (.cells x.cs 23)).alloc (.cells W0.cs 23)) := hu0.trans (up_alloc _ _)
  have hsz : (w.alloc (.cells x.cs 23)).heap.size = w.heap.size + 1 := by simp
  rw [hsz] at hm1
  have HM1 := Lib.hid hm1
  have HM0 := Lib.hid hm0'
  have HU1 := Lib.hid hu1
  clear hm1 hm0' hu1 hsz hu0 hm0
  change Hid (((w.alloc (.cells x.cs 23)).alloc (.cells #[.int .i64 0, .int .i64 0, .int .i64 0, .int .i64 0, .int .i64 0, .int .i64 0, .int .i64 0] 23)).heap[w.heap.size + 1]? = _) at HM1
  change Hid (((w.alloc (.cells x.cs 23)).alloc (.cells #[.int .i64 0, .int .i64 0, .int .i64 0, .int .i64 0, .int .i64 0, .int .i64 0, .int .i64 0] 23)).heap[w.heap.size]? = _) at HM0
  change Hid (Up w ((w.alloc (.cells x.cs 23)).alloc (.cells #[.int .i64 0, .int .i64 0, .int .i64 0, .int .i64 0, .int .i64 0, .int .i64 0, .int .i64 0] 23))) at HU1
  go_enter Try.func16, Try.ntmps16
  go_upto_region 1 with (fail)
  generalize (w.alloc (.cells x.cs 23)).alloc (.cells #[.int .i64 0, .int .i64 0, .int .i64 0, .int .i64 0, .int .i64 0, .int .i64 0, .int .i64 0] 23) = w2 at HM1 HM0 HU1 ⊢
  obtain ⟨p, hp⟩ : ∃ p, p = w.heap.size := ⟨_, rfl⟩
  rw [← hp] at HM1 HM0 ⊢
  have HP := Lib.hid hp
  clear hp
  have k0 : w2.cell? ⟨p, 0, none⟩ = some (.int .i64 x.s) := cell_of HM0.out rfl
  have k1 : w2.cell? ⟨p, 1, none⟩ = some (.int .i64 x.v) := cell_of HM0.out rfl
  have k2 : w2.cell? ⟨p, 2, none⟩ = some (.int .i64 x.r) := cell_of HM0.out rfl
  have k3 : w2.cell? ⟨p, 3, none⟩ = some (.int .i64 x.e) := cell_of HM0.out rfl
  have k4 : w2.cell? ⟨p, 4, none⟩ = some (.int .i64 x.c) := cell_of HM0.out rfl
  have k5 : w2.cell? ⟨p, 5, none⟩ = some (.int .i64 x.t) := cell_of HM0.out rfl
  have k6 : w2.cell? ⟨p, 6, none⟩ = some (.int .i64 x.a) := cell_of HM0.out rfl
  go_wp2_with fail
  refine (HC _).mono ?_
  rintro e w3 ⟨rfl, HU3⟩
  have hm3 := (HU3.out.block _ (lt_of_blk HM1.out)).trans HM1.out
  have HU4 := Lib.hid (HU1.out.trans HU3.out)
  have HM3 := Lib.hid hm3
  have f3 : ∀ j, w3.frozen? ⟨p + 1, j, none⟩ = false := fun j => frozen_at hm3
  have q0 : w3.cell? ⟨p + 1, 0, none⟩ = some (.int .i64 0) := cell_of hm3 rfl
  have q1 : w3.cell? ⟨p + 1, 1, none⟩ = some (.int .i64 0) := cell_of hm3 rfl
  have q2 : w3.cell? ⟨p + 1, 2, none⟩ = some (.int .i64 0) := cell_of hm3 rfl
  have q3 : w3.cell? ⟨p + 1, 3, none⟩ = some (.int .i64 0) := cell_of hm3 rfl
  have q4 : w3.cell? ⟨p + 1, 4, none⟩ = some (.int .i64 0) := cell_of hm3 rfl
  have q5 : w3.cell? ⟨p + 1, 5, none⟩ = some (.int .i64 0) := cell_of hm3 rfl
  have q6 : w3.cell? ⟨p + 1, 6, none⟩ = some (.int .i64 0) := cell_of hm3 rfl
  clear k0 k1 k2 k3 k4 k5 k6
  clear hm3 HC
  go_wp2_with fail
  have HT := ((((((((Tr.refl HM3.out).set 0 (.int .i64 r.1.s)).set 1 (.int .i64 r.1.v)).set 2 (.int .i64 r.1.r)).set 3 (.int .i64 r.1.e)).set 4 (.int .i64 r.1.c)).set 5 (.int .i64 r.1.t)).set 6 (.int .i64 r.1.a))
  refine bodyPost_ret (results_row_tmp (fn := Try.f16) (p := 2) (u := 3) (ty := 23) rfl _ _ (p + 1) 23 r.1.cs (0, 0) _ rfl HT.1 Try.underlying23 rfl rfl) rfl ⟨rfl, Lib.hid (Below.out HU4.out HT.2 (fun k hk => by rw [hk, HP.out]; omega) (HU4.out).size)⟩
end Go.Proofs.Ytahpejcejbgcpaa
