import Derived.Test.YtdhkbpnhbbedmaaWt3
namespace Go.Proofs.Ytdhkbpnhbbedmaa
open Go Go.RowKit
set_option linter.unusedVariables false
set_option linter.unusedSimpArgs false
theorem results_rtt {P : Program} {fn : Func} {p u u' : Tmp} {ty : TypeId} (h : fn.results = #[.cell p ty, .tmp u, .tmp u']) (tmps : Array Value) (w : World) (g : Nat) (t : TypeId) (cs : Array Value) (fr : Nat × Nat) (d : TypeDesc)
    (hp : tmps.getD p undef = .pointer (some ⟨g, 0, none⟩)) (hg : w.heap[g]? = some (.cells cs t fr))
    (hu : P.underlying ty = some d) (hd : (match d with | .struct _ | .array _ _ => true | _ => false) = true) (hi : (P.info? ty).map (·.size) = some cs.size) :
    (results fn tmps).run P w = .ok (.tuple #[.agg cs, tmps.getD u undef, tmps.getD u' undef]) w := by
  have hp' : tmps[p]?.getD undef = .pointer (some ⟨g, 0, none⟩) := by simpa using hp
  simp [results, h, hp', asAddr, run_loadVar_row w g t ty cs fr d hg hu hd hi, Result.andThen]
/-- Two new blocks. -/
structure T2 (p q : Nat) (cs c1 : Array Value) (w w' : World) : Prop where
  hp : w'.heap[p]? = some (.cells cs 29 (0, 0))
  hq : w'.heap[q]? = some (.cells c1 29 (0, 0))
  np : w.heap.size ≤ p
  pq : p < q
  up : Up w w'
theorem T2.setq {p q : Nat} {cs c1 : Array Value} {w w1 : World} (h : T2 p q cs c1 w w1) (j : Nat) (v : Value) : T2 p q cs (c1.setIfInBounds j v) w (w1.setCell ⟨q, j, none⟩ v) :=
  ⟨(heap_set_ne (by have := h.pq; omega)).trans h.hp, setCell_at v h.hq, h.np, h.pq, up_set h.up (by have := h.np; have := h.pq; omega)⟩
theorem T2.start (w : World) (cs : Array Value) : T2 w.heap.size (w.heap.size + 1) cs #[.int .i64 0, .bool false, .int .i64 0] w ((w.alloc (.cells cs 29)).alloc (.cells #[.int .i64 0, .bool false, .int .i64 0] 29)) := by
  have a := new_at w (.cells cs 29)
  have b := new_at (w.alloc (.cells cs 29)) (.cells #[.int .i64 0, .bool false, .int .i64 0] 29)
  have s1 : (w.alloc (.cells cs 29)).heap.size = w.heap.size + 1 := by simp
  have u1 := up_alloc w (.cells cs 29)
  have u2 := up_alloc (w.alloc (.cells cs 29)) (.cells #[.int .i64 0, .bool false, .int .i64 0] 29)
  have a2 := (u2.block _ (lt_at a)).trans a
  rw [s1] at b
  exact ⟨a2, b, Nat.le_refl _, by omega, u1.trans u2⟩
/-- A watch, what is to be done as bits, and an error. -/
def Rw (y : Wt) (m k : Int) (w : World) (e : Ending) (w' : World) : Prop := e = .returned (.tuple #[.agg y.cs, .int .i64 m, .int .i64 k]) ∧ Hid (Up w w')
def b1 (b : Bool) (n : Int) : Int := if b then n else 0
def Du.bits (d : Du) : Int := b1 d.a 1 + b1 d.f 2 + b1 d.b 4 + b1 d.c 8 + b1 d.t 16 + b1 d.w 32
set_option maxRecDepth 100000 in
set_option maxHeartbeats 1000000 in
theorem wbad_a (s n ev : Int) (p : Bool) (w : World) (d0 : decide (s < 0) = true) : Calls Try.prog 8 #[.agg #[.int .i64 s, .bool p, .int .i64 n], .int .i64 ev] w (Rw W0 0 1 w) := by
  have T0 := Lib.hid (T2.start w #[.int .i64 s, .bool p, .int .i64 n])
  go_enter Try.func8, Try.ntmps8
  go_upto_region 1 with (fail)
  generalize (w.alloc (.cells #[.int .i64 s, .bool p, .int .i64 n] 29)).alloc (.cells #[.int .i64 0, .bool false, .int .i64 0] 29) = w1 at T0 ⊢
  obtain ⟨q, hq⟩ : ∃ q, q = w.heap.size := ⟨_, rfl⟩
  rw [← hq] at T0 ⊢
  clear hq
  have k0 : w1.cell? ⟨q, 0, none⟩ = some (.int .i64 s) := cell_of T0.out.hp rfl
  have k1 : w1.cell? ⟨q, 1, none⟩ = some (.bool p) := cell_of T0.out.hp rfl
  have k2 : w1.cell? ⟨q, 2, none⟩ = some (.int .i64 n) := cell_of T0.out.hp rfl
  have fq : ∀ j, w1.frozen? ⟨q + 1, j, none⟩ = false := fun j => frozen_at T0.out.hq
  have q0 : w1.cell? ⟨q + 1, 0, none⟩ = some (.int .i64 0) := cell_of T0.out.hq rfl
  have q1 : w1.cell? ⟨q + 1, 1, none⟩ = some (.bool false) := cell_of T0.out.hq rfl
  have q2 : w1.cell? ⟨q + 1, 2, none⟩ = some (.int .i64 0) := cell_of T0.out.hq rfl
  go_wp2_with fail
  have HT := (((T0.out.setq 0 (.int .i64 0)).setq 1 (.bool false)).setq 2 (.int .i64 0))
  exact bodyPost_ret (results_rtt (fn := Try.f8) (p := 4) (u := 5) (u' := 6) (ty := 29) rfl _ _ (q + 1) 29 (⟨0, false, 0⟩ : Wt).cs (0, 0) _ rfl HT.hq Try.underlying29 rfl rfl) rfl ⟨rfl, Lib.hid HT.up⟩
set_option maxRecDepth 100000 in
set_option maxHeartbeats 1000000 in
theorem wbad_b (s n ev : Int) (p : Bool) (w : World) (d0 : decide (s < 0) = false) (d1 : decide (s > 4) = true) : Calls Try.prog 8 #[.agg #[.int .i64 s, .bool p, .int .i64 n], .int .i64 ev] w (Rw W0 0 1 w) := by
  have T0 := Lib.hid (T2.start w #[.int .i64 s, .bool p, .int .i64 n])
  go_enter Try.func8, Try.ntmps8
  go_upto_region 1 with (fail)
  generalize (w.alloc (.cells #[.int .i64 s, .bool p, .int .i64 n] 29)).alloc (.cells #[.int .i64 0, .bool false, .int .i64 0] 29) = w1 at T0 ⊢
  obtain ⟨q, hq⟩ : ∃ q, q = w.heap.size := ⟨_, rfl⟩
  rw [← hq] at T0 ⊢
  clear hq
  have k0 : w1.cell? ⟨q, 0, none⟩ = some (.int .i64 s) := cell_of T0.out.hp rfl
  have k1 : w1.cell? ⟨q, 1, none⟩ = some (.bool p) := cell_of T0.out.hp rfl
  have k2 : w1.cell? ⟨q, 2, none⟩ = some (.int .i64 n) := cell_of T0.out.hp rfl
  have fq : ∀ j, w1.frozen? ⟨q + 1, j, none⟩ = false := fun j => frozen_at T0.out.hq
  have q0 : w1.cell? ⟨q + 1, 0, none⟩ = some (.int .i64 0) := cell_of T0.out.hq rfl
  have q1 : w1.cell? ⟨q + 1, 1, none⟩ = some (.bool false) := cell_of T0.out.hq rfl
  have q2 : w1.cell? ⟨q + 1, 2, none⟩ = some (.int .i64 0) := cell_of T0.out.hq rfl
  go_wp2_with fail
  have HT := (((T0.out.setq 0 (.int .i64 0)).setq 1 (.bool false)).setq 2 (.int .i64 0))
  exact bodyPost_ret (results_rtt (fn := Try.f8) (p := 4) (u := 5) (u' := 6) (ty := 29) rfl _ _ (q + 1) 29 (⟨0, false, 0⟩ : Wt).cs (0, 0) _ rfl HT.hq Try.underlying29 rfl rfl) rfl ⟨rfl, Lib.hid HT.up⟩
set_option maxRecDepth 100000 in
set_option maxHeartbeats 1000000 in
theorem wbad_c (s n ev : Int) (p : Bool) (w : World) (d0 : decide (s < 0) = false) (d1 : decide (s > 4) = false) (d2 : decide (n < -1) = true) : Calls Try.prog 8 #[.agg #[.int .i64 s, .bool p, .int .i64 n], .int .i64 ev] w (Rw W0 0 1 w) := by
  have T0 := Lib.hid (T2.start w #[.int .i64 s, .bool p, .int .i64 n])
  go_enter Try.func8, Try.ntmps8
  go_upto_region 1 with (fail)
  generalize (w.alloc (.cells #[.int .i64 s, .bool p, .int .i64 n] 29)).alloc (.cells #[.int .i64 0, .bool false, .int .i64 0] 29) = w1 at T0 ⊢
  obtain ⟨q, hq⟩ : ∃ q, q = w.heap.size := ⟨_, rfl⟩
  rw [← hq] at T0 ⊢
  clear hq
  have k0 : w1.cell? ⟨q, 0, none⟩ = some (.int .i64 s) := cell_of T0.out.hp rfl
  have k1 : w1.cell? ⟨q, 1, none⟩ = some (.bool p) := cell_of T0.out.hp rfl
  have k2 : w1.cell? ⟨q, 2, none⟩ = some (.int .i64 n) := cell_of T0.out.hp rfl
  have fq : ∀ j, w1.frozen? ⟨q + 1, j, none⟩ = false := fun j => frozen_at T0.out.hq
  have q0 : w1.cell? ⟨q + 1, 0, none⟩ = some (.int .i64 0) := cell_of T0.out.hq rfl
  have q1 : w1.cell? ⟨q + 1, 1, none⟩ = some (.bool false) := cell_of T0.out.hq rfl
  have q2 : w1.cell? ⟨q + 1, 2, none⟩ = some (.int .i64 0) := cell_of T0.out.hq rfl
  go_wp2_with fail
  have HT := (((T0.out.setq 0 (.int .i64 0)).setq 1 (.bool false)).setq 2 (.int .i64 0))
  exact bodyPost_ret (results_rtt (fn := Try.f8) (p := 4) (u := 5) (u' := 6) (ty := 29) rfl _ _ (q + 1) 29 (⟨0, false, 0⟩ : Wt).cs (0, 0) _ rfl HT.hq Try.underlying29 rfl rfl) rfl ⟨rfl, Lib.hid HT.up⟩
set_option maxRecDepth 100000 in
set_option maxHeartbeats 1000000 in
theorem wbad_d (s n ev : Int) (p : Bool) (w : World) (d0 : decide (s < 0) = false) (d1 : decide (s > 4) = false) (d2 : decide (n < -1) = false) (d3 : decide (n > 3) = true) : Calls Try.prog 8 #[.agg #[.int .i64 s, .bool p, .int .i64 n], .int .i64 ev] w (Rw W0 0 1 w) := by
  have T0 := Lib.hid (T2.start w #[.int .i64 s, .bool p, .int .i64 n])
  go_enter Try.func8, Try.ntmps8
  go_upto_region 1 with (fail)
  generalize (w.alloc (.cells #[.int .i64 s, .bool p, .int .i64 n] 29)).alloc (.cells #[.int .i64 0, .bool false, .int .i64 0] 29) = w1 at T0 ⊢
  obtain ⟨q, hq⟩ : ∃ q, q = w.heap.size := ⟨_, rfl⟩
  rw [← hq] at T0 ⊢
  clear hq
  have k0 : w1.cell? ⟨q, 0, none⟩ = some (.int .i64 s) := cell_of T0.out.hp rfl
  have k1 : w1.cell? ⟨q, 1, none⟩ = some (.bool p) := cell_of T0.out.hp rfl
  have k2 : w1.cell? ⟨q, 2, none⟩ = some (.int .i64 n) := cell_of T0.out.hp rfl
  have fq : ∀ j, w1.frozen? ⟨q + 1, j, none⟩ = false := fun j => frozen_at T0.out.hq
  have q0 : w1.cell? ⟨q + 1, 0, none⟩ = some (.int .i64 0) := cell_of T0.out.hq rfl
  have q1 : w1.cell? ⟨q + 1, 1, none⟩ = some (.bool false) := cell_of T0.out.hq rfl
  have q2 : w1.cell? ⟨q + 1, 2, none⟩ = some (.int .i64 0) := cell_of T0.out.hq rfl
  go_wp2_with fail
  have HT := (((T0.out.setq 0 (.int .i64 0)).setq 1 (.bool false)).setq 2 (.int .i64 0))
  exact bodyPost_ret (results_rtt (fn := Try.f8) (p := 4) (u := 5) (u' := 6) (ty := 29) rfl _ _ (q + 1) 29 (⟨0, false, 0⟩ : Wt).cs (0, 0) _ rfl HT.hq Try.underlying29 rfl rfl) rfl ⟨rfl, Lib.hid HT.up⟩
set_option maxRecDepth 100000 in
set_option maxHeartbeats 1000000 in
theorem wbad_e (s n ev : Int) (p : Bool) (w : World) (d0 : decide (s < 0) = false) (d1 : decide (s > 4) = false) (d2 : decide (n < -1) = false) (d3 : decide (n > 3) = false) (d4 : decide (ev < 1) = true) : Calls Try.prog 8 #[.agg #[.int .i64 s, .bool p, .int .i64 n], .int .i64 ev] w (Rw W0 0 1 w) := by
  have T0 := Lib.hid (T2.start w #[.int .i64 s, .bool p, .int .i64 n])
  go_enter Try.func8, Try.ntmps8
  go_upto_region 1 with (fail)
  generalize (w.alloc (.cells #[.int .i64 s, .bool p, .int .i64 n] 29)).alloc (.cells #[.int .i64 0, .bool false, .int .i64 0] 29) = w1 at T0 ⊢
  obtain ⟨q, hq⟩ : ∃ q, q = w.heap.size := ⟨_, rfl⟩
  rw [← hq] at T0 ⊢
  clear hq
  have k0 : w1.cell? ⟨q, 0, none⟩ = some (.int .i64 s) := cell_of T0.out.hp rfl
  have k1 : w1.cell? ⟨q, 1, none⟩ = some (.bool p) := cell_of T0.out.hp rfl
  have k2 : w1.cell? ⟨q, 2, none⟩ = some (.int .i64 n) := cell_of T0.out.hp rfl
  have fq : ∀ j, w1.frozen? ⟨q + 1, j, none⟩ = false := fun j => frozen_at T0.out.hq
  have q0 : w1.cell? ⟨q + 1, 0, none⟩ = some (.int .i64 0) := cell_of T0.out.hq rfl
  have q1 : w1.cell? ⟨q + 1, 1, none⟩ = some (.bool false) := cell_of T0.out.hq rfl
  have q2 : w1.cell? ⟨q + 1, 2, none⟩ = some (.int .i64 0) := cell_of T0.out.hq rfl
  go_wp2_with fail
  have HT := (((T0.out.setq 0 (.int .i64 0)).setq 1 (.bool false)).setq 2 (.int .i64 0))
  exact bodyPost_ret (results_rtt (fn := Try.f8) (p := 4) (u := 5) (u' := 6) (ty := 29) rfl _ _ (q + 1) 29 (⟨0, false, 0⟩ : Wt).cs (0, 0) _ rfl HT.hq Try.underlying29 rfl rfl) rfl ⟨rfl, Lib.hid HT.up⟩
set_option maxRecDepth 100000 in
set_option maxHeartbeats 1000000 in
theorem wbad_f (s n ev : Int) (p : Bool) (w : World) (d0 : decide (s < 0) = false) (d1 : decide (s > 4) = false) (d2 : decide (n < -1) = false) (d3 : decide (n > 3) = false) (d4 : decide (ev < 1) = false) (d5 : decide (ev > 5) = true) : Calls Try.prog 8 #[.agg #[.int .i64 s, .bool p, .int .i64 n], .int .i64 ev] w (Rw W0 0 1 w) := by
  have T0 := Lib.hid (T2.start w #[.int .i64 s, .bool p, .int .i64 n])
  go_enter Try.func8, Try.ntmps8
  go_upto_region 1 with (fail)
  generalize (w.alloc (.cells #[.int .i64 s, .bool p, .int .i64 n] 29)).alloc (.cells #[.int .i64 0, .bool false, .int .i64 0] 29) = w1 at T0 ⊢
  obtain ⟨q, hq⟩ : ∃ q, q = w.heap.size := ⟨_, rfl⟩
  rw [← hq] at T0 ⊢
  clear hq
  have k0 : w1.cell? ⟨q, 0, none⟩ = some (.int .i64 s) := cell_of T0.out.hp rfl
  have k1 : w1.cell? ⟨q, 1, none⟩ = some (.bool p) := cell_of T0.out.hp rfl
  have k2 : w1.cell? ⟨q, 2, none⟩ = some (.int .i64 n) := cell_of T0.out.hp rfl
  have fq : ∀ j, w1.frozen? ⟨q + 1, j, none⟩ = false := fun j => frozen_at T0.out.hq
  have q0 : w1.cell? ⟨q + 1, 0, none⟩ = some (.int .i64 0) := cell_of T0.out.hq rfl
  have q1 : w1.cell? ⟨q + 1, 1, none⟩ = some (.bool false) := cell_of T0.out.hq rfl
  have q2 : w1.cell? ⟨q + 1, 2, none⟩ = some (.int .i64 0) := cell_of T0.out.hq rfl
  go_wp2_with fail
  have HT := (((T0.out.setq 0 (.int .i64 0)).setq 1 (.bool false)).setq 2 (.int .i64 0))
  exact bodyPost_ret (results_rtt (fn := Try.f8) (p := 4) (u := 5) (u' := 6) (ty := 29) rfl _ _ (q + 1) 29 (⟨0, false, 0⟩ : Wt).cs (0, 0) _ rfl HT.hq Try.underlying29 rfl rfl) rfl ⟨rfl, Lib.hid HT.up⟩
set_option maxRecDepth 100000 in
set_option maxHeartbeats 1000000 in
theorem wt_01 (n : Int) (p : Bool) (w : World) (c1 : decide (n < -1) = false) (c2 : decide (n > 3) = false) : Calls Try.prog 8 #[.agg #[.int .i64 0, .bool p, .int .i64 n], .int .i64 1] w (Rw ⟨1, false, n⟩ 32 0 w) := by
  have T0 := Lib.hid (T2.start w #[.int .i64 0, .bool p, .int .i64 n])
  go_enter Try.func8, Try.ntmps8
  go_upto_region 1 with (fail)
  generalize (w.alloc (.cells #[.int .i64 0, .bool p, .int .i64 n] 29)).alloc (.cells #[.int .i64 0, .bool false, .int .i64 0] 29) = w1 at T0 ⊢
  obtain ⟨q, hq⟩ : ∃ q, q = w.heap.size := ⟨_, rfl⟩
  rw [← hq] at T0 ⊢
  clear hq
  have k0 : w1.cell? ⟨q, 0, none⟩ = some (.int .i64 0) := cell_of T0.out.hp rfl
  have k1 : w1.cell? ⟨q, 1, none⟩ = some (.bool p) := cell_of T0.out.hp rfl
  have k2 : w1.cell? ⟨q, 2, none⟩ = some (.int .i64 n) := cell_of T0.out.hp rfl
  have fq : ∀ j, w1.frozen? ⟨q + 1, j, none⟩ = false := fun j => frozen_at T0.out.hq
  have q0 : w1.cell? ⟨q + 1, 0, none⟩ = some (.int .i64 0) := cell_of T0.out.hq rfl
  have q1 : w1.cell? ⟨q + 1, 1, none⟩ = some (.bool false) := cell_of T0.out.hq rfl
  have q2 : w1.cell? ⟨q + 1, 2, none⟩ = some (.int .i64 0) := cell_of T0.out.hq rfl
  go_wp2_with fail
  have HT := (((T0.out.setq 0 (.int .i64 1)).setq 1 (.bool false)).setq 2 (.int .i64 n))
  exact bodyPost_ret (results_rtt (fn := Try.f8) (p := 4) (u := 5) (u' := 6) (ty := 29) rfl _ _ (q + 1) 29 (⟨1, false, n⟩ : Wt).cs (0, 0) _ rfl HT.hq Try.underlying29 rfl rfl) rfl ⟨rfl, Lib.hid HT.up⟩
set_option maxRecDepth 100000 in
set_option maxHeartbeats 1000000 in
theorem wt_02 (n : Int) (p : Bool) (w : World) (c1 : decide (n < -1) = false) (c2 : decide (n > 3) = false) : Calls Try.prog 8 #[.agg #[.int .i64 0, .bool p, .int .i64 n], .int .i64 2] w (Rw ⟨0, p, n⟩ 0 0 w) := by
  have T0 := Lib.hid (T2.start w #[.int .i64 0, .bool p, .int .i64 n])
  go_enter Try.func8, Try.ntmps8
  go_upto_region 1 with (fail)
  generalize (w.alloc (.cells #[.int .i64 0, .bool p, .int .i64 n] 29)).alloc (.cells #[.int .i64 0, .bool false, .int .i64 0] 29) = w1 at T0 ⊢
  obtain ⟨q, hq⟩ : ∃ q, q = w.heap.size := ⟨_, rfl⟩
  rw [← hq] at T0 ⊢
  clear hq
  have k0 : w1.cell? ⟨q, 0, none⟩ = some (.int .i64 0) := cell_of T0.out.hp rfl
  have k1 : w1.cell? ⟨q, 1, none⟩ = some (.bool p) := cell_of T0.out.hp rfl
  have k2 : w1.cell? ⟨q, 2, none⟩ = some (.int .i64 n) := cell_of T0.out.hp rfl
  have fq : ∀ j, w1.frozen? ⟨q + 1, j, none⟩ = false := fun j => frozen_at T0.out.hq
  have q0 : w1.cell? ⟨q + 1, 0, none⟩ = some (.int .i64 0) := cell_of T0.out.hq rfl
  have q1 : w1.cell? ⟨q + 1, 1, none⟩ = some (.bool false) := cell_of T0.out.hq rfl
  have q2 : w1.cell? ⟨q + 1, 2, none⟩ = some (.int .i64 0) := cell_of T0.out.hq rfl
  go_wp2_with fail
  have HT := (((T0.out.setq 0 (.int .i64 0)).setq 1 (.bool p)).setq 2 (.int .i64 n))
  exact bodyPost_ret (results_rtt (fn := Try.f8) (p := 4) (u := 5) (u' := 6) (ty := 29) rfl _ _ (q + 1) 29 (⟨0, p, n⟩ : Wt).cs (0, 0) _ rfl HT.hq Try.underlying29 rfl rfl) rfl ⟨rfl, Lib.hid HT.up⟩
set_option maxRecDepth 100000 in
set_option maxHeartbeats 1000000 in
theorem wt_03 (n : Int) (p : Bool) (w : World) (c1 : decide (n < -1) = false) (c2 : decide (n > 3) = false) : Calls Try.prog 8 #[.agg #[.int .i64 0, .bool p, .int .i64 n], .int .i64 3] w (Rw ⟨0, p, n⟩ 0 0 w) := by
  have T0 := Lib.hid (T2.start w #[.int .i64 0, .bool p, .int .i64 n])
  go_enter Try.func8, Try.ntmps8
  go_upto_region 1 with (fail)
  generalize (w.alloc (.cells #[.int .i64 0, .bool p, .int .i64 n] 29)).alloc (.cells #[.int .i64 0, .bool false, .int .i64 0] 29) = w1 at T0 ⊢
  obtain ⟨q, hq⟩ : ∃ q, q = w.heap.size := ⟨_, rfl⟩
  rw [← hq] at T0 ⊢
  clear hq
  have k0 : w1.cell? ⟨q, 0, none⟩ = some (.int .i64 0) := cell_of T0.out.hp rfl
  have k1 : w1.cell? ⟨q, 1, none⟩ = some (.bool p) := cell_of T0.out.hp rfl
  have k2 : w1.cell? ⟨q, 2, none⟩ = some (.int .i64 n) := cell_of T0.out.hp rfl
  have fq : ∀ j, w1.frozen? ⟨q + 1, j, none⟩ = false := fun j => frozen_at T0.out.hq
  have q0 : w1.cell? ⟨q + 1, 0, none⟩ = some (.int .i64 0) := cell_of T0.out.hq rfl
  have q1 : w1.cell? ⟨q + 1, 1, none⟩ = some (.bool false) := cell_of T0.out.hq rfl
  have q2 : w1.cell? ⟨q + 1, 2, none⟩ = some (.int .i64 0) := cell_of T0.out.hq rfl
  go_wp2_with fail
  have HT := (((T0.out.setq 0 (.int .i64 0)).setq 1 (.bool p)).setq 2 (.int .i64 n))
  exact bodyPost_ret (results_rtt (fn := Try.f8) (p := 4) (u := 5) (u' := 6) (ty := 29) rfl _ _ (q + 1) 29 (⟨0, p, n⟩ : Wt).cs (0, 0) _ rfl HT.hq Try.underlying29 rfl rfl) rfl ⟨rfl, Lib.hid HT.up⟩
set_option maxRecDepth 100000 in
set_option maxHeartbeats 1000000 in
theorem wt_04 (n : Int) (p : Bool) (w : World) (c1 : decide (n < -1) = false) (c2 : decide (n > 3) = false) : Calls Try.prog 8 #[.agg #[.int .i64 0, .bool p, .int .i64 n], .int .i64 4] w (Rw ⟨0, p, n⟩ 0 0 w) := by
  have T0 := Lib.hid (T2.start w #[.int .i64 0, .bool p, .int .i64 n])
  go_enter Try.func8, Try.ntmps8
  go_upto_region 1 with (fail)
  generalize (w.alloc (.cells #[.int .i64 0, .bool p, .int .i64 n] 29)).alloc (.cells #[.int .i64 0, .bool false, .int .i64 0] 29) = w1 at T0 ⊢
  obtain ⟨q, hq⟩ : ∃ q, q = w.heap.size := ⟨_, rfl⟩
  rw [← hq] at T0 ⊢
  clear hq
  have k0 : w1.cell? ⟨q, 0, none⟩ = some (.int .i64 0) := cell_of T0.out.hp rfl
  have k1 : w1.cell? ⟨q, 1, none⟩ = some (.bool p) := cell_of T0.out.hp rfl
  have k2 : w1.cell? ⟨q, 2, none⟩ = some (.int .i64 n) := cell_of T0.out.hp rfl
  have fq : ∀ j, w1.frozen? ⟨q + 1, j, none⟩ = false := fun j => frozen_at T0.out.hq
  have q0 : w1.cell? ⟨q + 1, 0, none⟩ = some (.int .i64 0) := cell_of T0.out.hq rfl
  have q1 : w1.cell? ⟨q + 1, 1, none⟩ = some (.bool false) := cell_of T0.out.hq rfl
  have q2 : w1.cell? ⟨q + 1, 2, none⟩ = some (.int .i64 0) := cell_of T0.out.hq rfl
  go_wp2_with fail
  have HT := (((T0.out.setq 0 (.int .i64 0)).setq 1 (.bool p)).setq 2 (.int .i64 n))
  exact bodyPost_ret (results_rtt (fn := Try.f8) (p := 4) (u := 5) (u' := 6) (ty := 29) rfl _ _ (q + 1) 29 (⟨0, p, n⟩ : Wt).cs (0, 0) _ rfl HT.hq Try.underlying29 rfl rfl) rfl ⟨rfl, Lib.hid HT.up⟩
set_option maxRecDepth 100000 in
set_option maxHeartbeats 1000000 in
theorem wt_05 (n : Int) (p : Bool) (w : World) (c1 : decide (n < -1) = false) (c2 : decide (n > 3) = false) : Calls Try.prog 8 #[.agg #[.int .i64 0, .bool p, .int .i64 n], .int .i64 5] w (Rw ⟨0, p, n⟩ 48 0 w) := by
  have T0 := Lib.hid (T2.start w #[.int .i64 0, .bool p, .int .i64 n])
  go_enter Try.func8, Try.ntmps8
  go_upto_region 1 with (fail)
  generalize (w.alloc (.cells #[.int .i64 0, .bool p, .int .i64 n] 29)).alloc (.cells #[.int .i64 0, .bool false, .int .i64 0] 29) = w1 at T0 ⊢
  obtain ⟨q, hq⟩ : ∃ q, q = w.heap.size := ⟨_, rfl⟩
  rw [← hq] at T0 ⊢
  clear hq
  have k0 : w1.cell? ⟨q, 0, none⟩ = some (.int .i64 0) := cell_of T0.out.hp rfl
  have k1 : w1.cell? ⟨q, 1, none⟩ = some (.bool p) := cell_of T0.out.hp rfl
  have k2 : w1.cell? ⟨q, 2, none⟩ = some (.int .i64 n) := cell_of T0.out.hp rfl
  have fq : ∀ j, w1.frozen? ⟨q + 1, j, none⟩ = false := fun j => frozen_at T0.out.hq
  have q0 : w1.cell? ⟨q + 1, 0, none⟩ = some (.int .i64 0) := cell_of T0.out.hq rfl
  have q1 : w1.cell? ⟨q + 1, 1, none⟩ = some (.bool false) := cell_of T0.out.hq rfl
  have q2 : w1.cell? ⟨q + 1, 2, none⟩ = some (.int .i64 0) := cell_of T0.out.hq rfl
  go_wp2_with fail
  have HT := (((T0.out.setq 0 (.int .i64 0)).setq 1 (.bool p)).setq 2 (.int .i64 n))
  exact bodyPost_ret (results_rtt (fn := Try.f8) (p := 4) (u := 5) (u' := 6) (ty := 29) rfl _ _ (q + 1) 29 (⟨0, p, n⟩ : Wt).cs (0, 0) _ rfl HT.hq Try.underlying29 rfl rfl) rfl ⟨rfl, Lib.hid HT.up⟩
set_option maxRecDepth 100000 in
set_option maxHeartbeats 1000000 in
theorem wt_11 (n : Int) (p : Bool) (w : World) (c1 : decide (n < -1) = false) (c2 : decide (n > 3) = false) : Calls Try.prog 8 #[.agg #[.int .i64 1, .bool p, .int .i64 n], .int .i64 1] w (Rw ⟨1, p, n⟩ 0 0 w) := by
  have T0 := Lib.hid (T2.start w #[.int .i64 1, .bool p, .int .i64 n])
  go_enter Try.func8, Try.ntmps8
  go_upto_region 1 with (fail)
  generalize (w.alloc (.cells #[.int .i64 1, .bool p, .int .i64 n] 29)).alloc (.cells #[.int .i64 0, .bool false, .int .i64 0] 29) = w1 at T0 ⊢
  obtain ⟨q, hq⟩ : ∃ q, q = w.heap.size := ⟨_, rfl⟩
  rw [← hq] at T0 ⊢
  clear hq
  have k0 : w1.cell? ⟨q, 0, none⟩ = some (.int .i64 1) := cell_of T0.out.hp rfl
  have k1 : w1.cell? ⟨q, 1, none⟩ = some (.bool p) := cell_of T0.out.hp rfl
  have k2 : w1.cell? ⟨q, 2, none⟩ = some (.int .i64 n) := cell_of T0.out.hp rfl
  have fq : ∀ j, w1.frozen? ⟨q + 1, j, none⟩ = false := fun j => frozen_at T0.out.hq
  have q0 : w1.cell? ⟨q + 1, 0, none⟩ = some (.int .i64 0) := cell_of T0.out.hq rfl
  have q1 : w1.cell? ⟨q + 1, 1, none⟩ = some (.bool false) := cell_of T0.out.hq rfl
  have q2 : w1.cell? ⟨q + 1, 2, none⟩ = some (.int .i64 0) := cell_of T0.out.hq rfl
  go_wp2_with fail
  have HT := (((T0.out.setq 0 (.int .i64 1)).setq 1 (.bool p)).setq 2 (.int .i64 n))
  exact bodyPost_ret (results_rtt (fn := Try.f8) (p := 4) (u := 5) (u' := 6) (ty := 29) rfl _ _ (q + 1) 29 (⟨1, p, n⟩ : Wt).cs (0, 0) _ rfl HT.hq Try.underlying29 rfl rfl) rfl ⟨rfl, Lib.hid HT.up⟩
set_option maxRecDepth 100000 in
set_option maxHeartbeats 1000000 in
theorem wt_12 (n : Int) (p : Bool) (w : World) (c1 : decide (n < -1) = false) (c2 : decide (n > 3) = false) : Calls Try.prog 8 #[.agg #[.int .i64 1, .bool p, .int .i64 n], .int .i64 2] w (Rw ⟨3, false, n⟩ 34 0 w) := by
  have T0 := Lib.hid (T2.start w #[.int .i64 1, .bool p, .int .i64 n])
  go_enter Try.func8, Try.ntmps8
  go_upto_region 1 with (fail)
  generalize (w.alloc (.cells #[.int .i64 1, .bool p, .int .i64 n] 29)).alloc (.cells #[.int .i64 0, .bool false, .int .i64 0] 29) = w1 at T0 ⊢
  obtain ⟨q, hq⟩ : ∃ q, q = w.heap.size := ⟨_, rfl⟩
  rw [← hq] at T0 ⊢
  clear hq
  have k0 : w1.cell? ⟨q, 0, none⟩ = some (.int .i64 1) := cell_of T0.out.hp rfl
  have k1 : w1.cell? ⟨q, 1, none⟩ = some (.bool p) := cell_of T0.out.hp rfl
  have k2 : w1.cell? ⟨q, 2, none⟩ = some (.int .i64 n) := cell_of T0.out.hp rfl
  have fq : ∀ j, w1.frozen? ⟨q + 1, j, none⟩ = false := fun j => frozen_at T0.out.hq
  have q0 : w1.cell? ⟨q + 1, 0, none⟩ = some (.int .i64 0) := cell_of T0.out.hq rfl
  have q1 : w1.cell? ⟨q + 1, 1, none⟩ = some (.bool false) := cell_of T0.out.hq rfl
  have q2 : w1.cell? ⟨q + 1, 2, none⟩ = some (.int .i64 0) := cell_of T0.out.hq rfl
  go_wp2_with fail
  have HT := (((T0.out.setq 0 (.int .i64 3)).setq 1 (.bool false)).setq 2 (.int .i64 n))
  exact bodyPost_ret (results_rtt (fn := Try.f8) (p := 4) (u := 5) (u' := 6) (ty := 29) rfl _ _ (q + 1) 29 (⟨3, false, n⟩ : Wt).cs (0, 0) _ rfl HT.hq Try.underlying29 rfl rfl) rfl ⟨rfl, Lib.hid HT.up⟩
set_option maxRecDepth 100000 in
set_option maxHeartbeats 1000000 in
theorem wt_13 (n : Int) (p : Bool) (w : World) (c1 : decide (n < -1) = false) (c2 : decide (n > 3) = false) : Calls Try.prog 8 #[.agg #[.int .i64 1, .bool p, .int .i64 n], .int .i64 3] w (Rw ⟨1, false, n⟩ 32 0 w) := by
  have T0 := Lib.hid (T2.start w #[.int .i64 1, .bool p, .int .i64 n])
  go_enter Try.func8, Try.ntmps8
  go_upto_region 1 with (fail)
  generalize (w.alloc (.cells #[.int .i64 1, .bool p, .int .i64 n] 29)).alloc (.cells #[.int .i64 0, .bool false, .int .i64 0] 29) = w1 at T0 ⊢
  obtain ⟨q, hq⟩ : ∃ q, q = w.heap.size := ⟨_, rfl⟩
  rw [← hq] at T0 ⊢
  clear hq
  have k0 : w1.cell? ⟨q, 0, none⟩ = some (.int .i64 1) := cell_of T0.out.hp rfl
  have k1 : w1.cell? ⟨q, 1, none⟩ = some (.bool p) := cell_of T0.out.hp rfl
  have k2 : w1.cell? ⟨q, 2, none⟩ = some (.int .i64 n) := cell_of T0.out.hp rfl
  have fq : ∀ j, w1.frozen? ⟨q + 1, j, none⟩ = false := fun j => frozen_at T0.out.hq
  have q0 : w1.cell? ⟨q + 1, 0, none⟩ = some (.int .i64 0) := cell_of T0.out.hq rfl
  have q1 : w1.cell? ⟨q + 1, 1, none⟩ = some (.bool false) := cell_of T0.out.hq rfl
  have q2 : w1.cell? ⟨q + 1, 2, none⟩ = some (.int .i64 0) := cell_of T0.out.hq rfl
  go_wp2_with fail
  have HT := (((T0.out.setq 0 (.int .i64 1)).setq 1 (.bool false)).setq 2 (.int .i64 n))
  exact bodyPost_ret (results_rtt (fn := Try.f8) (p := 4) (u := 5) (u' := 6) (ty := 29) rfl _ _ (q + 1) 29 (⟨1, false, n⟩ : Wt).cs (0, 0) _ rfl HT.hq Try.underlying29 rfl rfl) rfl ⟨rfl, Lib.hid HT.up⟩
set_option maxRecDepth 100000 in
set_option maxHeartbeats 1000000 in
theorem wt_14 (n : Int) (p : Bool) (w : World) (c1 : decide (n < -1) = false) (c2 : decide (n > 3) = false) : Calls Try.prog 8 #[.agg #[.int .i64 1, .bool p, .int .i64 n], .int .i64 4] w (Rw ⟨1, p, n⟩ 32 0 w) := by
  have T0 := Lib.hid (T2.start w #[.int .i64 1, .bool p, .int .i64 n])
  go_enter Try.func8, Try.ntmps8
  go_upto_region 1 with (fail)
  generalize (w.alloc (.cells #[.int .i64 1, .bool p, .int .i64 n] 29)).alloc (.cells #[.int .i64 0, .bool false, .int .i64 0] 29) = w1 at T0 ⊢
  obtain ⟨q, hq⟩ : ∃ q, q = w.heap.size := ⟨_, rfl⟩
  rw [← hq] at T0 ⊢
  clear hq
  have k0 : w1.cell? ⟨q, 0, none⟩ = some (.int .i64 1) := cell_of T0.out.hp rfl
  have k1 : w1.cell? ⟨q, 1, none⟩ = some (.bool p) := cell_of T0.out.hp rfl
  have k2 : w1.cell? ⟨q, 2, none⟩ = some (.int .i64 n) := cell_of T0.out.hp rfl
  have fq : ∀ j, w1.frozen? ⟨q + 1, j, none⟩ = false := fun j => frozen_at T0.out.hq
  have q0 : w1.cell? ⟨q + 1, 0, none⟩ = some (.int .i64 0) := cell_of T0.out.hq rfl
  have q1 : w1.cell? ⟨q + 1, 1, none⟩ = some (.bool false) := cell_of T0.out.hq rfl
  have q2 : w1.cell? ⟨q + 1, 2, none⟩ = some (.int .i64 0) := cell_of T0.out.hq rfl
  go_wp2_with fail
  have HT := (((T0.out.setq 0 (.int .i64 1)).setq 1 (.bool p)).setq 2 (.int .i64 n))
  exact bodyPost_ret (results_rtt (fn := Try.f8) (p := 4) (u := 5) (u' := 6) (ty := 29) rfl _ _ (q + 1) 29 (⟨1, p, n⟩ : Wt).cs (0, 0) _ rfl HT.hq Try.underlying29 rfl rfl) rfl ⟨rfl, Lib.hid HT.up⟩
set_option maxRecDepth 100000 in
set_option maxHeartbeats 1000000 in
theorem wt_15f (n : Int) (p : Bool) (w : World) (c1 : decide (n < -1) = false) (c2 : decide (n > 3) = false) : Calls Try.prog 8 #[.agg #[.int .i64 1, .bool false, .int .i64 n], .int .i64 5] w (Rw ⟨1, true, n⟩ 33 0 w) := by
  have T0 := Lib.hid (T2.start w #[.int .i64 1, .bool false, .int .i64 n])
  go_enter Try.func8, Try.ntmps8
  go_upto_region 1 with (fail)
  generalize (w.alloc (.cells #[.int .i64 1, .bool false, .int .i64 n] 29)).alloc (.cells #[.int .i64 0, .bool false, .int .i64 0] 29) = w1 at T0 ⊢
  obtain ⟨q, hq⟩ : ∃ q, q = w.heap.size := ⟨_, rfl⟩
  rw [← hq] at T0 ⊢
  clear hq
  have k0 : w1.cell? ⟨q, 0, none⟩ = some (.int .i64 1) := cell_of T0.out.hp rfl
  have k1 : w1.cell? ⟨q, 1, none⟩ = some (.bool false) := cell_of T0.out.hp rfl
  have k2 : w1.cell? ⟨q, 2, none⟩ = some (.int .i64 n) := cell_of T0.out.hp rfl
  have fq : ∀ j, w1.frozen? ⟨q + 1, j, none⟩ = false := fun j => frozen_at T0.out.hq
  have q0 : w1.cell? ⟨q + 1, 0, none⟩ = some (.int .i64 0) := cell_of T0.out.hq rfl
  have q1 : w1.cell? ⟨q + 1, 1, none⟩ = some (.bool false) := cell_of T0.out.hq rfl
  have q2 : w1.cell? ⟨q + 1, 2, none⟩ = some (.int .i64 0) := cell_of T0.out.hq rfl
  go_wp2_with fail
  have HT := (((T0.out.setq 0 (.int .i64 1)).setq 1 (.bool true)).setq 2 (.int .i64 n))
  exact bodyPost_ret (results_rtt (fn := Try.f8) (p := 4) (u := 5) (u' := 6) (ty := 29) rfl _ _ (q + 1) 29 (⟨1, true, n⟩ : Wt).cs (0, 0) _ rfl HT.hq Try.underlying29 rfl rfl) rfl ⟨rfl, Lib.hid HT.up⟩
set_option maxRecDepth 100000 in
set_option maxHeartbeats 1000000 in
theorem wt_15t (n : Int) (p : Bool) (w : World) (c1 : decide (n < -1) = false) (c2 : decide (n > 3) = false) : Calls Try.prog 8 #[.agg #[.int .i64 1, .bool true, .int .i64 n], .int .i64 5] w (Rw ⟨2, true, n⟩ 34 0 w) := by
  have T0 := Lib.hid (T2.start w #[.int .i64 1, .bool true, .int .i64 n])
  go_enter Try.func8, Try.ntmps8
  go_upto_region 1 with (fail)
  generalize (w.alloc (.cells #[.int .i64 1, .bool true, .int .i64 n] 29)).alloc (.cells #[.int .i64 0, .bool false, .int .i64 0] 29) = w1 at T0 ⊢
  obtain ⟨q, hq⟩ : ∃ q, q = w.heap.size := ⟨_, rfl⟩
  rw [← hq] at T0 ⊢
  clear hq
  have k0 : w1.cell? ⟨q, 0, none⟩ = some (.int .i64 1) := cell_of T0.out.hp rfl
  have k1 : w1.cell? ⟨q, 1, none⟩ = some (.bool true) := cell_of T0.out.hp rfl
  have k2 : w1.cell? ⟨q, 2, none⟩ = some (.int .i64 n) := cell_of T0.out.hp rfl
  have fq : ∀ j, w1.frozen? ⟨q + 1, j, none⟩ = false := fun j => frozen_at T0.out.hq
  have q0 : w1.cell? ⟨q + 1, 0, none⟩ = some (.int .i64 0) := cell_of T0.out.hq rfl
  have q1 : w1.cell? ⟨q + 1, 1, none⟩ = some (.bool false) := cell_of T0.out.hq rfl
  have q2 : w1.cell? ⟨q + 1, 2, none⟩ = some (.int .i64 0) := cell_of T0.out.hq rfl
  go_wp2_with fail
  have HT := (((T0.out.setq 0 (.int .i64 2)).setq 1 (.bool true)).setq 2 (.int .i64 n))
  exact bodyPost_ret (results_rtt (fn := Try.f8) (p := 4) (u := 5) (u' := 6) (ty := 29) rfl _ _ (q + 1) 29 (⟨2, true, n⟩ : Wt).cs (0, 0) _ rfl HT.hq Try.underlying29 rfl rfl) rfl ⟨rfl, Lib.hid HT.up⟩
set_option maxRecDepth 100000 in
set_option maxHeartbeats 1000000 in
theorem wt_21 (n : Int) (p : Bool) (w : World) (c1 : decide (n < -1) = false) (c2 : decide (n > 3) = false) : Calls Try.prog 8 #[.agg #[.int .i64 2, .bool p, .int .i64 n], .int .i64 1] w (Rw ⟨2, p, n⟩ 0 0 w) := by
  have T0 := Lib.hid (T2.start w #[.int .i64 2, .bool p, .int .i64 n])
  go_enter Try.func8, Try.ntmps8
  go_upto_region 1 with (fail)
  generalize (w.alloc (.cells #[.int .i64 2, .bool p, .int .i64 n] 29)).alloc (.cells #[.int .i64 0, .bool false, .int .i64 0] 29) = w1 at T0 ⊢
  obtain ⟨q, hq⟩ : ∃ q, q = w.heap.size := ⟨_, rfl⟩
  rw [← hq] at T0 ⊢
  clear hq
  have k0 : w1.cell? ⟨q, 0, none⟩ = some (.int .i64 2) := cell_of T0.out.hp rfl
  have k1 : w1.cell? ⟨q, 1, none⟩ = some (.bool p) := cell_of T0.out.hp rfl
  have k2 : w1.cell? ⟨q, 2, none⟩ = some (.int .i64 n) := cell_of T0.out.hp rfl
  have fq : ∀ j, w1.frozen? ⟨q + 1, j, none⟩ = false := fun j => frozen_at T0.out.hq
  have q0 : w1.cell? ⟨q + 1, 0, none⟩ = some (.int .i64 0) := cell_of T0.out.hq rfl
  have q1 : w1.cell? ⟨q + 1, 1, none⟩ = some (.bool false) := cell_of T0.out.hq rfl
  have q2 : w1.cell? ⟨q + 1, 2, none⟩ = some (.int .i64 0) := cell_of T0.out.hq rfl
  go_wp2_with fail
  have HT := (((T0.out.setq 0 (.int .i64 2)).setq 1 (.bool p)).setq 2 (.int .i64 n))
  exact bodyPost_ret (results_rtt (fn := Try.f8) (p := 4) (u := 5) (u' := 6) (ty := 29) rfl _ _ (q + 1) 29 (⟨2, p, n⟩ : Wt).cs (0, 0) _ rfl HT.hq Try.underlying29 rfl rfl) rfl ⟨rfl, Lib.hid HT.up⟩
set_option maxRecDepth 100000 in
set_option maxHeartbeats 1000000 in
theorem wt_22 (n : Int) (p : Bool) (w : World) (c1 : decide (n < -1) = false) (c2 : decide (n > 3) = false) : Calls Try.prog 8 #[.agg #[.int .i64 2, .bool p, .int .i64 n], .int .i64 2] w (Rw ⟨3, false, n⟩ 32 0 w) := by
  have T0 := Lib.hid (T2.start w #[.int .i64 2, .bool p, .int .i64 n])
  go_enter Try.func8, Try.ntmps8
  go_upto_region 1 with (fail)
  generalize (w.alloc (.cells #[.int .i64 2, .bool p, .int .i64 n] 29)).alloc (.cells #[.int .i64 0, .bool false, .int .i64 0] 29) = w1 at T0 ⊢
  obtain ⟨q, hq⟩ : ∃ q, q = w.heap.size := ⟨_, rfl⟩
  rw [← hq] at T0 ⊢
  clear hq
  have k0 : w1.cell? ⟨q, 0, none⟩ = some (.int .i64 2) := cell_of T0.out.hp rfl
  have k1 : w1.cell? ⟨q, 1, none⟩ = some (.bool p) := cell_of T0.out.hp rfl
  have k2 : w1.cell? ⟨q, 2, none⟩ = some (.int .i64 n) := cell_of T0.out.hp rfl
  have fq : ∀ j, w1.frozen? ⟨q + 1, j, none⟩ = false := fun j => frozen_at T0.out.hq
  have q0 : w1.cell? ⟨q + 1, 0, none⟩ = some (.int .i64 0) := cell_of T0.out.hq rfl
  have q1 : w1.cell? ⟨q + 1, 1, none⟩ = some (.bool false) := cell_of T0.out.hq rfl
  have q2 : w1.cell? ⟨q + 1, 2, none⟩ = some (.int .i64 0) := cell_of T0.out.hq rfl
  go_wp2_with fail
  have HT := (((T0.out.setq 0 (.int .i64 3)).setq 1 (.bool false)).setq 2 (.int .i64 n))
  exact bodyPost_ret (results_rtt (fn := Try.f8) (p := 4) (u := 5) (u' := 6) (ty := 29) rfl _ _ (q + 1) 29 (⟨3, false, n⟩ : Wt).cs (0, 0) _ rfl HT.hq Try.underlying29 rfl rfl) rfl ⟨rfl, Lib.hid HT.up⟩
set_option maxRecDepth 100000 in
set_option maxHeartbeats 1000000 in
theorem wt_23 (n : Int) (p : Bool) (w : World) (c1 : decide (n < -1) = false) (c2 : decide (n > 3) = false) : Calls Try.prog 8 #[.agg #[.int .i64 2, .bool p, .int .i64 n], .int .i64 3] w (Rw ⟨1, false, n⟩ 36 0 w) := by
  have T0 := Lib.hid (T2.start w #[.int .i64 2, .bool p, .int .i64 n])
  go_enter Try.func8, Try.ntmps8
  go_upto_region 1 with (fail)
  generalize (w.alloc (.cells #[.int .i64 2, .bool p, .int .i64 n] 29)).alloc (.cells #[.int .i64 0, .bool false, .int .i64 0] 29) = w1 at T0 ⊢
  obtain ⟨q, hq⟩ : ∃ q, q = w.heap.size := ⟨_, rfl⟩
  rw [← hq] at T0 ⊢
  clear hq
  have k0 : w1.cell? ⟨q, 0, none⟩ = some (.int .i64 2) := cell_of T0.out.hp rfl
  have k1 : w1.cell? ⟨q, 1, none⟩ = some (.bool p) := cell_of T0.out.hp rfl
  have k2 : w1.cell? ⟨q, 2, none⟩ = some (.int .i64 n) := cell_of T0.out.hp rfl
  have fq : ∀ j, w1.frozen? ⟨q + 1, j, none⟩ = false := fun j => frozen_at T0.out.hq
  have q0 : w1.cell? ⟨q + 1, 0, none⟩ = some (.int .i64 0) := cell_of T0.out.hq rfl
  have q1 : w1.cell? ⟨q + 1, 1, none⟩ = some (.bool false) := cell_of T0.out.hq rfl
  have q2 : w1.cell? ⟨q + 1, 2, none⟩ = some (.int .i64 0) := cell_of T0.out.hq rfl
  go_wp2_with fail
  have HT := (((T0.out.setq 0 (.int .i64 1)).setq 1 (.bool false)).setq 2 (.int .i64 n))
  exact bodyPost_ret (results_rtt (fn := Try.f8) (p := 4) (u := 5) (u' := 6) (ty := 29) rfl _ _ (q + 1) 29 (⟨1, false, n⟩ : Wt).cs (0, 0) _ rfl HT.hq Try.underlying29 rfl rfl) rfl ⟨rfl, Lib.hid HT.up⟩
set_option maxRecDepth 100000 in
set_option maxHeartbeats 1000000 in
theorem wt_24 (n : Int) (p : Bool) (w : World) (c1 : decide (n < -1) = false) (c2 : decide (n > 3) = false) : Calls Try.prog 8 #[.agg #[.int .i64 2, .bool p, .int .i64 n], .int .i64 4] w (Rw ⟨1, p, n⟩ 36 0 w) := by
  have T0 := Lib.hid (T2.start w #[.int .i64 2, .bool p, .int .i64 n])
  go_enter Try.func8, Try.ntmps8
  go_upto_region 1 with (fail)
  generalize (w.alloc (.cells #[.int .i64 2, .bool p, .int .i64 n] 29)).alloc (.cells #[.int .i64 0, .bool false, .int .i64 0] 29) = w1 at T0 ⊢
  obtain ⟨q, hq⟩ : ∃ q, q = w.heap.size := ⟨_, rfl⟩
  rw [← hq] at T0 ⊢
  clear hq
  have k0 : w1.cell? ⟨q, 0, none⟩ = some (.int .i64 2) := cell_of T0.out.hp rfl
  have k1 : w1.cell? ⟨q, 1, none⟩ = some (.bool p) := cell_of T0.out.hp rfl
  have k2 : w1.cell? ⟨q, 2, none⟩ = some (.int .i64 n) := cell_of T0.out.hp rfl
  have fq : ∀ j, w1.frozen? ⟨q + 1, j, none⟩ = false := fun j => frozen_at T0.out.hq
  have q0 : w1.cell? ⟨q + 1, 0, none⟩ = some (.int .i64 0) := cell_of T0.out.hq rfl
  have q1 : w1.cell? ⟨q + 1, 1, none⟩ = some (.bool false) := cell_of T0.out.hq rfl
  have q2 : w1.cell? ⟨q + 1, 2, none⟩ = some (.int .i64 0) := cell_of T0.out.hq rfl
  go_wp2_with fail
  have HT := (((T0.out.setq 0 (.int .i64 1)).setq 1 (.bool p)).setq 2 (.int .i64 n))
  exact bodyPost_ret (results_rtt (fn := Try.f8) (p := 4) (u := 5) (u' := 6) (ty := 29) rfl _ _ (q + 1) 29 (⟨1, p, n⟩ : Wt).cs (0, 0) _ rfl HT.hq Try.underlying29 rfl rfl) rfl ⟨rfl, Lib.hid HT.up⟩
set_option maxRecDepth 100000 in
set_option maxHeartbeats 1000000 in
theorem wt_25 (n : Int) (p : Bool) (w : World) (c1 : decide (n < -1) = false) (c2 : decide (n > 3) = false) : Calls Try.prog 8 #[.agg #[.int .i64 2, .bool p, .int .i64 n], .int .i64 5] w (Rw ⟨3, false, n⟩ 40 0 w) := by
  have T0 := Lib.hid (T2.start w #[.int .i64 2, .bool p, .int .i64 n])
  go_enter Try.func8, Try.ntmps8
  go_upto_region 1 with (fail)
  generalize (w.alloc (.cells #[.int .i64 2, .bool p, .int .i64 n] 29)).alloc (.cells #[.int .i64 0, .bool false, .int .i64 0] 29) = w1 at T0 ⊢
  obtain ⟨q, hq⟩ : ∃ q, q = w.heap.size := ⟨_, rfl⟩
  rw [← hq] at T0 ⊢
  clear hq
  have k0 : w1.cell? ⟨q, 0, none⟩ = some (.int .i64 2) := cell_of T0.out.hp rfl
  have k1 : w1.cell? ⟨q, 1, none⟩ = some (.bool p) := cell_of T0.out.hp rfl
  have k2 : w1.cell? ⟨q, 2, none⟩ = some (.int .i64 n) := cell_of T0.out.hp rfl
  have fq : ∀ j, w1.frozen? ⟨q + 1, j, none⟩ = false := fun j => frozen_at T0.out.hq
  have q0 : w1.cell? ⟨q + 1, 0, none⟩ = some (.int .i64 0) := cell_of T0.out.hq rfl
  have q1 : w1.cell? ⟨q + 1, 1, none⟩ = some (.bool false) := cell_of T0.out.hq rfl
  have q2 : w1.cell? ⟨q + 1, 2, none⟩ = some (.int .i64 0) := cell_of T0.out.hq rfl
  go_wp2_with fail
  have HT := (((T0.out.setq 0 (.int .i64 3)).setq 1 (.bool false)).setq 2 (.int .i64 n))
  exact bodyPost_ret (results_rtt (fn := Try.f8) (p := 4) (u := 5) (u' := 6) (ty := 29) rfl _ _ (q + 1) 29 (⟨3, false, n⟩ : Wt).cs (0, 0) _ rfl HT.hq Try.underlying29 rfl rfl) rfl ⟨rfl, Lib.hid HT.up⟩
set_option maxRecDepth 100000 in
set_option maxHeartbeats 1000000 in
theorem wt_31 (n : Int) (p : Bool) (w : World) (c1 : decide (n < -1) = false) (c2 : decide (n > 3) = false) : Calls Try.prog 8 #[.agg #[.int .i64 3, .bool p, .int .i64 n], .int .i64 1] w (Rw ⟨4, true, 0⟩ 33 0 w) := by
  have T0 := Lib.hid (T2.start w #[.int .i64 3, .bool p, .int .i64 n])
  go_enter Try.func8, Try.ntmps8
  go_upto_region 1 with (fail)
  generalize (w.alloc (.cells #[.int .i64 3, .bool p, .int .i64 n] 29)).alloc (.cells #[.int .i64 0, .bool false, .int .i64 0] 29) = w1 at T0 ⊢
  obtain ⟨q, hq⟩ : ∃ q, q = w.heap.size := ⟨_, rfl⟩
  rw [← hq] at T0 ⊢
  clear hq
  have k0 : w1.cell? ⟨q, 0, none⟩ = some (.int .i64 3) := cell_of T0.out.hp rfl
  have k1 : w1.cell? ⟨q, 1, none⟩ = some (.bool p) := cell_of T0.out.hp rfl
  have k2 : w1.cell? ⟨q, 2, none⟩ = some (.int .i64 n) := cell_of T0.out.hp rfl
  have fq : ∀ j, w1.frozen? ⟨q + 1, j, none⟩ = false := fun j => frozen_at T0.out.hq
  have q0 : w1.cell? ⟨q + 1, 0, none⟩ = some (.int .i64 0) := cell_of T0.out.hq rfl
  have q1 : w1.cell? ⟨q + 1, 1, none⟩ = some (.bool false) := cell_of T0.out.hq rfl
  have q2 : w1.cell? ⟨q + 1, 2, none⟩ = some (.int .i64 0) := cell_of T0.out.hq rfl
  go_wp2_with fail
  have HT := (((T0.out.setq 0 (.int .i64 4)).setq 1 (.bool true)).setq 2 (.int .i64 0))
  exact bodyPost_ret (results_rtt (fn := Try.f8) (p := 4) (u := 5) (u' := 6) (ty := 29) rfl _ _ (q + 1) 29 (⟨4, true, 0⟩ : Wt).cs (0, 0) _ rfl HT.hq Try.underlying29 rfl rfl) rfl ⟨rfl, Lib.hid HT.up⟩
set_option maxRecDepth 100000 in
set_option maxHeartbeats 1000000 in
theorem wt_32 (n : Int) (p : Bool) (w : World) (c1 : decide (n < -1) = false) (c2 : decide (n > 3) = false) : Calls Try.prog 8 #[.agg #[.int .i64 3, .bool p, .int .i64 n], .int .i64 2] w (Rw ⟨3, p, n⟩ 0 0 w) := by
  have T0 := Lib.hid (T2.start w #[.int .i64 3, .bool p, .int .i64 n])
  go_enter Try.func8, Try.ntmps8
  go_upto_region 1 with (fail)
  generalize (w.alloc (.cells #[.int .i64 3, .bool p, .int .i64 n] 29)).alloc (.cells #[.int .i64 0, .bool false, .int .i64 0] 29) = w1 at T0 ⊢
  obtain ⟨q, hq⟩ : ∃ q, q = w.heap.size := ⟨_, rfl⟩
  rw [← hq] at T0 ⊢
  clear hq
  have k0 : w1.cell? ⟨q, 0, none⟩ = some (.int .i64 3) := cell_of T0.out.hp rfl
  have k1 : w1.cell? ⟨q, 1, none⟩ = some (.bool p) := cell_of T0.out.hp rfl
  have k2 : w1.cell? ⟨q, 2, none⟩ = some (.int .i64 n) := cell_of T0.out.hp rfl
  have fq : ∀ j, w1.frozen? ⟨q + 1, j, none⟩ = false := fun j => frozen_at T0.out.hq
  have q0 : w1.cell? ⟨q + 1, 0, none⟩ = some (.int .i64 0) := cell_of T0.out.hq rfl
  have q1 : w1.cell? ⟨q + 1, 1, none⟩ = some (.bool false) := cell_of T0.out.hq rfl
  have q2 : w1.cell? ⟨q + 1, 2, none⟩ = some (.int .i64 0) := cell_of T0.out.hq rfl
  go_wp2_with fail
  have HT := (((T0.out.setq 0 (.int .i64 3)).setq 1 (.bool p)).setq 2 (.int .i64 n))
  exact bodyPost_ret (results_rtt (fn := Try.f8) (p := 4) (u := 5) (u' := 6) (ty := 29) rfl _ _ (q + 1) 29 (⟨3, p, n⟩ : Wt).cs (0, 0) _ rfl HT.hq Try.underlying29 rfl rfl) rfl ⟨rfl, Lib.hid HT.up⟩
set_option maxRecDepth 100000 in
set_option maxHeartbeats 1000000 in
theorem wt_33 (n : Int) (p : Bool) (w : World) (c1 : decide (n < -1) = false) (c2 : decide (n > 3) = false) : Calls Try.prog 8 #[.agg #[.int .i64 3, .bool p, .int .i64 n], .int .i64 3] w (Rw ⟨3, p, n⟩ 0 0 w) := by
  have T0 := Lib.hid (T2.start w #[.int .i64 3, .bool p, .int .i64 n])
  go_enter Try.func8, Try.ntmps8
  go_upto_region 1 with (fail)
  generalize (w.alloc (.cells #[.int .i64 3, .bool p, .int .i64 n] 29)).alloc (.cells #[.int .i64 0, .bool false, .int .i64 0] 29) = w1 at T0 ⊢
  obtain ⟨q, hq⟩ : ∃ q, q = w.heap.size := ⟨_, rfl⟩
  rw [← hq] at T0 ⊢
  clear hq
  have k0 : w1.cell? ⟨q, 0, none⟩ = some (.int .i64 3) := cell_of T0.out.hp rfl
  have k1 : w1.cell? ⟨q, 1, none⟩ = some (.bool p) := cell_of T0.out.hp rfl
  have k2 : w1.cell? ⟨q, 2, none⟩ = some (.int .i64 n) := cell_of T0.out.hp rfl
  have fq : ∀ j, w1.frozen? ⟨q + 1, j, none⟩ = false := fun j => frozen_at T0.out.hq
  have q0 : w1.cell? ⟨q + 1, 0, none⟩ = some (.int .i64 0) := cell_of T0.out.hq rfl
  have q1 : w1.cell? ⟨q + 1, 1, none⟩ = some (.bool false) := cell_of T0.out.hq rfl
  have q2 : w1.cell? ⟨q + 1, 2, none⟩ = some (.int .i64 0) := cell_of T0.out.hq rfl
  go_wp2_with fail
  have HT := (((T0.out.setq 0 (.int .i64 3)).setq 1 (.bool p)).setq 2 (.int .i64 n))
  exact bodyPost_ret (results_rtt (fn := Try.f8) (p := 4) (u := 5) (u' := 6) (ty := 29) rfl _ _ (q + 1) 29 (⟨3, p, n⟩ : Wt).cs (0, 0) _ rfl HT.hq Try.underlying29 rfl rfl) rfl ⟨rfl, Lib.hid HT.up⟩
set_option maxRecDepth 100000 in
set_option maxHeartbeats 1000000 in
theorem wt_34 (n : Int) (p : Bool) (w : World) (c1 : decide (n < -1) = false) (c2 : decide (n > 3) = false) : Calls Try.prog 8 #[.agg #[.int .i64 3, .bool p, .int .i64 n], .int .i64 4] w (Rw ⟨3, p, n⟩ 0 0 w) := by
  have T0 := Lib.hid (T2.start w #[.int .i64 3, .bool p, .int .i64 n])
  go_enter Try.func8, Try.ntmps8
  go_upto_region 1 with (fail)
  generalize (w.alloc (.cells #[.int .i64 3, .bool p, .int .i64 n] 29)).alloc (.cells #[.int .i64 0, .bool false, .int .i64 0] 29) = w1 at T0 ⊢
  obtain ⟨q, hq⟩ : ∃ q, q = w.heap.size := ⟨_, rfl⟩
  rw [← hq] at T0 ⊢
  clear hq
  have k0 : w1.cell? ⟨q, 0, none⟩ = some (.int .i64 3) := cell_of T0.out.hp rfl
  have k1 : w1.cell? ⟨q, 1, none⟩ = some (.bool p) := cell_of T0.out.hp rfl
  have k2 : w1.cell? ⟨q, 2, none⟩ = some (.int .i64 n) := cell_of T0.out.hp rfl
  have fq : ∀ j, w1.frozen? ⟨q + 1, j, none⟩ = false := fun j => frozen_at T0.out.hq
  have q0 : w1.cell? ⟨q + 1, 0, none⟩ = some (.int .i64 0) := cell_of T0.out.hq rfl
  have q1 : w1.cell? ⟨q + 1, 1, none⟩ = some (.bool false) := cell_of T0.out.hq rfl
  have q2 : w1.cell? ⟨q + 1, 2, none⟩ = some (.int .i64 0) := cell_of T0.out.hq rfl
  go_wp2_with fail
  have HT := (((T0.out.setq 0 (.int .i64 3)).setq 1 (.bool p)).setq 2 (.int .i64 n))
  exact bodyPost_ret (results_rtt (fn := Try.f8) (p := 4) (u := 5) (u' := 6) (ty := 29) rfl _ _ (q + 1) 29 (⟨3, p, n⟩ : Wt).cs (0, 0) _ rfl HT.hq Try.underlying29 rfl rfl) rfl ⟨rfl, Lib.hid HT.up⟩
set_option maxRecDepth 100000 in
set_option maxHeartbeats 1000000 in
theorem wt_35 (n : Int) (p : Bool) (w : World) (c1 : decide (n < -1) = false) (c2 : decide (n > 3) = false) : Calls Try.prog 8 #[.agg #[.int .i64 3, .bool p, .int .i64 n], .int .i64 5] w (Rw ⟨3, p, n⟩ 48 0 w) := by
  have T0 := Lib.hid (T2.start w #[.int .i64 3, .bool p, .int .i64 n])
  go_enter Try.func8, Try.ntmps8
  go_upto_region 1 with (fail)
  generalize (w.alloc (.cells #[.int .i64 3, .bool p, .int .i64 n] 29)).alloc (.cells #[.int .i64 0, .bool false, .int .i64 0] 29) = w1 at T0 ⊢
  obtain ⟨q, hq⟩ : ∃ q, q = w.heap.size := ⟨_, rfl⟩
  rw [← hq] at T0 ⊢
  clear hq
  have k0 : w1.cell? ⟨q, 0, none⟩ = some (.int .i64 3) := cell_of T0.out.hp rfl
  have k1 : w1.cell? ⟨q, 1, none⟩ = some (.bool p) := cell_of T0.out.hp rfl
  have k2 : w1.cell? ⟨q, 2, none⟩ = some (.int .i64 n) := cell_of T0.out.hp rfl
  have fq : ∀ j, w1.frozen? ⟨q + 1, j, none⟩ = false := fun j => frozen_at T0.out.hq
  have q0 : w1.cell? ⟨q + 1, 0, none⟩ = some (.int .i64 0) := cell_of T0.out.hq rfl
  have q1 : w1.cell? ⟨q + 1, 1, none⟩ = some (.bool false) := cell_of T0.out.hq rfl
  have q2 : w1.cell? ⟨q + 1, 2, none⟩ = some (.int .i64 0) := cell_of T0.out.hq rfl
  go_wp2_with fail
  have HT := (((T0.out.setq 0 (.int .i64 3)).setq 1 (.bool p)).setq 2 (.int .i64 n))
  exact bodyPost_ret (results_rtt (fn := Try.f8) (p := 4) (u := 5) (u' := 6) (ty := 29) rfl _ _ (q + 1) 29 (⟨3, p, n⟩ : Wt).cs (0, 0) _ rfl HT.hq Try.underlying29 rfl rfl) rfl ⟨rfl, Lib.hid HT.up⟩
set_option maxRecDepth 100000 in
set_option maxHeartbeats 1000000 in
theorem wt_41 (n : Int) (p : Bool) (w : World) (c1 : decide (n < -1) = false) (c2 : decide (n > 3) = false) : Calls Try.prog 8 #[.agg #[.int .i64 4, .bool p, .int .i64 n], .int .i64 1] w (Rw ⟨4, p, n⟩ 0 0 w) := by
  have T0 := Lib.hid (T2.start w #[.int .i64 4, .bool p, .int .i64 n])
  go_enter Try.func8, Try.ntmps8
  go_upto_region 1 with (fail)
  generalize (w.alloc (.cells #[.int .i64 4, .bool p, .int .i64 n] 29)).alloc (.cells #[.int .i64 0, .bool false, .int .i64 0] 29) = w1 at T0 ⊢
  obtain ⟨q, hq⟩ : ∃ q, q = w.heap.size := ⟨_, rfl⟩
  rw [← hq] at T0 ⊢
  clear hq
  have k0 : w1.cell? ⟨q, 0, none⟩ = some (.int .i64 4) := cell_of T0.out.hp rfl
  have k1 : w1.cell? ⟨q, 1, none⟩ = some (.bool p) := cell_of T0.out.hp rfl
  have k2 : w1.cell? ⟨q, 2, none⟩ = some (.int .i64 n) := cell_of T0.out.hp rfl
  have fq : ∀ j, w1.frozen? ⟨q + 1, j, none⟩ = false := fun j => frozen_at T0.out.hq
  have q0 : w1.cell? ⟨q + 1, 0, none⟩ = some (.int .i64 0) := cell_of T0.out.hq rfl
  have q1 : w1.cell? ⟨q + 1, 1, none⟩ = some (.bool false) := cell_of T0.out.hq rfl
  have q2 : w1.cell? ⟨q + 1, 2, none⟩ = some (.int .i64 0) := cell_of T0.out.hq rfl
  go_wp2_with fail
  have HT := (((T0.out.setq 0 (.int .i64 4)).setq 1 (.bool p)).setq 2 (.int .i64 n))
  exact bodyPost_ret (results_rtt (fn := Try.f8) (p := 4) (u := 5) (u' := 6) (ty := 29) rfl _ _ (q + 1) 29 (⟨4, p, n⟩ : Wt).cs (0, 0) _ rfl HT.hq Try.underlying29 rfl rfl) rfl ⟨rfl, Lib.hid HT.up⟩
set_option maxRecDepth 100000 in
set_option maxHeartbeats 1000000 in
theorem wt_42 (n : Int) (p : Bool) (w : World) (c1 : decide (n < -1) = false) (c2 : decide (n > 3) = false) : Calls Try.prog 8 #[.agg #[.int .i64 4, .bool p, .int .i64 n], .int .i64 2] w (Rw ⟨3, false, 0⟩ 32 0 w) := by
  have T0 := Lib.hid (T2.start w #[.int .i64 4, .bool p, .int .i64 n])
  go_enter Try.func8, Try.ntmps8
  go_upto_region 1 with (fail)
  generalize (w.alloc (.cells #[.int .i64 4, .bool p, .int .i64 n] 29)).alloc (.cells #[.int .i64 0, .bool false, .int .i64 0] 29) = w1 at T0 ⊢
  obtain ⟨q, hq⟩ : ∃ q, q = w.heap.size := ⟨_, rfl⟩
  rw [← hq] at T0 ⊢
  clear hq
  have k0 : w1.cell? ⟨q, 0, none⟩ = some (.int .i64 4) := cell_of T0.out.hp rfl
  have k1 : w1.cell? ⟨q, 1, none⟩ = some (.bool p) := cell_of T0.out.hp rfl
  have k2 : w1.cell? ⟨q, 2, none⟩ = some (.int .i64 n) := cell_of T0.out.hp rfl
  have fq : ∀ j, w1.frozen? ⟨q + 1, j, none⟩ = false := fun j => frozen_at T0.out.hq
  have q0 : w1.cell? ⟨q + 1, 0, none⟩ = some (.int .i64 0) := cell_of T0.out.hq rfl
  have q1 : w1.cell? ⟨q + 1, 1, none⟩ = some (.bool false) := cell_of T0.out.hq rfl
  have q2 : w1.cell? ⟨q + 1, 2, none⟩ = some (.int .i64 0) := cell_of T0.out.hq rfl
  go_wp2_with fail
  have HT := (((T0.out.setq 0 (.int .i64 3)).setq 1 (.bool false)).setq 2 (.int .i64 0))
  exact bodyPost_ret (results_rtt (fn := Try.f8) (p := 4) (u := 5) (u' := 6) (ty := 29) rfl _ _ (q + 1) 29 (⟨3, false, 0⟩ : Wt).cs (0, 0) _ rfl HT.hq Try.underlying29 rfl rfl) rfl ⟨rfl, Lib.hid HT.up⟩
set_option maxRecDepth 100000 in
set_option maxHeartbeats 1000000 in
theorem wt_43l (n : Int) (p : Bool) (w : World) (c1 : decide (n < -1) = false) (c2 : decide (n > 3) = false) (e1 : decide (n < 2) = true) (h1 : -1 ≤ n) (h2 : n ≤ 3) : Calls Try.prog 8 #[.agg #[.int .i64 4, .bool p, .int .i64 n], .int .i64 3] w (Rw ⟨4, false, (n + 1)⟩ 0 0 w) := by
  have T0 := Lib.hid (T2.start w #[.int .i64 4, .bool p, .int .i64 n])
  go_enter Try.func8, Try.ntmps8
  go_upto_region 1 with (fail)
  generalize (w.alloc (.cells #[.int .i64 4, .bool p, .int .i64 n] 29)).alloc (.cells #[.int .i64 0, .bool false, .int .i64 0] 29) = w1 at T0 ⊢
  obtain ⟨q, hq⟩ : ∃ q, q = w.heap.size := ⟨_, rfl⟩
  rw [← hq] at T0 ⊢
  clear hq
  have k0 : w1.cell? ⟨q, 0, none⟩ = some (.int .i64 4) := cell_of T0.out.hp rfl
  have k1 : w1.cell? ⟨q, 1, none⟩ = some (.bool p) := cell_of T0.out.hp rfl
  have k2 : w1.cell? ⟨q, 2, none⟩ = some (.int .i64 n) := cell_of T0.out.hp rfl
  have fq : ∀ j, w1.frozen? ⟨q + 1, j, none⟩ = false := fun j => frozen_at T0.out.hq
  have q0 : w1.cell? ⟨q + 1, 0, none⟩ = some (.int .i64 0) := cell_of T0.out.hq rfl
  have q1 : w1.cell? ⟨q + 1, 1, none⟩ = some (.bool false) := cell_of T0.out.hq rfl
  have q2 : w1.cell? ⟨q + 1, 2, none⟩ = some (.int .i64 0) := cell_of T0.out.hq rfl
  go_wp2_with fail
  have HT := (((T0.out.setq 0 (.int .i64 4)).setq 1 (.bool false)).setq 2 (.int .i64 (n + 1)))
  exact bodyPost_ret (results_rtt (fn := Try.f8) (p := 4) (u := 5) (u' := 6) (ty := 29) rfl _ _ (q + 1) 29 (⟨4, false, (n + 1)⟩ : Wt).cs (0, 0) _ rfl HT.hq Try.underlying29 rfl rfl) rfl ⟨rfl, Lib.hid HT.up⟩
set_option maxRecDepth 100000 in
set_option maxHeartbeats 1000000 in
theorem wt_43h (n : Int) (p : Bool) (w : World) (c1 : decide (n < -1) = false) (c2 : decide (n > 3) = false) (e1 : decide (n < 2) = false) : Calls Try.prog 8 #[.agg #[.int .i64 4, .bool p, .int .i64 n], .int .i64 3] w (Rw ⟨1, false, 0⟩ 36 0 w) := by
  have T0 := Lib.hid (T2.start w #[.int .i64 4, .bool p, .int .i64 n])
  go_enter Try.func8, Try.ntmps8
  go_upto_region 1 with (fail)
  generalize (w.alloc (.cells #[.int .i64 4, .bool p, .int .i64 n] 29)).alloc (.cells #[.int .i64 0, .bool false, .int .i64 0] 29) = w1 at T0 ⊢
  obtain ⟨q, hq⟩ : ∃ q, q = w.heap.size := ⟨_, rfl⟩
  rw [← hq] at T0 ⊢
  clear hq
  have k0 : w1.cell? ⟨q, 0, none⟩ = some (.int .i64 4) := cell_of T0.out.hp rfl
  have k1 : w1.cell? ⟨q, 1, none⟩ = some (.bool p) := cell_of T0.out.hp rfl
  have k2 : w1.cell? ⟨q, 2, none⟩ = some (.int .i64 n) := cell_of T0.out.hp rfl
  have fq : ∀ j, w1.frozen? ⟨q + 1, j, none⟩ = false := fun j => frozen_at T0.out.hq
  have q0 : w1.cell? ⟨q + 1, 0, none⟩ = some (.int .i64 0) := cell_of T0.out.hq rfl
  have q1 : w1.cell? ⟨q + 1, 1, none⟩ = some (.bool false) := cell_of T0.out.hq rfl
  have q2 : w1.cell? ⟨q + 1, 2, none⟩ = some (.int .i64 0) := cell_of T0.out.hq rfl
  go_wp2_with fail
  have HT := (((T0.out.setq 0 (.int .i64 1)).setq 1 (.bool false)).setq 2 (.int .i64 0))
  exact bodyPost_ret (results_rtt (fn := Try.f8) (p := 4) (u := 5) (u' := 6) (ty := 29) rfl _ _ (q + 1) 29 (⟨1, false, 0⟩ : Wt).cs (0, 0) _ rfl HT.hq Try.underlying29 rfl rfl) rfl ⟨rfl, Lib.hid HT.up⟩
set_option maxRecDepth 100000 in
set_option maxHeartbeats 1000000 in
theorem wt_44 (n : Int) (p : Bool) (w : World) (c1 : decide (n < -1) = false) (c2 : decide (n > 3) = false) : Calls Try.prog 8 #[.agg #[.int .i64 4, .bool p, .int .i64 n], .int .i64 4] w (Rw ⟨4, p, n⟩ 0 0 w) := by
  have T0 := Lib.hid (T2.start w #[.int .i64 4, .bool p, .int .i64 n])
  go_enter Try.func8, Try.ntmps8
  go_upto_region 1 with (fail)
  generalize (w.alloc (.cells #[.int .i64 4, .bool p, .int .i64 n] 29)).alloc (.cells #[.int .i64 0, .bool false, .int .i64 0] 29) = w1 at T0 ⊢
  obtain ⟨q, hq⟩ : ∃ q, q = w.heap.size := ⟨_, rfl⟩
  rw [← hq] at T0 ⊢
  clear hq
  have k0 : w1.cell? ⟨q, 0, none⟩ = some (.int .i64 4) := cell_of T0.out.hp rfl
  have k1 : w1.cell? ⟨q, 1, none⟩ = some (.bool p) := cell_of T0.out.hp rfl
  have k2 : w1.cell? ⟨q, 2, none⟩ = some (.int .i64 n) := cell_of T0.out.hp rfl
  have fq : ∀ j, w1.frozen? ⟨q + 1, j, none⟩ = false := fun j => frozen_at T0.out.hq
  have q0 : w1.cell? ⟨q + 1, 0, none⟩ = some (.int .i64 0) := cell_of T0.out.hq rfl
  have q1 : w1.cell? ⟨q + 1, 1, none⟩ = some (.bool false) := cell_of T0.out.hq rfl
  have q2 : w1.cell? ⟨q + 1, 2, none⟩ = some (.int .i64 0) := cell_of T0.out.hq rfl
  go_wp2_with fail
  have HT := (((T0.out.setq 0 (.int .i64 4)).setq 1 (.bool p)).setq 2 (.int .i64 n))
  exact bodyPost_ret (results_rtt (fn := Try.f8) (p := 4) (u := 5) (u' := 6) (ty := 29) rfl _ _ (q + 1) 29 (⟨4, p, n⟩ : Wt).cs (0, 0) _ rfl HT.hq Try.underlying29 rfl rfl) rfl ⟨rfl, Lib.hid HT.up⟩
set_option maxRecDepth 100000 in
set_option maxHeartbeats 1000000 in
theorem wt_45f (n : Int) (p : Bool) (w : World) (c1 : decide (n < -1) = false) (c2 : decide (n > 3) = false) : Calls Try.prog 8 #[.agg #[.int .i64 4, .bool false, .int .i64 n], .int .i64 5] w (Rw ⟨4, true, n⟩ 33 0 w) := by
  have T0 := Lib.hid (T2.start w #[.int .i64 4, .bool false, .int .i64 n])
  go_enter Try.func8, Try.ntmps8
  go_upto_region 1 with (fail)
  generalize (w.alloc (.cells #[.int .i64 4, .bool false, .int .i64 n] 29)).alloc (.cells #[.int .i64 0, .bool false, .int .i64 0] 29) = w1 at T0 ⊢
  obtain ⟨q, hq⟩ : ∃ q, q = w.heap.size := ⟨_, rfl⟩
  rw [← hq] at T0 ⊢
  clear hq
  have k0 : w1.cell? ⟨q, 0, none⟩ = some (.int .i64 4) := cell_of T0.out.hp rfl
  have k1 : w1.cell? ⟨q, 1, none⟩ = some (.bool false) := cell_of T0.out.hp rfl
  have k2 : w1.cell? ⟨q, 2, none⟩ = some (.int .i64 n) := cell_of T0.out.hp rfl
  have fq : ∀ j, w1.frozen? ⟨q + 1, j, none⟩ = false := fun j => frozen_at T0.out.hq
  have q0 : w1.cell? ⟨q + 1, 0, none⟩ = some (.int .i64 0) := cell_of T0.out.hq rfl
  have q1 : w1.cell? ⟨q + 1, 1, none⟩ = some (.bool false) := cell_of T0.out.hq rfl
  have q2 : w1.cell? ⟨q + 1, 2, none⟩ = some (.int .i64 0) := cell_of T0.out.hq rfl
  go_wp2_with fail
  have HT := (((T0.out.setq 0 (.int .i64 4)).setq 1 (.bool true)).setq 2 (.int .i64 n))
  exact bodyPost_ret (results_rtt (fn := Try.f8) (p := 4) (u := 5) (u' := 6) (ty := 29) rfl _ _ (q + 1) 29 (⟨4, true, n⟩ : Wt).cs (0, 0) _ rfl HT.hq Try.underlying29 rfl rfl) rfl ⟨rfl, Lib.hid HT.up⟩
set_option maxRecDepth 100000 in
set_option maxHeartbeats 1000000 in
theorem wt_45t (n : Int) (p : Bool) (w : World) (c1 : decide (n < -1) = false) (c2 : decide (n > 3) = false) (e1 : decide (n ≥ 0) = true) : Calls Try.prog 8 #[.agg #[.int .i64 4, .bool true, .int .i64 n], .int .i64 5] w (Rw ⟨4, true, (-1)⟩ 32 0 w) := by
  have T0 := Lib.hid (T2.start w #[.int .i64 4, .bool true, .int .i64 n])
  go_enter Try.func8, Try.ntmps8
  go_upto_region 1 with (fail)
  generalize (w.alloc (.cells #[.int .i64 4, .bool true, .int .i64 n] 29)).alloc (.cells #[.int .i64 0, .bool false, .int .i64 0] 29) = w1 at T0 ⊢
  obtain ⟨q, hq⟩ : ∃ q, q = w.heap.size := ⟨_, rfl⟩
  rw [← hq] at T0 ⊢
  clear hq
  have k0 : w1.cell? ⟨q, 0, none⟩ = some (.int .i64 4) := cell_of T0.out.hp rfl
  have k1 : w1.cell? ⟨q, 1, none⟩ = some (.bool true) := cell_of T0.out.hp rfl
  have k2 : w1.cell? ⟨q, 2, none⟩ = some (.int .i64 n) := cell_of T0.out.hp rfl
  have fq : ∀ j, w1.frozen? ⟨q + 1, j, none⟩ = false := fun j => frozen_at T0.out.hq
  have q0 : w1.cell? ⟨q + 1, 0, none⟩ = some (.int .i64 0) := cell_of T0.out.hq rfl
  have q1 : w1.cell? ⟨q + 1, 1, none⟩ = some (.bool false) := cell_of T0.out.hq rfl
  have q2 : w1.cell? ⟨q + 1, 2, none⟩ = some (.int .i64 0) := cell_of T0.out.hq rfl
  go_wp2_with fail
  have HT := (((T0.out.setq 0 (.int .i64 4)).setq 1 (.bool true)).setq 2 (.int .i64 (-1)))
  exact bodyPost_ret (results_rtt (fn := Try.f8) (p := 4) (u := 5) (u' := 6) (ty := 29) rfl _ _ (q + 1) 29 (⟨4, true, (-1)⟩ : Wt).cs (0, 0) _ rfl HT.hq Try.underlying29 rfl rfl) rfl ⟨rfl, Lib.hid HT.up⟩
set_option maxRecDepth 100000 in
set_option maxHeartbeats 1000000 in
theorem wt_45m (n : Int) (p : Bool) (w : World) (c1 : decide (n < -1) = false) (c2 : decide (n > 3) = false) (e1 : decide (n ≥ 0) = false) : Calls Try.prog 8 #[.agg #[.int .i64 4, .bool true, .int .i64 n], .int .i64 5] w (Rw ⟨3, false, 0⟩ 40 0 w) := by
  have T0 := Lib.hid (T2.start w #[.int .i64 4, .bool true, .int .i64 n])
  go_enter Try.func8, Try.ntmps8
  go_upto_region 1 with (fail)
  generalize (w.alloc (.cells #[.int .i64 4, .bool true, .int .i64 n] 29)).alloc (.cells #[.int .i64 0, .bool false, .int .i64 0] 29) = w1 at T0 ⊢
  obtain ⟨q, hq⟩ : ∃ q, q = w.heap.size := ⟨_, rfl⟩
  rw [← hq] at T0 ⊢
  clear hq
  have k0 : w1.cell? ⟨q, 0, none⟩ = some (.int .i64 4) := cell_of T0.out.hp rfl
  have k1 : w1.cell? ⟨q, 1, none⟩ = some (.bool true) := cell_of T0.out.hp rfl
  have k2 : w1.cell? ⟨q, 2, none⟩ = some (.int .i64 n) := cell_of T0.out.hp rfl
  have fq : ∀ j, w1.frozen? ⟨q + 1, j, none⟩ = false := fun j => frozen_at T0.out.hq
  have q0 : w1.cell? ⟨q + 1, 0, none⟩ = some (.int .i64 0) := cell_of T0.out.hq rfl
  have q1 : w1.cell? ⟨q + 1, 1, none⟩ = some (.bool false) := cell_of T0.out.hq rfl
  have q2 : w1.cell? ⟨q + 1, 2, none⟩ = some (.int .i64 0) := cell_of T0.out.hq rfl
  go_wp2_with fail
  have HT := (((T0.out.setq 0 (.int .i64 3)).setq 1 (.bool false)).setq 2 (.int .i64 0))
  exact bodyPost_ret (results_rtt (fn := Try.f8) (p := 4) (u := 5) (u' := 6) (ty := 29) rfl _ _ (q + 1) 29 (⟨3, false, 0⟩ : Wt).cs (0, 0) _ rfl HT.hq Try.underlying29 rfl rfl) rfl ⟨rfl, Lib.hid HT.up⟩
end Go.Proofs.Ytdhkbpnhbbedmaa
