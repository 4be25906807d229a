import Derived.Test.YtdhkbpnhbbedmaaWt2
import Derived.StillTailTactics
import Derived.Deep.RegionLawGrows
namespace Go.Proofs.Ytdhkbpnhbbedmaa
open Go Go.RowKit
set_option linter.unusedVariables false
set_option linter.unusedSimpArgs false
def wth (n lo hi : Int) : Bool := decide (lo ≤ n ∧ n ≤ hi)
theorem wth_t {n lo hi : Int} (h : lo ≤ n ∧ n ≤ hi) : wth n lo hi = true := decide_eq_true h
theorem wth_f {n lo hi : Int} (h : ¬ (lo ≤ n ∧ n ≤ hi)) : wth n lo hi = false := decide_eq_false h
theorem within_any (n lo hi : Int) (w : World) : Calls Try.prog 11 #[.int .i64 n, .int .i64 lo, .int .i64 hi] w fun e w' => e = .returned (.bool (wth n lo hi)) ∧ w = w' := by
  by_cases h1 : lo ≤ n
  · by_cases h2 : n ≤ hi
    · rw [wth_t ⟨h1, h2⟩]
      have d1 : decide (lo ≤ n) = true := decide_eq_true h1
      have d2 : decide (n ≤ hi) = true := decide_eq_true h2
      clear h1 h2
      go_enter Try.func11, Try.ntmps11
      go_wp2_with fail
      go_ret
      exact ⟨rfl, rfl⟩
    · rw [wth_f (fun h => h2 h.2)]
      have d1 : decide (lo ≤ n) = true := decide_eq_true h1
      have d2 : decide (n ≤ hi) = false := decide_eq_false h2
      clear h1 h2
      go_enter Try.func11, Try.ntmps11
      go_wp2_with fail
      go_ret
      exact ⟨rfl, rfl⟩
  · rw [wth_f (fun h => h1 h.1)]
    have d1 : decide (lo ≤ n) = false := decide_eq_false h1
    clear h1
    go_enter Try.func11, Try.ntmps11
    go_wp2_with fail
    go_ret
    exact ⟨rfl, rfl⟩
theorem results_rr {P : Program} {fn : Func} {p p2 u : Tmp} {ty ty2 : TypeId} (h : fn.results = #[.cell p ty, .cell p2 ty2, .tmp u]) (tmps : Array Value) (w : World) (g : Nat) (t : TypeId) (cs : Array Value) (fr : Nat × Nat) (d : TypeDesc)
    (g2 : Nat) (t2 : TypeId) (cs2 : Array Value) (fr2 : Nat × Nat) (d2 : TypeDesc)
    (hp : tmps.getD p undef = .pointer (some ⟨g, 0, none⟩)) (hg : w.heap[g]? = some (.cells cs t fr))
    (hu : P.underlying ty = some d) (hd : (match d with | .struct _ | .array _ _ => true | _ => false) = true) (hi : (P.info? ty).map (·.size) = some cs.size)
    (hp2 : tmps.getD p2 undef = .pointer (some ⟨g2, 0, none⟩)) (hg2 : w.heap[g2]? = some (.cells cs2 t2 fr2))
    (hu2 : P.underlying ty2 = some d2) (hd2 : (match d2 with | .struct _ | .array _ _ => true | _ => false) = true) (hi2 : (P.info? ty2).map (·.size) = some cs2.size) :
    (results fn tmps).run P w = .ok (.tuple #[.agg cs, .agg cs2, tmps.getD u undef]) w := by
  have hp' : tmps[p]?.getD undef = .pointer (some ⟨g, 0, none⟩) := by simpa using hp
  have hp2' : tmps[p2]?.getD undef = .pointer (some ⟨g2, 0, none⟩) := by simpa using hp2
  simp [results, h, hp', hp2', asAddr, run_loadVar_row w g t ty cs fr d hg hu hd hi, run_loadVar_row w g2 t2 ty2 cs2 fr2 d2 hg2 hu2 hd2 hi2, Result.andThen]
/-- Three new blocks: the watch, and both results. -/
structure T3 (p q r : Nat) (cs c1 ds : Array Value) (w w' : World) : Prop where
  hp : w'.heap[p]? = some (.cells cs 23 (0, 0))
  hq : w'.heap[q]? = some (.cells c1 23 (0, 0))
  hr : w'.heap[r]? = some (.cells ds 25 (0, 0))
  np : w.heap.size ≤ p
  pq : p < q
  qr : q < r
  up : Up w w'
section
variable {p q r : Nat} {cs c1 ds cs' : Array Value} {w w1 w2 : World}
theorem up_set {b j : Nat} {v : Value} (h : Up w w1) (hb : w.heap.size ≤ b) : Up w (w1.setCell ⟨b, j, none⟩ v) := Below.out h (setCell_out w1 b j v) (fun k hk => by rw [hk]; exact hb) h.size
theorem T3.setq (h : T3 p q r cs c1 ds w w1) (j : Nat) (v : Value) : T3 p q r cs (c1.setIfInBounds j v) ds w (w1.setCell ⟨q, j, none⟩ v) :=
  ⟨(heap_set_ne (by have := h.pq; omega)).trans h.hp, setCell_at v h.hq, (heap_set_ne (by have := h.qr; omega)).trans h.hr, h.np, h.pq, h.qr, up_set h.up (by have := h.np; have := h.pq; omega)⟩
theorem T3.setr (h : T3 p q r cs c1 ds w w1) (j : Nat) (v : Value) : T3 p q r cs c1 (ds.setIfInBounds j v) w (w1.setCell ⟨r, j, none⟩ v) :=
  ⟨(heap_set_ne (by have := h.pq; have := h.qr; omega)).trans h.hp, (heap_set_ne (by have := h.qr; omega)).trans h.hq, setCell_at v h.hr, h.np, h.pq, h.qr, up_set h.up (by have := h.np; have := h.pq; have := h.qr; omega)⟩
theorem T3.call (h : T3 p q r cs c1 ds w w1) (t : Tr p cs' w1 w2) : T3 p q r cs' c1 ds w w2 :=
  ⟨t.hb, (t.out.block q (lt_at h.hq) (by have := h.pq; omega)).trans h.hq, (t.out.block r (lt_at h.hr) (by have := h.pq; have := h.qr; omega)).trans h.hr, h.np, h.pq, h.qr, Below.out h.up t.out (fun k hk => by rw [hk]; exact h.np) h.up.size⟩
theorem T3.more (h : T3 p q r cs c1 ds w w1) (u : Up w1 w2) : T3 p q r cs c1 ds w w2 :=
  ⟨(u.block _ (lt_at h.hp)).trans h.hp, (u.block _ (lt_at h.hq)).trans h.hq, (u.block _ (lt_at h.hr)).trans h.hr, h.np, h.pq, h.qr, h.up.trans u⟩
end
theorem T3.start (w : World) (cs : Array Value) : T3 w.heap.size (w.heap.size + 1) (w.heap.size + 1 + 1) cs #[.int .i64 0, .bool false, .int .i64 0] #[.bool false, .bool false, .bool false, .bool false, .bool false, .bool false] w (((w.alloc (.cells cs 23)).alloc (.cells #[.int .i64 0, .bool false, .int .i64 0] 23)).alloc (.cells #[.bool false, .bool false, .bool false, .bool false, .bool false, .bool false] 25)) := by
  have a := new_at w (.cells cs 23)
  have b := new_at (w.alloc (.cells cs 23)) (.cells #[.int .i64 0, .bool false, .int .i64 0] 23)
  have c := new_at ((w.alloc (.cells cs 23)).alloc (.cells #[.int .i64 0, .bool false, .int .i64 0] 23)) (.cells #[.bool false, .bool false, .bool false, .bool false, .bool false, .bool false] 25)
  have s1 : (w.alloc (.cells cs 23)).heap.size = w.heap.size + 1 := by simp
  have s2 : ((w.alloc (.cells cs 23)).alloc (.cells #[.int .i64 0, .bool false, .int .i64 0] 23)).heap.size = w.heap.size + 1 + 1 := by simp
  have u1 := up_alloc w (.cells cs 23)
  have u2 := up_alloc (w.alloc (.cells cs 23)) (.cells #[.int .i64 0, .bool false, .int .i64 0] 23)
  have u3 := up_alloc ((w.alloc (.cells cs 23)).alloc (.cells #[.int .i64 0, .bool false, .int .i64 0] 23)) (.cells #[.bool false, .bool false, .bool false, .bool false, .bool false, .bool false] 25)
  have a2 := ((u2.trans u3).block _ (lt_at a)).trans a
  have b2 := (u3.block _ (lt_at b)).trans b
  rw [s1] at b2
  rw [s2] at c
  exact ⟨a2, b2, c, Nat.le_refl _, by omega, by omega, u1.trans (u2.trans u3)⟩
/-- A watch, what is to be done, and an error. -/
def Rs (y : Wt) (d : Du) (k : Int) (w : World) (e : Ending) (w' : World) : Prop := e = .returned (.tuple #[.agg y.cs, .agg d.cs, .int .i64 k]) ∧ Hid (Up w w')
abbrev W0 : Wt := ⟨0, false, 0⟩
set_option maxRecDepth 100000 in
set_option maxHeartbeats 1000000 in
theorem stepE_s (x : Wt) (ev : Int) (w : World) (hs : wth x.s 0 4 = false) : Calls Try.prog 7 #[.agg x.cs, .int .i64 ev] w (Rs W0 D0 1 w) := by
  have T0 := Lib.hid (T3.start w x.cs)
  have HW := Lib.hid (fun n lo hi wx => within_any n lo hi wx)
  go_enter Try.func7, Try.ntmps7
  go_upto_region 1 with (fail)
  change Hid (T3 _ _ _ #[.int .i64 x.s, .bool x.p, .int .i64 x.n] _ _ _ (((w.alloc (.cells #[.int .i64 x.s, .bool x.p, .int .i64 x.n] 23)).alloc (.cells #[.int .i64 0, .bool false, .int .i64 0] 23)).alloc (.cells #[.bool false, .bool false, .bool false, .bool false, .bool false, .bool false] 25))) at T0
  generalize ((w.alloc (.cells #[.int .i64 x.s, .bool x.p, .int .i64 x.n] 23)).alloc (.cells #[.int .i64 0, .bool false, .int .i64 0] 23)).alloc (.cells #[.bool false, .bool false, .bool false, .bool false, .bool false, .bool false] 25) = w1 at T0 ⊢
  obtain ⟨p, hp⟩ : ∃ p, p = w.heap.size := ⟨_, rfl⟩
  rw [← hp] at T0 ⊢
  clear hp
  have k0 : w1.cell? ⟨p, 0, none⟩ = some (.int .i64 x.s) := cell_of T0.out.hp rfl
  have k1 : w1.cell? ⟨p, 1, none⟩ = some (.bool x.p) := cell_of T0.out.hp rfl
  have k2 : w1.cell? ⟨p, 2, none⟩ = some (.int .i64 x.n) := cell_of T0.out.hp rfl
  have f1 : ∀ j, w1.frozen? ⟨p + 1, j, none⟩ = false := fun j => frozen_at T0.out.hq
  have f2 : ∀ j, w1.frozen? ⟨p + 1 + 1, j, none⟩ = false := fun j => frozen_at T0.out.hr
  have p0 : w1.cell? ⟨p + 1, 0, none⟩ = some (.int .i64 0) := cell_of T0.out.hq rfl
  have p1 : w1.cell? ⟨p + 1, 1, none⟩ = some (.bool false) := cell_of T0.out.hq rfl
  have p2 : w1.cell? ⟨p + 1, 2, none⟩ = some (.int .i64 0) := cell_of T0.out.hq rfl
  have q0 : w1.cell? ⟨p + 1 + 1, 0, none⟩ = some (.bool false) := cell_of T0.out.hr rfl
  have q1 : w1.cell? ⟨p + 1 + 1, 1, none⟩ = some (.bool false) := cell_of T0.out.hr rfl
  have q2 : w1.cell? ⟨p + 1 + 1, 2, none⟩ = some (.bool false) := cell_of T0.out.hr rfl
  have q3 : w1.cell? ⟨p + 1 + 1, 3, none⟩ = some (.bool false) := cell_of T0.out.hr rfl
  have q4 : w1.cell? ⟨p + 1 + 1, 4, none⟩ = some (.bool false) := cell_of T0.out.hr rfl
  have q5 : w1.cell? ⟨p + 1 + 1, 5, none⟩ = some (.bool false) := cell_of T0.out.hr rfl
  go_wp2_with fail
  refine (HW.out _ _ _ _).mono ?_
  rw [hs]
  rintro e w' ⟨rfl, hw⟩
  obtain rfl := hw.symm
  go_wp2_with fail
  have HT := (((((((((T0.out.setq 0 (.int .i64 0)).setq 1 (.bool false)).setq 2 (.int .i64 0)).setr 0 (.bool false)).setr 1 (.bool false)).setr 2 (.bool false)).setr 3 (.bool false)).setr 4 (.bool false)).setr 5 (.bool false))
  exact bodyPost_ret (results_rr (fn := Try.f7) (p := 4) (p2 := 5) (u := 6) (ty := 23) (ty2 := 25) rfl _ _ (p + 1) 23 W0.cs (0, 0) _ (p + 1 + 1) 25 D0.cs (0, 0) _ rfl HT.hq Try.underlying23 rfl rfl rfl HT.hr Try.underlying25 rfl rfl) rfl ⟨rfl, Lib.hid HT.up⟩
set_option maxRecDepth 100000 in
set_option maxHeartbeats 1000000 in
theorem stepE_n (x : Wt) (ev : Int) (w : World) (hs : wth x.s 0 4 = true) (hn : wth x.n (-1) 3 = false) : Calls Try.prog 7 #[.agg x.cs, .int .i64 ev] w (Rs W0 D0 1 w) := by
  have T0 := Lib.hid (T3.start w x.cs)
  have HW := Lib.hid (fun n lo hi wx => within_any n lo hi wx)
  go_enter Try.func7, Try.ntmps7
  go_upto_region 1 with (fail)
  change Hid (T3 _ _ _ #[.int .i64 x.s, .bool x.p, .int .i64 x.n] _ _ _ (((w.alloc (.cells #[.int .i64 x.s, .bool x.p, .int .i64 x.n] 23)).alloc (.cells #[.int .i64 0, .bool false, .int .i64 0] 23)).alloc (.cells #[.bool false, .bool false, .bool false, .bool false, .bool false, .bool false] 25))) at T0
  generalize ((w.alloc (.cells #[.int .i64 x.s, .bool x.p, .int .i64 x.n] 23)).alloc (.cells #[.int .i64 0, .bool false, .int .i64 0] 23)).alloc (.cells #[.bool false, .bool false, .bool false, .bool false, .bool false, .bool false] 25) = w1 at T0 ⊢
  obtain ⟨p, hp⟩ : ∃ p, p = w.heap.size := ⟨_, rfl⟩
  rw [← hp] at T0 ⊢
  clear hp
  have k0 : w1.cell? ⟨p, 0, none⟩ = some (.int .i64 x.s) := cell_of T0.out.hp rfl
  have k1 : w1.cell? ⟨p, 1, none⟩ = some (.bool x.p) := cell_of T0.out.hp rfl
  have k2 : w1.cell? ⟨p, 2, none⟩ = some (.int .i64 x.n) := cell_of T0.out.hp rfl
  have f1 : ∀ j, w1.frozen? ⟨p + 1, j, none⟩ = false := fun j => frozen_at T0.out.hq
  have f2 : ∀ j, w1.frozen? ⟨p + 1 + 1, j, none⟩ = false := fun j => frozen_at T0.out.hr
  have p0 : w1.cell? ⟨p + 1, 0, none⟩ = some (.int .i64 0) := cell_of T0.out.hq rfl
  have p1 : w1.cell? ⟨p + 1, 1, none⟩ = some (.bool false) := cell_of T0.out.hq rfl
  have p2 : w1.cell? ⟨p + 1, 2, none⟩ = some (.int .i64 0) := cell_of T0.out.hq rfl
  have q0 : w1.cell? ⟨p + 1 + 1, 0, none⟩ = some (.bool false) := cell_of T0.out.hr rfl
  have q1 : w1.cell? ⟨p + 1 + 1, 1, none⟩ = some (.bool false) := cell_of T0.out.hr rfl
  have q2 : w1.cell? ⟨p + 1 + 1, 2, none⟩ = some (.bool false) := cell_of T0.out.hr rfl
  have q3 : w1.cell? ⟨p + 1 + 1, 3, none⟩ = some (.bool false) := cell_of T0.out.hr rfl
  have q4 : w1.cell? ⟨p + 1 + 1, 4, none⟩ = some (.bool false) := cell_of T0.out.hr rfl
  have q5 : w1.cell? ⟨p + 1 + 1, 5, none⟩ = some (.bool false) := cell_of T0.out.hr rfl
  go_wp2_with fail
  refine (HW.out _ _ _ _).mono ?_
  rw [hs]
  rintro e w' ⟨rfl, hw⟩
  obtain rfl := hw.symm
  go_wp2_with fail
  refine (HW.out _ _ _ _).mono ?_
  rw [hn]
  rintro e w' ⟨rfl, hw⟩
  obtain rfl := hw.symm
  go_wp2_with fail
  have HT := (((((((((T0.out.setq 0 (.int .i64 0)).setq 1 (.bool false)).setq 2 (.int .i64 0)).setr 0 (.bool false)).setr 1 (.bool false)).setr 2 (.bool false)).setr 3 (.bool false)).setr 4 (.bool false)).setr 5 (.bool false))
  exact bodyPost_ret (results_rr (fn := Try.f7) (p := 4) (p2 := 5) (u := 6) (ty := 23) (ty2 := 25) rfl _ _ (p + 1) 23 W0.cs (0, 0) _ (p + 1 + 1) 25 D0.cs (0, 0) _ rfl HT.hq Try.underlying23 rfl rfl rfl HT.hr Try.underlying25 rfl rfl) rfl ⟨rfl, Lib.hid HT.up⟩
set_option maxRecDepth 100000 in
set_option maxHeartbeats 1000000 in
theorem stepE_e (x : Wt) (ev : Int) (w : World) (hs : wth x.s 0 4 = true) (hn : wth x.n (-1) 3 = true) (he : wth ev 1 5 = false) : Calls Try.prog 7 #[.agg x.cs, .int .i64 ev] w (Rs W0 D0 1 w) := by
  have T0 := Lib.hid (T3.start w x.cs)
  have HW := Lib.hid (fun n lo hi wx => within_any n lo hi wx)
  go_enter Try.func7, Try.ntmps7
  go_upto_region 1 with (fail)
  change Hid (T3 _ _ _ #[.int .i64 x.s, .bool x.p, .int .i64 x.n] _ _ _ (((w.alloc (.cells #[.int .i64 x.s, .bool x.p, .int .i64 x.n] 23)).alloc (.cells #[.int .i64 0, .bool false, .int .i64 0] 23)).alloc (.cells #[.bool false, .bool false, .bool false, .bool false, .bool false, .bool false] 25))) at T0
  generalize ((w.alloc (.cells #[.int .i64 x.s, .bool x.p, .int .i64 x.n] 23)).alloc (.cells #[.int .i64 0, .bool false, .int .i64 0] 23)).alloc (.cells #[.bool false, .bool false, .bool false, .bool false, .bool false, .bool false] 25) = w1 at T0 ⊢
  obtain ⟨p, hp⟩ : ∃ p, p = w.heap.size := ⟨_, rfl⟩
  rw [← hp] at T0 ⊢
  clear hp
  have k0 : w1.cell? ⟨p, 0, none⟩ = some (.int .i64 x.s) := cell_of T0.out.hp rfl
  have k1 : w1.cell? ⟨p, 1, none⟩ = some (.bool x.p) := cell_of T0.out.hp rfl
  have k2 : w1.cell? ⟨p, 2, none⟩ = some (.int .i64 x.n) := cell_of T0.out.hp rfl
  have f1 : ∀ j, w1.frozen? ⟨p + 1, j, none⟩ = false := fun j => frozen_at T0.out.hq
  have f2 : ∀ j, w1.frozen? ⟨p + 1 + 1, j, none⟩ = false := fun j => frozen_at T0.out.hr
  have p0 : w1.cell? ⟨p + 1, 0, none⟩ = some (.int .i64 0) := cell_of T0.out.hq rfl
  have p1 : w1.cell? ⟨p + 1, 1, none⟩ = some (.bool false) := cell_of T0.out.hq rfl
  have p2 : w1.cell? ⟨p + 1, 2, none⟩ = some (.int .i64 0) := cell_of T0.out.hq rfl
  have q0 : w1.cell? ⟨p + 1 + 1, 0, none⟩ = some (.bool false) := cell_of T0.out.hr rfl
  have q1 : w1.cell? ⟨p + 1 + 1, 1, none⟩ = some (.bool false) := cell_of T0.out.hr rfl
  have q2 : w1.cell? ⟨p + 1 + 1, 2, none⟩ = some (.bool false) := cell_of T0.out.hr rfl
  have q3 : w1.cell? ⟨p + 1 + 1, 3, none⟩ = some (.bool false) := cell_of T0.out.hr rfl
  have q4 : w1.cell? ⟨p + 1 + 1, 4, none⟩ = some (.bool false) := cell_of T0.out.hr rfl
  have q5 : w1.cell? ⟨p + 1 + 1, 5, none⟩ = some (.bool false) := cell_of T0.out.hr rfl
  go_wp2_with fail
  refine (HW.out _ _ _ _).mono ?_
  rw [hs]
  rintro e w' ⟨rfl, hw⟩
  obtain rfl := hw.symm
  go_wp2_with fail
  refine (HW.out _ _ _ _).mono ?_
  rw [hn]
  rintro e w' ⟨rfl, hw⟩
  obtain rfl := hw.symm
  go_wp2_with fail
  refine (HW.out _ _ _ _).mono ?_
  rw [he]
  rintro e w' ⟨rfl, hw⟩
  obtain rfl := hw.symm
  go_wp2_with fail
  have HT := (((((((((T0.out.setq 0 (.int .i64 0)).setq 1 (.bool false)).setq 2 (.int .i64 0)).setr 0 (.bool false)).setr 1 (.bool false)).setr 2 (.bool false)).setr 3 (.bool false)).setr 4 (.bool false)).setr 5 (.bool false))
  exact bodyPost_ret (results_rr (fn := Try.f7) (p := 4) (p2 := 5) (u := 6) (ty := 23) (ty2 := 25) rfl _ _ (p + 1) 23 W0.cs (0, 0) _ (p + 1 + 1) 25 D0.cs (0, 0) _ rfl HT.hq Try.underlying23 rfl rfl rfl HT.hr Try.underlying25 rfl rfl) rfl ⟨rfl, Lib.hid HT.up⟩
set_option maxRecDepth 100000 in
set_option maxHeartbeats 1000000 in
theorem stepE_ok (x y : Wt) (d : Du) (ev : Int) (w : World) (hs : wth x.s 0 4 = true) (hn : wth x.n (-1) 3 = true) (he : wth ev 1 5 = true) (hev : Ev ev) (hx : x.Ok) (hr : stepM x ev = (y, d)) : Calls Try.prog 7 #[.agg x.cs, .int .i64 ev] w (Rs y d 0 w) := by
  have HC : Hid (∀ (b : Nat) (wx : World) (hx1 : wx.heap[b]? = some (.cells x.cs 23 (0, 0))), Calls Try.prog 12 #[.pointer (some ⟨b, 0, none⟩), .int .i64 ev] wx (Dn b y d wx)) := Lib.hid fun b wx hx1 => by
    have := step_any x ev hev hx b wx hx1
    rw [hr] at this
    exact this
  clear hr hev hx
  have T0 := Lib.hid (T3.start w x.cs)
  have HW := Lib.hid (fun n lo hi wx => within_any n lo hi wx)
  go_enter Try.func7, Try.ntmps7
  go_upto_region 1 with (fail)
  change Hid (T3 _ _ _ #[.int .i64 x.s, .bool x.p, .int .i64 x.n] _ _ _ (((w.alloc (.cells #[.int .i64 x.s, .bool x.p, .int .i64 x.n] 23)).alloc (.cells #[.int .i64 0, .bool false, .int .i64 0] 23)).alloc (.cells #[.bool false, .bool false, .bool false, .bool false, .bool false, .bool false] 25))) at T0
  generalize ((w.alloc (.cells #[.int .i64 x.s, .bool x.p, .int .i64 x.n] 23)).alloc (.cells #[.int .i64 0, .bool false, .int .i64 0] 23)).alloc (.cells #[.bool false, .bool false, .bool false, .bool false, .bool false, .bool false] 25) = w1 at T0 ⊢
  obtain ⟨p, hp⟩ : ∃ p, p = w.heap.size := ⟨_, rfl⟩
  rw [← hp] at T0 ⊢
  clear hp
  have k0 : w1.cell? ⟨p, 0, none⟩ = some (.int .i64 x.s) := cell_of T0.out.hp rfl
  have k1 : w1.cell? ⟨p, 1, none⟩ = some (.bool x.p) := cell_of T0.out.hp rfl
  have k2 : w1.cell? ⟨p, 2, none⟩ = some (.int .i64 x.n) := cell_of T0.out.hp rfl
  go_wp2_with fail
  refine (HW.out _ _ _ _).mono ?_
  rw [hs]
  rintro e w' ⟨rfl, hw⟩
  obtain rfl := hw.symm
  go_wp2_with fail
  refine (HW.out _ _ _ _).mono ?_
  rw [hn]
  rintro e w' ⟨rfl, hw⟩
  obtain rfl := hw.symm
  go_wp2_with fail
  refine (HW.out _ _ _ _).mono ?_
  rw [he]
  rintro e w' ⟨rfl, hw⟩
  obtain rfl := hw.symm
  go_wp2_with fail
  refine (HC.out _ _ T0.out.hp).mono ?_
  rintro e w2 ⟨rfl, HT⟩
  have T2 := Lib.hid (T0.out.call HT)
  clear HT k0 k1 k2 T0 HW
  go_upto_region 4 with (fail)
  have HN := Lib.hid (new_at w2 (.cells d.cs 25))
  have T4 := Lib.hid (T2.out.more (up_alloc w2 (.cells d.cs 25)))
  have hps := lt_at T2.out.hr
  change Hid ((w2.alloc (.cells #[.bool d.a, .bool d.f, .bool d.b, .bool d.c, .bool d.t, .bool d.w] 25)).heap[w2.heap.size]? = _) at HN
  change Hid (T3 _ _ _ _ _ _ _ (w2.alloc (.cells #[.bool d.a, .bool d.f, .bool d.b, .bool d.c, .bool d.t, .bool d.w] 25))) at T4
  generalize w2.alloc (.cells #[.bool d.a, .bool d.f, .bool d.b, .bool d.c, .bool d.t, .bool d.w] 25) = w3 at HN T4 ⊢
  generalize w2.heap.size = s at HN hps ⊢
  clear T2
  have k0 : w3.cell? ⟨p, 0, none⟩ = some (.int .i64 y.s) := cell_of T4.out.hp rfl
  have k1 : w3.cell? ⟨p, 1, none⟩ = some (.bool y.p) := cell_of T4.out.hp rfl
  have k2 : w3.cell? ⟨p, 2, none⟩ = some (.int .i64 y.n) := cell_of T4.out.hp rfl
  have f1 : ∀ j, w3.frozen? ⟨p + 1, j, none⟩ = false := fun j => frozen_at T4.out.hq
  have f2 : ∀ j, w3.frozen? ⟨p + 1 + 1, j, none⟩ = false := fun j => frozen_at T4.out.hr
  have p0 : w3.cell? ⟨p + 1, 0, none⟩ = some (.int .i64 0) := cell_of T4.out.hq rfl
  have p1 : w3.cell? ⟨p + 1, 1, none⟩ = some (.bool false) := cell_of T4.out.hq rfl
  have p2 : w3.cell? ⟨p + 1, 2, none⟩ = some (.int .i64 0) := cell_of T4.out.hq rfl
  have q0 : w3.cell? ⟨p + 1 + 1, 0, none⟩ = some (.bool false) := cell_of T4.out.hr rfl
  have q1 : w3.cell? ⟨p + 1 + 1, 1, none⟩ = some (.bool false) := cell_of T4.out.hr rfl
  have q2 : w3.cell? ⟨p + 1 + 1, 2, none⟩ = some (.bool false) := cell_of T4.out.hr rfl
  have q3 : w3.cell? ⟨p + 1 + 1, 3, none⟩ = some (.bool false) := cell_of T4.out.hr rfl
  have q4 : w3.cell? ⟨p + 1 + 1, 4, none⟩ = some (.bool false) := cell_of T4.out.hr rfl
  have q5 : w3.cell? ⟨p + 1 + 1, 5, none⟩ = some (.bool false) := cell_of T4.out.hr rfl
  have s0 : w3.cell? ⟨s, 0, none⟩ = some (.bool d.a) := cell_of HN.out rfl
  have s1 : w3.cell? ⟨s, 1, none⟩ = some (.bool d.f) := cell_of HN.out rfl
  have s2 : w3.cell? ⟨s, 2, none⟩ = some (.bool d.b) := cell_of HN.out rfl
  have s3 : w3.cell? ⟨s, 3, none⟩ = some (.bool d.c) := cell_of HN.out rfl
  have s4 : w3.cell? ⟨s, 4, none⟩ = some (.bool d.t) := cell_of HN.out rfl
  have s5 : w3.cell? ⟨s, 5, none⟩ = some (.bool d.w) := cell_of HN.out rfl
  go_region
  go_wp2_with fail
  have HT := (((((((((T4.out.setq 0 (.int .i64 y.s)).setq 1 (.bool y.p)).setq 2 (.int .i64 y.n)).setr 0 (.bool d.a)).setr 1 (.bool d.f)).setr 2 (.bool d.b)).setr 3 (.bool d.c)).setr 4 (.bool d.t)).setr 5 (.bool d.w)).more (Up.drew _)
  exact bodyPost_ret (results_rr (fn := Try.f7) (p := 4) (p2 := 5) (u := 6) (ty := 23) (ty2 := 25) rfl _ _ (p + 1) 23 y.cs (0, 0) _ (p + 1 + 1) 25 d.cs (0, 0) _ rfl HT.hq Try.underlying23 rfl rfl rfl HT.hr Try.underlying25 rfl rfl) rfl ⟨rfl, Lib.hid HT.up⟩
end Go.Proofs.Ytdhkbpnhbbedmaa
