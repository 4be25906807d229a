import Derived.Test.YtahpejcejbgcpaaRt21
import Derived.StillTailTactics
namespace Go.Proofs.Ytahpejcejbgcpaa
open Go Go.RowKit
set_option linter.unusedVariables false
set_option linter.unusedSimpArgs false
structure StB where
  kd : Int
  n : Int
  full : Bool
def stc (x : StB) : List Value := [.int .i64 x.kd, .int .i64 x.n, .bool x.full]
theorem stc_len (x : StB) : (stc x).length = 3 := rfl
theorem flat_at {α : Type} (f : α → List Value) (s : Nat) (hs : ∀ a, (f a).length = s) : ∀ {l : List α} {k : Nat} {x : α} {j : Nat} {v : Value}, l[k]? = some x → (f x)[j]? = some v → (l.flatMap f)[k * s + j]? = some v := by
  intro l
  induction l with
  | nil => intro k x j v h; cases h
  | cons a l ih =>
    intro k x j v h hv
    have hj : j < s := by rw [← hs x]; exact (List.getElem?_eq_some_iff.1 hv).1
    cases k with
    | zero =>
      simp at h; subst h
      rw [List.flatMap_cons, Nat.zero_mul, Nat.zero_add, List.getElem?_append_left (by rw [hs]; exact hj)]
      exact hv
    | succ k =>
      simp only [List.getElem?_cons_succ] at h
      rw [List.flatMap_cons, List.getElem?_append_right (by rw [hs, Nat.succ_mul]; omega), hs, Nat.succ_mul, show k * s + s + j - s = k * s + j by omega]
      exact ih h hv
structure InT (w : World) (A : Option Addr) (n c : Nat) (l : List StB) : Prop where
  cells : Cells w A (l.flatMap stc)
  len : l.length = n
theorem InT.up {w w' : World} {A : Option Addr} {n c : Nat} {l : List StB} (h : InT w A n c l) (hu : Up w w') : InT w' A n c l := ⟨h.cells.up hu, h.len⟩
theorem InT.at_ {w : World} {A : Option Addr} {n c : Nat} {l : List StB} (h : InT w A n c l) {k : Nat} (hk : k < n) : ∃ x g o, l[k]? = some x ∧ A = some ⟨g, o, none⟩ ∧ (∀ j v, (stc x)[j]? = some v → w.cell? ⟨g, o + k * 3 + j, none⟩ = some v) := by
  have hkl : k < l.length := by rw [h.len]; exact hk
  obtain ⟨x, hx⟩ : ∃ x, l[k]? = some x := ⟨_, List.getElem?_eq_getElem hkl⟩
  have hne : l.flatMap stc ≠ [] := by
    intro e
    have := flat_at stc 3 stc_len hx (j := 0) rfl
    rw [e] at this; cases this
  obtain ⟨g, o, rfl, _, hc⟩ := h.cells hne
  refine ⟨x, g, o, hx, rfl, fun j v hv => ?_⟩
  have := hc (k * 3 + j) _ (flat_at stc 3 stc_len hx hv)
  rwa [← Nat.add_assoc] at this
set_option maxRecDepth 100000 in
set_option maxHeartbeats 4000000 in
theorem law_sound (A : Option Addr) (n c : Nat) (l : List StB) (w : World) (hA : InT w A n c l) : Calls Try.prog 6 #[.slice A n c] w (RetB true w) := by
  have HA := Lib.hid hA
  clear hA
  go_enter Try.func6, Try.ntmps6
  go_wp2_with fail
  refine (new_any _).mono ?_
  rintro e u1 ⟨rfl, HU1⟩
  go_upto_region 2 with (fail)
  have hn := new_at u1 (.cells WN.cs 23)
  have HV := Lib.hid (HU1.out.trans (up_alloc u1 (.cells WN.cs 23)))
  have HG := Lib.hid hn
  have hwg : w.heap.size ≤ u1.heap.size := HU1.out.size
  clear hn HU1
  change Hid (Up w (u1.alloc (.cells #[.int .i64 0, .int .i64 0, .int .i64 12, .int .i64 0, .int .i64 2048, .int .i64 65536, .int .i64 0] 23))) at HV
  change Hid ((u1.alloc (.cells #[.int .i64 0, .int .i64 0, .int .i64 12, .int .i64 0, .int .i64 2048, .int .i64 65536, .int .i64 0] 23)).heap[u1.heap.size]? = _) at HG
  generalize u1.alloc (.cells #[.int .i64 0, .int .i64 0, .int .i64 12, .int .i64 0, .int .i64 2048, .int .i64 65536, .int .i64 0] 23) = v0 at HV HG ⊢
  generalize u1.heap.size = g at HG hwg ⊢
  go_wp2_with fail
  go_loopw [4] (fun iv wr => ∃ (i : Nat) (y : Wy), iv = .int .i64 (i : Int) ∧ i ≤ n ∧ i ≤ 300 ∧ Hid y.Ok ∧ Hid (wr.heap[g]? = some (.cells y.cs 23 (0, 0))) ∧ Hid (Up w wr)) (fun iv _ => 300 - (intOf iv).toNat)
  case atStart => exact ⟨0, WN, rfl, by omega, by omega, Lib.hid WN_ok, HG, HV⟩
  case round =>
    clear HG HV
    obtain ⟨i, y, rfl, hin, hi3, HY, HG, HV⟩ := hrel
    by_cases hlt : i < n ∧ i < 300
    · obtain ⟨h1, h2⟩ := hlt
      have d1 : decide ((i : Int) < (n : Int)) = true := by simp; omega
      have d2 : decide ((i : Int) < 300) = true := by simp; omega
      have hiI : (i : Int) < (n : Int) := by omega
      obtain ⟨x, b, o, hx, rfl, hc⟩ := (HA.out.up HV.out).at_ h1
      have s0 : wr.cell? ⟨b, o + i * 3, none⟩ = some (.int .i64 x.kd) := hc 0 _ rfl
      have s1 : wr.cell? ⟨b, o + i * 3 + 1, none⟩ = some (.int .i64 x.n) := hc 1 _ rfl
      have s2 : wr.cell? ⟨b, o + i * 3 + 2, none⟩ = some (.bool x.full) := hc 2 _ rfl
      have hg := HG.out
      have k0 : wr.cell? ⟨g, 0, none⟩ = some (.int .i64 y.s) := cell_of hg rfl
      have k1 : wr.cell? ⟨g, 1, none⟩ = some (.int .i64 y.v) := cell_of hg rfl
      have k2 : wr.cell? ⟨g, 2, none⟩ = some (.int .i64 y.r) := cell_of hg rfl
      have k3 : wr.cell? ⟨g, 3, none⟩ = some (.int .i64 y.e) := cell_of hg rfl
      have k4 : wr.cell? ⟨g, 4, none⟩ = some (.int .i64 y.c) := cell_of hg rfl
      have k5 : wr.cell? ⟨g, 5, none⟩ = some (.int .i64 y.t) := cell_of hg rfl
      have k6 : wr.cell? ⟨g, 6, none⟩ = some (.int .i64 y.a) := cell_of hg rfl
      clear hg hx hc
      go_upto_region 5 with (fail)
      go_still_tail 5, (by kernel_rfl)
      change wpList _ _ _ _ _ (wr.drew)
      have HV1 := Lib.hid (HV.out.trans (Up.drew wr))
      have HG1 : Hid (wr.drew.heap[g]? = some (.cells y.cs 23 (0, 0))) := HG
      clear HV HG k0 k1 k2 k3 k4 k5 k6 s0 s1 s2
      generalize wr.drew = wd at HV1 HG1 ⊢
      go_wp2_with fail
      refine (walk_any y HY.out x.kd x.n x.full wd).mono ?_
      rintro e u2 ⟨y2, rfl, HY2, HU2⟩
      have hg := (HU2.out.block _ (lt_of_blk HG1.out)).trans HG1.out
      have HV2 := Lib.hid (HV1.out.trans HU2.out)
      have HG2 := Lib.hid hg
      have k0 : u2.cell? ⟨g, 0, none⟩ = some (.int .i64 y.s) := cell_of hg rfl
      have k1 : u2.cell? ⟨g, 1, none⟩ = some (.int .i64 y.v) := cell_of hg rfl
      have k2 : u2.cell? ⟨g, 2, none⟩ = some (.int .i64 y.r) := cell_of hg rfl
      have k3 : u2.cell? ⟨g, 3, none⟩ = some (.int .i64 y.e) := cell_of hg rfl
      have k4 : u2.cell? ⟨g, 4, none⟩ = some (.int .i64 y.c) := cell_of hg rfl
      have k5 : u2.cell? ⟨g, 5, none⟩ = some (.int .i64 y.t) := cell_of hg rfl
      have k6 : u2.cell? ⟨g, 6, none⟩ = some (.int .i64 y.a) := cell_of hg rfl
      have fz : ∀ j, u2.frozen? ⟨g, j, none⟩ = false := fun j => frozen_at hg
      clear hg HV1 HG1 HU2 HY
      go_upto_region 6 with (fail)
      have HT : Hid (Tr g y2.cs u2 (((((((u2.setCell ⟨g, 0, none⟩ (.int .i64 y2.s)).setCell ⟨g, 1, none⟩ (.int .i64 y2.v)).setCell ⟨g, 2, none⟩ (.int .i64 y2.r)).setCell ⟨g, 3, none⟩ (.int .i64 y2.e)).setCell ⟨g, 4, none⟩ (.int .i64 y2.c)).setCell ⟨g, 5, none⟩ (.int .i64 y2.t)).setCell ⟨g, 6, none⟩ (.int .i64 y2.a))) := Lib.hid ((((((((Tr.refl HG2.out).set 0 (.int .i64 y2.s)).set 1 (.int .i64 y2.v)).set 2 (.int .i64 y2.r)).set 3 (.int .i64 y2.e)).set 4 (.int .i64 y2.c)).set 5 (.int .i64 y2.t)).set 6 (.int .i64 y2.a))
      clear fz k0 k1 k2 k3 k4 k5 k6 HG2
      generalize (((((((u2.setCell ⟨g, 0, none⟩ (.int .i64 y2.s)).setCell ⟨g, 1, none⟩ (.int .i64 y2.v)).setCell ⟨g, 2, none⟩ (.int .i64 y2.r)).setCell ⟨g, 3, none⟩ (.int .i64 y2.e)).setCell ⟨g, 4, none⟩ (.int .i64 y2.c)).setCell ⟨g, 5, none⟩ (.int .i64 y2.t)).setCell ⟨g, 6, none⟩ (.int .i64 y2.a)) = v1 at HT ⊢
      have HV3 : Hid (Up w v1) := Lib.hid (Below.out HV2.out HT.out.2 (fun k hk => by rw [hk]; exact hwg) HV2.out.size)
      have HG3 := Lib.hid HT.out.1
      clear HT HV2
      have HSC : ∀ wx, Calls Try.prog 12 #[.agg y2.cs] wx fun e w' => e = .returned (.bool true) ∧ Hid (Up wx w') := fun wx => (soundc y2 wx).mono fun e w' ⟨h1, h2⟩ => ⟨by rw [h1, okB_t HY2.out], h2⟩
      have hg := HG3.out
      have k0 : v1.cell? ⟨g, 0, none⟩ = some (.int .i64 y2.s) := cell_of hg rfl
      have k1 : v1.cell? ⟨g, 1, none⟩ = some (.int .i64 y2.v) := cell_of hg rfl
      have k2 : v1.cell? ⟨g, 2, none⟩ = some (.int .i64 y2.r) := cell_of hg rfl
      have k3 : v1.cell? ⟨g, 3, none⟩ = some (.int .i64 y2.e) := cell_of hg rfl
      have k4 : v1.cell? ⟨g, 4, none⟩ = some (.int .i64 y2.c) := cell_of hg rfl
      have k5 : v1.cell? ⟨g, 5, none⟩ = some (.int .i64 y2.t) := cell_of hg rfl
      have k6 : v1.cell? ⟨g, 6, none⟩ = some (.int .i64 y2.a) := cell_of hg rfl
      clear hg
      go_wp2_with fail
      refine (HSC _).mono ?_
      rintro e u3 ⟨rfl, HU3⟩
      have hg := (HU3.out.block _ (lt_of_blk HG3.out)).trans HG3.out
      have HG4 := Lib.hid hg
      have HV4 := Lib.hid (HV3.out.trans HU3.out)
      have k2 : u3.cell? ⟨g, 2, none⟩ = some (.int .i64 y2.r) := cell_of hg rfl
      have k4 : u3.cell? ⟨g, 4, none⟩ = some (.int .i64 y2.c) := cell_of hg rfl
      have hy := HY2.out
      unfold Wy.Ok at hy
      have t1 : decide (y2.r < 4) = false := by simp; omega
      have t2 : decide (y2.r > 64) = false := by simp; omega
      have t3 : decide (y2.c < 512) = false := by simp; omega
      have t4 : decide (y2.c > 65536) = false := by simp; omega
      clear hg hy k0 k1 k3 k5 k6 HG3 HV3 HU3 HSC
      go_wp2_with fail
      go_roundw
      case rel => exact ⟨i + 1, y2, by go_num, by omega, by omega, HY2, HG4, HV4⟩
      case measure => simp [intOf]; omega
    · have HSC : ∀ wx, Calls Try.prog 12 #[.agg y.cs] wx fun e w' => e = .returned (.bool true) ∧ Hid (Up wx w') := fun wx => (soundc y wx).mono fun e w' ⟨h1, h2⟩ => ⟨by rw [h1, okB_t HY.out], h2⟩
      go_upto_region 3 with (fail)
      go_cut [13] (fun v wx => v = .bool false ∧ wx = wr)
      case first =>
        by_cases h1 : i < n
        · have d1 : decide ((i : Int) < (n : Int)) = true := by simp; omega
          have d2 : decide ((i : Int) < 300) = false := by simp; omega
          go_wp2_with fail
          go_meet
          exact ⟨rfl, rfl⟩
        · have d1 : decide ((i : Int) < (n : Int)) = false := by simp; omega
          go_wp2_with fail
          go_meet
          exact ⟨rfl, rfl⟩
      case rest =>
      obtain ⟨rfl, hwr⟩ := hcut
      subst hwr
      clear hlt
      go_wp2_with fail
      refine (answers_ok _).mono ?_
      rintro e u3 ⟨rfl, HU3⟩
      have hg := (HU3.out.block _ (lt_of_blk HG.out)).trans HG.out
      have k0 : u3.cell? ⟨g, 0, none⟩ = some (.int .i64 y.s) := cell_of hg rfl
      have k1 : u3.cell? ⟨g, 1, none⟩ = some (.int .i64 y.v) := cell_of hg rfl
      have k2 : u3.cell? ⟨g, 2, none⟩ = some (.int .i64 y.r) := cell_of hg rfl
      have k3 : u3.cell? ⟨g, 3, none⟩ = some (.int .i64 y.e) := cell_of hg rfl
      have k4 : u3.cell? ⟨g, 4, none⟩ = some (.int .i64 y.c) := cell_of hg rfl
      have k5 : u3.cell? ⟨g, 5, none⟩ = some (.int .i64 y.t) := cell_of hg rfl
      have k6 : u3.cell? ⟨g, 6, none⟩ = some (.int .i64 y.a) := cell_of hg rfl
      clear hg
      go_wp2_with fail
      refine (HSC _).mono ?_
      rintro e u4 ⟨rfl, HU4⟩
      go_wp2_with fail
      go_ret
      exact ⟨rfl, Lib.hid (HV.out.trans (HU3.out.trans HU4.out))⟩
end Go.Proofs.Ytahpejcejbgcpaa
