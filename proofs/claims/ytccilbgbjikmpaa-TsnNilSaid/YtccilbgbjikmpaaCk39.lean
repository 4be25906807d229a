import Derived.Test.YtccilbgbjikmpaaCk36
import Derived.Test.YtccilbgbjikmpaaCk21
namespace Go.Proofs.Ytccilbgbjikmpaa
open Go Go.RowKit
set_option linter.unusedVariables false
set_option linter.unusedSimpArgs false
/-! The reference's SameHeard. -/
instance : DecidableEq Ck.Hrd := fun a b => if h : (a.cum = b.cum ∧ a.win = b.win) ∧ a.gaps = b.gaps ∧ a.dups = b.dups then .isTrue (by
    obtain ⟨a1, a2, a3, a4⟩ := a
    obtain ⟨b1, b2, b3, b4⟩ := b
    simp at h ⊢
    simp [h]) else .isFalse (fun e => h (by subst e; simp))
theorem takeN {α : Type} {l : List α} {k : Nat} {x : α} (h : l[k]? = some x) : l.take (k + 1) = l.take k ++ [x] := by
  obtain ⟨hl, he⟩ := List.getElem?_eq_some_iff.1 h
  rw [List.take_succ_eq_append_getElem hl, he]
theorem take_ne {α : Type} {l m : List α} {k : Nat} {x y : α} (hx : l[k]? = some x) (hy : m[k]? = some y) (hn : x ≠ y) : l ≠ m := fun e => by
  subst e; rw [hx] at hy; injection hy with hy; exact hn hy
theorem eqT {α : Type} {la lb : List α} {k n m : Nat} (hn : la.length = n) (hm : lb.length = m) (he : la.take k = lb.take k) (hk : k = n ∨ k = m) (hkn : k ≤ n) (hkm : k ≤ m) : la = lb ↔ n = m := by
  constructor
  · intro h; rw [← hn, ← hm, h]
  · intro h
    have h1 : k = n := by omega
    rwa [List.take_of_length_le (by omega), List.take_of_length_le (by omega)] at he
set_option maxRecDepth 100000 in
set_option maxHeartbeats 4000000 in
theorem sameD (f g : Ck.Hrd) (A1 B1 A2 B2 : Option Addr) (n1 c1 m1 d1 n2 c2 m2 d2 : Nat) (w : World) (hg1 : InG w A1 n1 c1 f.gaps) (hd1 : InD w B1 m1 d1 f.dups) (hg2 : InG w A2 n2 c2 g.gaps) (hd2 : InD w B2 m2 d2 g.dups) (hn1 : n1 ≤ 140737488351232) (hm1 : m1 ≤ 140737488351232) (hn2 : n2 ≤ 140737488351232) (hm2 : m2 ≤ 140737488351232) :
    Calls Try.prog 14 #[heV f (.slice A1 n1 c1) (.slice B1 m1 d1), heV g (.slice A2 n2 c2) (.slice B2 m2 d2)] w (RetB (decide (f = g)) w) := by
  obtain ⟨W, hW⟩ : ∃ W, W = (w.alloc (.cells #[.int .u32 f.cum, .int .u32 f.win, .slice A1 n1 c1, .slice B1 m1 d1] 35)).alloc (.cells #[.int .u32 g.cum, .int .u32 g.win, .slice A2 n2 c2, .slice B2 m2 d2] 35) := ⟨_, rfl⟩
  have u1 := up_alloc w (.cells #[.int .u32 f.cum, .int .u32 f.win, .slice A1 n1 c1, .slice B1 m1 d1] 35)
  have u2 := up_alloc (w.alloc (.cells #[.int .u32 f.cum, .int .u32 f.win, .slice A1 n1 c1, .slice B1 m1 d1] 35)) (.cells #[.int .u32 g.cum, .int .u32 g.win, .slice A2 n2 c2, .slice B2 m2 d2] 35)
  have x1 := new_at w (.cells #[.int .u32 f.cum, .int .u32 f.win, .slice A1 n1 c1, .slice B1 m1 d1] 35)
  have x2 := new_at (w.alloc (.cells #[.int .u32 f.cum, .int .u32 f.win, .slice A1 n1 c1, .slice B1 m1 d1] 35)) (.cells #[.int .u32 g.cum, .int .u32 g.win, .slice A2 n2 c2, .slice B2 m2 d2] 35)
  have y1 := (u2.block _ (lt_of_blk x1)).trans x1
  have s1 : (w.alloc (.cells #[.int .u32 f.cum, .int .u32 f.win, .slice A1 n1 c1, .slice B1 m1 d1] 35)).heap.size = w.heap.size + 1 := by simp
  rw [s1] at x2
  have HU := Lib.hid (u1.trans u2)
  rw [← hW] at x2 y1 HU
  have HW := Lib.hid hW
  have HA := Lib.hid y1
  have HB := Lib.hid x2
  have G1 := Lib.hid (hg1.up HU.out)
  have G2 := Lib.hid (hg2.up HU.out)
  have D1 := Lib.hid (hd1.up HU.out)
  have D2 := Lib.hid (hd2.up HU.out)
  have p1 := hg1.cap
  have p2 := hg2.cap
  have p3 := hd1.cap
  have p4 := hd2.cap
  clear hW u1 u2 x1 x2 y1 s1 hg1 hg2 hd1 hd2
  unfold heV
  go_enter Try.func14, Try.ntmps14
  go_upto_region 1 with (fail)
  rw [← HW.out]
  go_wp2_with fail
  go_loopw [5] (fun i wr => ∃ k : Nat, k ≤ n1 ∧ k ≤ n2 ∧ i = .int .i64 (k : Int) ∧ Hid (f.gaps.take k = g.gaps.take k) ∧ Hid (Up W wr)) (fun i _ => n1 - (intOf i).toNat)
  case atStart => exact ⟨0, Nat.zero_le _, Nat.zero_le _, rfl, Lib.hid rfl, Lib.hid (Up.refl _)⟩
  case round =>
    obtain ⟨k, hk, hk2, rfl, he, hu⟩ := hrel
    have a2 := cell_up (cell_of HA.out (j := 2) rfl) hu.out
    have a3 := cell_up (cell_of HA.out (j := 3) rfl) hu.out
    have b2 := cell_up (cell_of HB.out (j := 2) rfl) hu.out
    have b3 := cell_up (cell_of HB.out (j := 3) rfl) hu.out
    by_cases hb1 : k < n1 ∧ k < n2
    · obtain ⟨hkn, hkm⟩ := hb1
      have d1' : decide ((k : Int) < (n1 : Int)) = true := by simp; omega
      have d2' : decide ((k : Int) < (n2 : Int)) = true := by simp; omega
      obtain ⟨x, hx⟩ : ∃ x, f.gaps[k]? = some x := ⟨_, List.getElem?_eq_getElem (by rw [G1.out.len]; exact hkn)⟩
      obtain ⟨y, hy⟩ : ∃ y, g.gaps[k]? = some y := ⟨_, List.getElem?_eq_getElem (by rw [G2.out.len]; exact hkm)⟩
      obtain ⟨ga, oa, rfl, -, hca⟩ := G1.out.cells (by intro e; have := congrArg List.length e; rw [gapc_length, G1.out.len] at this; simp at this; omega)
      obtain ⟨gb, ob, rfl, -, hcb⟩ := G2.out.cells (by intro e; have := congrArg List.length e; rw [gapc_length, G2.out.len] at this; simp at this; omega)
      have k0 := cell_up (hca (k * 2) _ (gapc_at hx).1) hu.out
      have k1 := cell_up (hca (k * 2 + 1) _ (gapc_at hx).2) hu.out
      have l0 := cell_up (hcb (k * 2) _ (gapc_at hy).1) hu.out
      have l1 := cell_up (hcb (k * 2 + 1) _ (gapc_at hy).2) hu.out
      rw [← Nat.add_assoc] at k1 l1
      have hk3 : (k : Int) < (n1 : Int) := by omega
      have hk4 : (k : Int) < (n2 : Int) := by omega
      by_cases hxy : x = y
      · subst hxy
        have HE2 := Lib.hid (show f.gaps.take (k + 1) = g.gaps.take (k + 1) by rw [takeN hx, takeN hy, he.out])
        obtain ⟨xf, xt⟩ := x
        clear hx hy hca hcb
        go_upto_region 4 with (fail)
        go_quiet (fail)
        go_wp2_with fail
        go_roundw
        case rel => exact ⟨k + 1, by omega, by omega, by go_num, HE2, Lib.hid (hu.out.trans (up_drewN _ _))⟩
        case measure => simp [intOf]; omega
      · have HE2 := Lib.hid (show decide (f = g) = false from decide_eq_false fun e => take_ne hx hy hxy (by rw [e]))
        obtain ⟨xf, xt⟩ := x
        obtain ⟨yf, yt⟩ := y
        have hne : ¬ xf = yf ∨ (xf = yf ∧ ¬ xt = yt) := by
          by_cases e : xf = yf
          · exact .inr ⟨e, fun e2 => hxy (by rw [e, e2])⟩
          · exact .inl e
        clear hx hy hca hcb hxy
        rcases hne with hne | ⟨rfl, hne⟩
        · simp only at k0 k1 l0 l1
          go_upto_region 4 with (fail)
          go_quiet (fail)
          go_wp2_with fail
          go_ret
          exact ⟨by rw [HE2.out]; rfl, Lib.hid ((HU.out.trans hu.out).trans (up_drewN _ _))⟩
        · simp only at k0 k1 l0 l1
          go_upto_region 4 with (fail)
          go_quiet (fail)
          go_wp2_with fail
          go_ret
          exact ⟨by rw [HE2.out]; rfl, Lib.hid ((HU.out.trans hu.out).trans (up_drewN _ _))⟩
    · have hend : k = n1 ∨ k = n2 := by omega
      have HGE := Lib.hid (eqT G1.out.len G2.out.len he.out hend hk hk2)
      by_cases h : k < n1
      · have d1' : decide ((k : Int) < (n1 : Int)) = true := by simp; omega
        have d2' : decide ((k : Int) < (n2 : Int)) = false := by simp; omega
        go_wp2_with fail
        clear a2 a3 b2 b3
        go_loopw [6] (fun i wr => ∃ j : Nat, j ≤ m1 ∧ j ≤ m2 ∧ i = .int .i64 (j : Int) ∧ Hid (f.dups.take j = g.dups.take j) ∧ Hid (Up W wr)) (fun i _ => m1 - (intOf i).toNat)
        case atStart => exact ⟨0, Nat.zero_le _, Nat.zero_le _, rfl, Lib.hid rfl, hu⟩
        case round =>
          clear he hu
          obtain ⟨j, hj, hj2, rfl, he, hu⟩ := hrel
          have a2 := cell_up (cell_of HA.out (j := 2) rfl) hu.out
          have a3 := cell_up (cell_of HA.out (j := 3) rfl) hu.out
          have b2 := cell_up (cell_of HB.out (j := 2) rfl) hu.out
          have b3 := cell_up (cell_of HB.out (j := 3) rfl) hu.out
          by_cases hb2 : j < m1 ∧ j < m2
          · obtain ⟨hjn, hjm⟩ := hb2
            have d3' : decide ((j : Int) < (m1 : Int)) = true := by simp; omega
            have d4' : decide ((j : Int) < (m2 : Int)) = true := by simp; omega
            obtain ⟨x, hx⟩ : ∃ x, f.dups[j]? = some x := ⟨_, List.getElem?_eq_getElem (by rw [D1.out.len]; exact hjn)⟩
            obtain ⟨y, hy⟩ : ∃ y, g.dups[j]? = some y := ⟨_, List.getElem?_eq_getElem (by rw [D2.out.len]; exact hjm)⟩
            obtain ⟨ga, oa, rfl, -, hca⟩ := D1.out.cells (by intro e; have := congrArg List.length e; rw [ints_length, D1.out.len] at this; simp at this; omega)
            obtain ⟨gb, ob, rfl, -, hcb⟩ := D2.out.cells (by intro e; have := congrArg List.length e; rw [ints_length, D2.out.len] at this; simp at this; omega)
            have k0 := cell_up (hca j (.int .u32 x) (by simp [ints, hx])) hu.out
            have l0 := cell_up (hcb j (.int .u32 y) (by simp [ints, hy])) hu.out
            have hk3 : (j : Int) < (m1 : Int) := by omega
            have hk4 : (j : Int) < (m2 : Int) := by omega
            by_cases hxy : x = y
            · subst hxy
              have HE2 := Lib.hid (show f.dups.take (j + 1) = g.dups.take (j + 1) by rw [takeN hx, takeN hy, he.out])
              clear hx hy hca hcb
              go_upto_region 9 with (fail)
              go_quiet (fail)
              go_wp2_with fail
              go_roundw
              case rel => exact ⟨j + 1, by omega, by omega, by go_num, HE2, Lib.hid (hu.out.trans (up_drewN _ _))⟩
              case measure => simp [intOf]; omega
            · have HE2 := Lib.hid (show decide (f = g) = false from decide_eq_false fun e => take_ne hx hy hxy (by rw [e]))
              have hbx : (x != y) = true := by simp [hxy]
              clear hx hy hca hcb hxy
              go_upto_region 9 with (fail)
              go_quiet (fail)
              go_wp2_with fail
              go_ret
              exact ⟨by rw [HE2.out]; rfl, Lib.hid ((HU.out.trans hu.out).trans (up_drewN _ _))⟩
          · have hend2 : j = m1 ∨ j = m2 := by omega
            have HDE := Lib.hid (eqT D1.out.len D2.out.len he.out hend2 hj hj2)
            by_cases h : j < m1
            · have d3' : decide ((j : Int) < (m1 : Int)) = true := by simp; omega
              have d4' : decide ((j : Int) < (m2 : Int)) = false := by simp; omega
              have a0 := cell_up (cell_of HA.out (j := 0) rfl) hu.out
              have a1 := cell_up (cell_of HA.out (j := 1) rfl) hu.out
              have b0 := cell_up (cell_of HB.out (j := 0) rfl) hu.out
              have b1 := cell_up (cell_of HB.out (j := 1) rfl) hu.out
              by_cases e1 : f.cum = g.cum
              rotate_left
              · have HE2 := Lib.hid (show decide (f = g) = false from decide_eq_false fun e => e1 (by rw [e]))
                have q0 : (f.cum == g.cum) = false := by rw [beq_eq_false_iff_ne]; first | omega | exact e1
                go_wp2_with fail
                go_ret
                exact ⟨by rw [HE2.out]; rfl, Lib.hid (HU.out.trans hu.out)⟩
              have E0 := Lib.hid e1
              skip
              have q0 : (f.cum == g.cum) = true := by rw [beq_iff_eq]; first | omega | exact e1
              clear e1
              by_cases e2 : f.win = g.win
              rotate_left
              · have HE2 := Lib.hid (show decide (f = g) = false from decide_eq_false fun e => e2 (by rw [e]))
                have q1 : (f.win == g.win) = false := by rw [beq_eq_false_iff_ne]; first | omega | exact e2
                go_wp2_with fail
                go_ret
                exact ⟨by rw [HE2.out]; rfl, Lib.hid (HU.out.trans hu.out)⟩
              have E1 := Lib.hid e2
              skip
              have q1 : (f.win == g.win) = true := by rw [beq_iff_eq]; first | omega | exact e2
              clear e2
              by_cases e3 : n1 = n2
              rotate_left
              · have HE2 := Lib.hid (show decide (f = g) = false from decide_eq_false fun e => e3 (HGE.out.1 (by rw [e])))
                have q2 : ((n1 : Int) == (n2 : Int)) = false := by rw [beq_eq_false_iff_ne]; first | omega | exact e3
                go_wp2_with fail
                go_ret
                exact ⟨by rw [HE2.out]; rfl, Lib.hid (HU.out.trans hu.out)⟩
              have E2 := Lib.hid e3
              skip
              have q2 : ((n1 : Int) == (n2 : Int)) = true := by rw [beq_iff_eq]; first | omega | exact e3
              clear e3
              by_cases e4 : m1 = m2
              rotate_left
              · have HE2 := Lib.hid (show decide (f = g) = false from decide_eq_false fun e => e4 (HDE.out.1 (by rw [e])))
                have q3 : ((m1 : Int) == (m2 : Int)) = false := by rw [beq_eq_false_iff_ne]; first | omega | exact e4
                go_wp2_with fail
                go_ret
                exact ⟨by rw [HE2.out]; rfl, Lib.hid (HU.out.trans hu.out)⟩
              have E3 := Lib.hid e4
              skip
              have q3 : ((m1 : Int) == (m2 : Int)) = true := by rw [beq_iff_eq]; first | omega | exact e4
              clear e4
              have HE2 := Lib.hid (show decide (f = g) = true from decide_eq_true (by
                have z3 := HGE.out.2 E2.out
                have z4 := HDE.out.2 E3.out
                have z1 := E0.out
                have z2 := E1.out
                obtain ⟨a1, a2, a3, a4⟩ := f
                obtain ⟨b1, b2, b3, b4⟩ := g
                simp only at z1 z2 z3 z4
                rw [z1, z2, z3, z4]))
              go_wp2_with fail
              go_ret
              exact ⟨by rw [HE2.out]; rfl, Lib.hid (HU.out.trans hu.out)⟩
            · have d3' : decide ((j : Int) < (m1 : Int)) = false := by simp; omega
              have a0 := cell_up (cell_of HA.out (j := 0) rfl) hu.out
              have a1 := cell_up (cell_of HA.out (j := 1) rfl) hu.out
              have b0 := cell_up (cell_of HB.out (j := 0) rfl) hu.out
              have b1 := cell_up (cell_of HB.out (j := 1) rfl) hu.out
              by_cases e1 : f.cum = g.cum
              rotate_left
              · have HE2 := Lib.hid (show decide (f = g) = false from decide_eq_false fun e => e1 (by rw [e]))
                have q0 : (f.cum == g.cum) = false := by rw [beq_eq_false_iff_ne]; first | omega | exact e1
                go_wp2_with fail
                go_ret
                exact ⟨by rw [HE2.out]; rfl, Lib.hid (HU.out.trans hu.out)⟩
              have E0 := Lib.hid e1
              skip
              have q0 : (f.cum == g.cum) = true := by rw [beq_iff_eq]; first | omega | exact e1
              clear e1
              by_cases e2 : f.win = g.win
              rotate_left
              · have HE2 := Lib.hid (show decide (f = g) = false from decide_eq_false fun e => e2 (by rw [e]))
                have q1 : (f.win == g.win) = false := by rw [beq_eq_false_iff_ne]; first | omega | exact e2
                go_wp2_with fail
                go_ret
                exact ⟨by rw [HE2.out]; rfl, Lib.hid (HU.out.trans hu.out)⟩
              have E1 := Lib.hid e2
              skip
              have q1 : (f.win == g.win) = true := by rw [beq_iff_eq]; first | omega | exact e2
              clear e2
              by_cases e3 : n1 = n2
              rotate_left
              · have HE2 := Lib.hid (show decide (f = g) = false from decide_eq_false fun e => e3 (HGE.out.1 (by rw [e])))
                have q2 : ((n1 : Int) == (n2 : Int)) = false := by rw [beq_eq_false_iff_ne]; first | omega | exact e3
                go_wp2_with fail
                go_ret
                exact ⟨by rw [HE2.out]; rfl, Lib.hid (HU.out.trans hu.out)⟩
              have E2 := Lib.hid e3
              skip
              have q2 : ((n1 : Int) == (n2 : Int)) = true := by rw [beq_iff_eq]; first | omega | exact e3
              clear e3
              by_cases e4 : m1 = m2
              rotate_left
              · have HE2 := Lib.hid (show decide (f = g) = false from decide_eq_false fun e => e4 (HDE.out.1 (by rw [e])))
                have q3 : ((m1 : Int) == (m2 : Int)) = false := by rw [beq_eq_false_iff_ne]; first | omega | exact e4
                go_wp2_with fail
                go_ret
                exact ⟨by rw [HE2.out]; rfl, Lib.hid (HU.out.trans hu.out)⟩
              have E3 := Lib.hid e4
              skip
              have q3 : ((m1 : Int) == (m2 : Int)) = true := by rw [beq_iff_eq]; first | omega | exact e4
              clear e4
              have HE2 := Lib.hid (show decide (f = g) = true from decide_eq_true (by
                have z3 := HGE.out.2 E2.out
                have z4 := HDE.out.2 E3.out
                have z1 := E0.out
                have z2 := E1.out
                obtain ⟨a1, a2, a3, a4⟩ := f
                obtain ⟨b1, b2, b3, b4⟩ := g
                simp only at z1 z2 z3 z4
                rw [z1, z2, z3, z4]))
              go_wp2_with fail
              go_ret
              exact ⟨by rw [HE2.out]; rfl, Lib.hid (HU.out.trans hu.out)⟩
      · have d1' : decide ((k : Int) < (n1 : Int)) = false := by simp; omega
        go_wp2_with fail
        clear a2 a3 b2 b3
        go_loopw [6] (fun i wr => ∃ j : Nat, j ≤ m1 ∧ j ≤ m2 ∧ i = .int .i64 (j : Int) ∧ Hid (f.dups.take j = g.dups.take j) ∧ Hid (Up W wr)) (fun i _ => m1 - (intOf i).toNat)
        case atStart => exact ⟨0, Nat.zero_le _, Nat.zero_le _, rfl, Lib.hid rfl, hu⟩
        case round =>
          clear he hu
          obtain ⟨j, hj, hj2, rfl, he, hu⟩ := hrel
          have a2 := cell_up (cell_of HA.out (j := 2) rfl) hu.out
          have a3 := cell_up (cell_of HA.out (j := 3) rfl) hu.out
          have b2 := cell_up (cell_of HB.out (j := 2) rfl) hu.out
          have b3 := cell_up (cell_of HB.out (j := 3) rfl) hu.out
          by_cases hb2 : j < m1 ∧ j < m2
          · obtain ⟨hjn, hjm⟩ := hb2
            have d3' : decide ((j : Int) < (m1 : Int)) = true := by simp; omega
            have d4' : decide ((j : Int) < (m2 : Int)) = true := by simp; omega
            obtain ⟨x, hx⟩ : ∃ x, f.dups[j]? = some x := ⟨_, List.getElem?_eq_getElem (by rw [D1.out.len]; exact hjn)⟩
            obtain ⟨y, hy⟩ : ∃ y, g.dups[j]? = some y := ⟨_, List.getElem?_eq_getElem (by rw [D2.out.len]; exact hjm)⟩
            obtain ⟨ga, oa, rfl, -, hca⟩ := D1.out.cells (by intro e; have := congrArg List.length e; rw [ints_length, D1.out.len] at this; simp at this; omega)
            obtain ⟨gb, ob, rfl, -, hcb⟩ := D2.out.cells (by intro e; have := congrArg List.length e; rw [ints_length, D2.out.len] at this; simp at this; omega)
            have k0 := cell_up (hca j (.int .u32 x) (by simp [ints, hx])) hu.out
            have l0 := cell_up (hcb j (.int .u32 y) (by simp [ints, hy])) hu.out
            have hk3 : (j : Int) < (m1 : Int) := by omega
            have hk4 : (j : Int) < (m2 : Int) := by omega
            by_cases hxy : x = y
            · subst hxy
              have HE2 := Lib.hid (show f.dups.take (j + 1) = g.dups.take (j + 1) by rw [takeN hx, takeN hy, he.out])
              clear hx hy hca hcb
              go_upto_region 9 with (fail)
              go_quiet (fail)
              go_wp2_with fail
              go_roundw
              case rel => exact ⟨j + 1, by omega, by omega, by go_num, HE2, Lib.hid (hu.out.trans (up_drewN _ _))⟩
              case measure => simp [intOf]; omega
            · have HE2 := Lib.hid (show decide (f = g) = false from decide_eq_false fun e => take_ne hx hy hxy (by rw [e]))
              have hbx : (x != y) = true := by simp [hxy]
              clear hx hy hca hcb hxy
              go_upto_region 9 with (fail)
              go_quiet (fail)
              go_wp2_with fail
              go_ret
              exact ⟨by rw [HE2.out]; rfl, Lib.hid ((HU.out.trans hu.out).trans (up_drewN _ _))⟩
          · have hend2 : j = m1 ∨ j = m2 := by omega
            have HDE := Lib.hid (eqT D1.out.len D2.out.len he.out hend2 hj hj2)
            by_cases h : j < m1
            · have d3' : decide ((j : Int) < (m1 : Int)) = true := by simp; omega
              have d4' : decide ((j : Int) < (m2 : Int)) = false := by simp; omega
              have a0 := cell_up (cell_of HA.out (j := 0) rfl) hu.out
              have a1 := cell_up (cell_of HA.out (j := 1) rfl) hu.out
              have b0 := cell_up (cell_of HB.out (j := 0) rfl) hu.out
              have b1 := cell_up (cell_of HB.out (j := 1) rfl) hu.out
              by_cases e1 : f.cum = g.cum
              rotate_left
              · have HE2 := Lib.hid (show decide (f = g) = false from decide_eq_false fun e => e1 (by rw [e]))
                have q0 : (f.cum == g.cum) = false := by rw [beq_eq_false_iff_ne]; first | omega | exact e1
                go_wp2_with fail
                go_ret
                exact ⟨by rw [HE2.out]; rfl, Lib.hid (HU.out.trans hu.out)⟩
              have E0 := Lib.hid e1
              skip
              have q0 : (f.cum == g.cum) = true := by rw [beq_iff_eq]; first | omega | exact e1
              clear e1
              by_cases e2 : f.win = g.win
              rotate_left
              · have HE2 := Lib.hid (show decide (f = g) = false from decide_eq_false fun e => e2 (by rw [e]))
                have q1 : (f.win == g.win) = false := by rw [beq_eq_false_iff_ne]; first | omega | exact e2
                go_wp2_with fail
                go_ret
                exact ⟨by rw [HE2.out]; rfl, Lib.hid (HU.out.trans hu.out)⟩
              have E1 := Lib.hid e2
              skip
              have q1 : (f.win == g.win) = true := by rw [beq_iff_eq]; first | omega | exact e2
              clear e2
              by_cases e3 : n1 = n2
              rotate_left
              · have HE2 := Lib.hid (show decide (f = g) = false from decide_eq_false fun e => e3 (HGE.out.1 (by rw [e])))
                have q2 : ((n1 : Int) == (n2 : Int)) = false := by rw [beq_eq_false_iff_ne]; first | omega | exact e3
                go_wp2_with fail
                go_ret
                exact ⟨by rw [HE2.out]; rfl, Lib.hid (HU.out.trans hu.out)⟩
              have E2 := Lib.hid e3
              skip
              have q2 : ((n1 : Int) == (n2 : Int)) = true := by rw [beq_iff_eq]; first | omega | exact e3
              clear e3
              by_cases e4 : m1 = m2
              rotate_left
              · have HE2 := Lib.hid (show decide (f = g) = false from decide_eq_false fun e => e4 (HDE.out.1 (by rw [e])))
                have q3 : ((m1 : Int) == (m2 : Int)) = false := by rw [beq_eq_false_iff_ne]; first | omega | exact e4
                go_wp2_with fail
                go_ret
                exact ⟨by rw [HE2.out]; rfl, Lib.hid (HU.out.trans hu.out)⟩
              have E3 := Lib.hid e4
              skip
              have q3 : ((m1 : Int) == (m2 : Int)) = true := by rw [beq_iff_eq]; first | omega | exact e4
              clear e4
              have HE2 := Lib.hid (show decide (f = g) = true from decide_eq_true (by
                have z3 := HGE.out.2 E2.out
                have z4 := HDE.out.2 E3.out
                have z1 := E0.out
                have z2 := E1.out
                obtain ⟨a1, a2, a3, a4⟩ := f
                obtain ⟨b1, b2, b3, b4⟩ := g
                simp only at z1 z2 z3 z4
                rw [z1, z2, z3, z4]))
              go_wp2_with fail
              go_ret
              exact ⟨by rw [HE2.out]; rfl, Lib.hid (HU.out.trans hu.out)⟩
            · have d3' : decide ((j : Int) < (m1 : Int)) = false := by simp; omega
              have a0 := cell_up (cell_of HA.out (j := 0) rfl) hu.out
              have a1 := cell_up (cell_of HA.out (j := 1) rfl) hu.out
              have b0 := cell_up (cell_of HB.out (j := 0) rfl) hu.out
              have b1 := cell_up (cell_of HB.out (j := 1) rfl) hu.out
              by_cases e1 : f.cum = g.cum
              rotate_left
              · have HE2 := Lib.hid (show decide (f = g) = false from decide_eq_false fun e => e1 (by rw [e]))
                have q0 : (f.cum == g.cum) = false := by rw [beq_eq_false_iff_ne]; first | omega | exact e1
                go_wp2_with fail
                go_ret
                exact ⟨by rw [HE2.out]; rfl, Lib.hid (HU.out.trans hu.out)⟩
              have E0 := Lib.hid e1
              skip
              have q0 : (f.cum == g.cum) = true := by rw [beq_iff_eq]; first | omega | exact e1
              clear e1
              by_cases e2 : f.win = g.win
              rotate_left
              · have HE2 := Lib.hid (show decide (f = g) = false from decide_eq_false fun e => e2 (by rw [e]))
                have q1 : (f.win == g.win) = false := by rw [beq_eq_false_iff_ne]; first | omega | exact e2
                go_wp2_with fail
                go_ret
                exact ⟨by rw [HE2.out]; rfl, Lib.hid (HU.out.trans hu.out)⟩
              have E1 := Lib.hid e2
              skip
              have q1 : (f.win == g.win) = true := by rw [beq_iff_eq]; first | omega | exact e2
              clear e2
              by_cases e3 : n1 = n2
              rotate_left
              · have HE2 := Lib.hid (show decide (f = g) = false from decide_eq_false fun e => e3 (HGE.out.1 (by rw [e])))
                have q2 : ((n1 : Int) == (n2 : Int)) = false := by rw [beq_eq_false_iff_ne]; first | omega | exact e3
                go_wp2_with fail
                go_ret
                exact ⟨by rw [HE2.out]; rfl, Lib.hid (HU.out.trans hu.out)⟩
              have E2 := Lib.hid e3
              skip
              have q2 : ((n1 : Int) == (n2 : Int)) = true := by rw [beq_iff_eq]; first | omega | exact e3
              clear e3
              by_cases e4 : m1 = m2
              rotate_left
              · have HE2 := Lib.hid (show decide (f = g) = false from decide_eq_false fun e => e4 (HDE.out.1 (by rw [e])))
                have q3 : ((m1 : Int) == (m2 : Int)) = false := by rw [beq_eq_false_iff_ne]; first | omega | exact e4
                go_wp2_with fail
                go_ret
                exact ⟨by rw [HE2.out]; rfl, Lib.hid (HU.out.trans hu.out)⟩
              have E3 := Lib.hid e4
              skip
              have q3 : ((m1 : Int) == (m2 : Int)) = true := by rw [beq_iff_eq]; first | omega | exact e4
              clear e4
              have HE2 := Lib.hid (show decide (f = g) = true from decide_eq_true (by
                have z3 := HGE.out.2 E2.out
                have z4 := HDE.out.2 E3.out
                have z1 := E0.out
                have z2 := E1.out
                obtain ⟨a1, a2, a3, a4⟩ := f
                obtain ⟨b1, b2, b3, b4⟩ := g
                simp only at z1 z2 z3 z4
                rw [z1, z2, z3, z4]))
              go_wp2_with fail
              go_ret
              exact ⟨by rw [HE2.out]; rfl, Lib.hid (HU.out.trans hu.out)⟩
end Go.Proofs.Ytccilbgbjikmpaa
