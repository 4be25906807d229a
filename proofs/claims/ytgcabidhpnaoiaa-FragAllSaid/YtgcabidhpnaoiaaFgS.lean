import Derived.Test.YtgcabidhpnaoiaaFgB
namespace Go.Proofs.Ytgcabidhpnaoiaa
open Go Go.RowKit
set_option linter.unusedVariables false
set_option linter.unusedSimpArgs false
/-! The reference's SameMessages. -/
namespace Fg
/-- A message, and where its bytes lie. -/
structure MsB where
  m : Nat × List Int
  A : Option Addr
  c : Nat
def mc (x : MsB) : List Value := [.int .u16 x.m.1, .slice x.A x.m.2.length x.c]
theorem mc_len (x : MsB) : (mc x).length = 2 := rfl
/-- A slice of messages. -/
structure InM (w : World) (A : Option Addr) (n c : Nat) (l : List MsB) : Prop where
  cells : Cells w A (l.flatMap mc)
  by_ : ∀ x ∈ l, InB w x.A x.m.2.length x.c x.m.2
  len : l.length = n
theorem InM.up {w w' : World} {A : Option Addr} {n c : Nat} {l : List MsB} (h : InM w A n c l) (hu : Up w w') : InM w' A n c l := ⟨h.cells.up hu, fun x hx => (h.by_ x hx).up hu, h.len⟩
theorem InM.at_ {w : World} {A : Option Addr} {n c : Nat} {l : List MsB} (h : InM w A n c l) {k : Nat} (hk : k < n) : ∃ x g o, l[k]? = some x ∧ A = some ⟨g, o, none⟩ ∧ w.cell? ⟨g, o + k * 2, none⟩ = some (.int .u16 x.m.1) ∧ w.cell? ⟨g, o + k * 2 + 1, none⟩ = some (.slice x.A x.m.2.length x.c) ∧ InB w x.A x.m.2.length x.c x.m.2 := by
  have hkl : k < l.length := by rw [h.len]; exact hk
  obtain ⟨x, hx⟩ : ∃ x, l[k]? = some x := ⟨_, List.getElem?_eq_getElem hkl⟩
  obtain ⟨g, o, rfl, _, hc⟩ := h.cells (by intro e; have := congrArg List.length e; rw [rowG_length mc 2 mc_len] at this; simp at this; omega)
  refine ⟨x, g, o, hx, rfl, ?_, ?_, h.by_ x (List.mem_of_getElem? hx)⟩
  · have := hc (k * 2 + 0) _ (rowG_at mc 2 mc_len hx (j := 0) rfl)
    rwa [Nat.add_zero] at this
  · have := hc (k * 2 + 1) _ (rowG_at mc 2 mc_len hx (j := 1) rfl)
    rwa [← Nat.add_assoc] at this
theorem takeN {α : Type} {l : List α} {k : Nat} {x : α} (h : l[k]? = some x) : l.take (k + 1) = l.take k ++ [x] := by rw [List.take_add_one, h]; rfl
theorem ms_ne {l m : List MsB} {k : Nat} {x y : MsB} (hx : l[k]? = some x) (hy : m[k]? = some y) (hne : x.m ≠ y.m) : l.map (·.m) ≠ m.map (·.m) := fun e => hne (by
  have h1 : (l.map (·.m))[k]? = some x.m := by rw [List.getElem?_map, hx]; rfl
  have h2 : (m.map (·.m))[k]? = some y.m := by rw [List.getElem?_map, hy]; rfl
  rw [e, h2] at h1
  exact (Option.some.inj h1).symm)
theorem ms_end {l m : List MsB} {k n d : Nat} (hl : l.length = n) (hm : m.length = d) (hk : k ≤ n) (hk2 : k ≤ d) (hb : ¬ (k < n ∧ k < d)) (he : (l.take k).map (·.m) = (m.take k).map (·.m)) : decide (l.map (·.m) = m.map (·.m)) = decide (n = d) := by
  rw [decide_eq_decide]
  constructor
  · intro h; rw [← hl, ← hm]; simpa using congrArg List.length h
  · intro h
    rwa [List.take_of_length_le (by omega), List.take_of_length_le (by omega)] at he
end Fg
open Fg
set_option maxRecDepth 100000 in
set_option maxHeartbeats 2000000 in
theorem sameM (A B : Option Addr) (n c d e : Nat) (l m : List MsB) (w : World) (hA : InM w A n c l) (hB : InM w B d e m) (hn : n ≤ 1000000) (hd : d ≤ 1000000) :
    Calls Try.prog 18 #[.slice A n c, .slice B d e] w (RetB (decide (l.map (·.m) = m.map (·.m))) w) := by
  have HA := Lib.hid hA
  have HB := Lib.hid hB
  clear hA hB
  go_enter Try.func18, Try.ntmps18
  go_wp2_with fail
  go_loopw [5] (fun i wr => ∃ k : Nat, k ≤ n ∧ k ≤ d ∧ i = .int .i64 (k : Int) ∧ Hid ((l.take k).map (·.m) = (m.take k).map (·.m)) ∧ Hid (Up w wr)) (fun i _ => n - (intOf i).toNat)
  case atStart => exact ⟨0, Nat.zero_le _, Nat.zero_le _, rfl, Lib.hid rfl, Lib.hid (Up.refl _)⟩
  case round =>
    obtain ⟨k, hk, hk2, rfl, he, hu⟩ := hrel
    by_cases hb1 : k < n ∧ k < d
    · obtain ⟨hkn, hkm⟩ := hb1
      have d1 : decide ((k : Int) < (n : Int)) = true := by simp; omega
      have d2 : decide ((k : Int) < (d : Int)) = true := by simp; omega
      have hk3 : (k : Int) < (n : Int) := by omega
      have hk4 : (k : Int) < (d : Int) := by omega
      obtain ⟨x, ga, oa, hx, rfl, k0, k1, hix⟩ := (HA.out.up hu.out).at_ hkn
      obtain ⟨y, gb, ob, hy, rfl, l0, l1, hiy⟩ := (HB.out.up hu.out).at_ hkm
      have v1 := fun j => conv_up hix (up_drewN wr j)
      have v2 := fun j => conv_up hiy (up_drewN wr j)
      have HX := Lib.hid hx
      have HY := Lib.hid hy
      have HIX := Lib.hid hix
      have HIY := Lib.hid hiy
      clear hx hy hix hiy
      by_cases h1 : x.m.1 = y.m.1
      · have t1 : ((x.m.1 : Int) != (y.m.1 : Int)) = false := by rw [h1]; simp
        by_cases h2 : x.m.2 = y.m.2
        · have HE2 := Lib.hid (show (l.take (k + 1)).map (·.m) = (m.take (k + 1)).map (·.m) by rw [takeN HX.out, takeN HY.out, List.map_append, List.map_append, he.out]; simp [Prod.ext_iff, h1, h2])
          have t2 : ((strOfNums x.m.2).toList == (strOfNums y.m.2).toList) = true := by rw [str_eq HIX.out.byt HIY.out.byt]; simp [h2]
          clear h1 h2
          go_upto_region 4 with (fail)
          go_quiet (fail)
          go_wp2_with fail
          go_roundw
          case rel => exact ⟨k + 1, by omega, by omega, by go_num, HE2, Lib.hid (hu.out.trans (up_drewN _ _))⟩
          case measure => simp [intOf]; omega
        · have HNE := Lib.hid (show decide (l.map (·.m) = m.map (·.m)) = false from decide_eq_false (ms_ne HX.out HY.out (fun e => h2 (by rw [e]))))
          have t2 : ((strOfNums x.m.2).toList == (strOfNums y.m.2).toList) = false := by rw [str_eq HIX.out.byt HIY.out.byt]; simp [h2]
          clear h1 h2
          go_upto_region 4 with (fail)
          go_quiet (fail)
          go_wp2_with fail
          go_ret
          exact ⟨by rw [HNE.out]; rfl, Lib.hid (hu.out.trans (up_drewN _ _))⟩
      · have t1 : ((x.m.1 : Int) != (y.m.1 : Int)) = true := by simp; omega
        have HNE := Lib.hid (show decide (l.map (·.m) = m.map (·.m)) = false from decide_eq_false (ms_ne HX.out HY.out (fun e => h1 (by rw [e]))))
        clear h1
        go_upto_region 4 with (fail)
        go_quiet (fail)
        go_wp2_with fail
        go_ret
        exact ⟨by rw [HNE.out]; rfl, Lib.hid (hu.out.trans (up_drewN _ _))⟩
    · have HEND := Lib.hid (ms_end HA.out.len HB.out.len hk hk2 hb1 he.out)
      have hdec : ((n : Int) == (d : Int)) = decide (n = d) := by
        by_cases e : n = d
        · subst e; simp
        · rw [decide_eq_false e, beq_eq_false_iff_ne]; omega
      by_cases hkn : k < n
      · have d1 : decide ((k : Int) < (n : Int)) = true := by simp; omega
        have hk3 : (k : Int) < (n : Int) := by omega
        obtain rfl : k = d := by omega
        have d2 : decide ((k : Int) < (k : Int)) = false := by simp
        clear hb1
        go_wp2_with fail
        go_ret
        exact ⟨by rw [HEND.out]; first | rfl | rw [hdec], hu⟩
      · have d1 : decide ((k : Int) < (n : Int)) = false := by simp; omega
        obtain rfl : k = n := by omega
        clear hb1 hkn d1
        have d1 : decide ((k : Int) < (k : Int)) = false := by simp
        go_wp2_with fail
        go_ret
        exact ⟨by rw [HEND.out]; first | rfl | rw [hdec], hu⟩
end Go.Proofs.Ytgcabidhpnaoiaa
