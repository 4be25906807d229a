import Derived.Test.YthncpkjnalmpkaaAvR
import Derived.Test.YthncpkjnalmpkaaCk1
import Derived.Deep.DeepCutAuto
import Derived.StillTailTactics
namespace Go.Proofs.Ythncpkjnalmpkaa
open Go Go.RowKit
set_option linter.unusedVariables false
set_option linter.unusedSimpArgs false
/-! The program's small calls. -/
theorem head_any (b : Bool) (w : World) : Calls Try.prog 63 #[.bool b] w fun e w' => e = .returned (.int .i64 (if b = true then 12 else 8)) ∧ w' = w := by
  cases b
  · go_enter Try.func63, Try.ntmps63
    go_wp2
    go_ret
    exact ⟨rfl, rfl⟩
  · go_enter Try.func63, Try.ntmps63
    go_wp2
    go_ret
    exact ⟨rfl, rfl⟩
theorem avHead_if (v : Int) : (if (v != 0) = true then (12 : Int) else 8) = (avHead v : Int) := by
  unfold avHead; by_cases h : v = 0 <;> simp [h]
set_option maxRecDepth 100000 in
set_option maxHeartbeats 1000000 in
theorem length_any (x : AvB) (w : World) (h : x.bs.length = x.n) (hn : x.n ≤ 140737488351232) : Calls Try.prog 49 #[avV x] w fun e w' => e = .returned (.int .i64 (avLen x.pure : Int)) ∧ Up w w' := by
  obtain ⟨c, v, m, p, A, n, k, bs⟩ := x
  simp only at h hn
  have HU := Lib.hid (up_alloc w (.cells #[.int .u32 c, .int .u32 v, .bool m, .bool p, .slice A n k] 56))
  have HC := Lib.hid (new_at w (.cells #[.int .u32 c, .int .u32 v, .bool m, .bool p, .slice A n k] 56))
  have HL := Lib.hid (show ((avLen (AvB.pure ⟨c, v, m, p, A, n, k, bs⟩) : Nat) : Int) = (avHead v : Int) + (n : Int) by show ((avHead v + bs.length : Nat) : Int) = _; rw [h]; omega)
  clear h
  unfold avV
  by_cases hv : v = 0
  · subst hv
    go_enter Try.func49, Try.ntmps49
    go_upto_region 1 with (fail)
    generalize w.alloc (.cells #[.int .u32 c, .int .u32 0, .bool m, .bool p, .slice A n k] 56) = wa at HC HU ⊢
    have c1 := cell_of HC.out (j := 1) rfl
    have c4 := cell_of HC.out (j := 4) rfl
    go_quiet ((go_at_call 63; exact Calls.quiet_of_same (head_any _ _)))
    have HU2 := Lib.hid (HU.out.trans (up_drewN wa nq))
    generalize wa.drewN nq = wb at HU2 ⊢
    go_wp2_with fail
    go_ret
    exact ⟨by rw [HL.out]; rfl, HU2.out⟩
  · have HV := Lib.hid (show avHead v = 12 by unfold avHead; rw [if_neg hv])
    have d1 : (v != 0) = true := by simp [hv]
    go_enter Try.func49, Try.ntmps49
    go_upto_region 1 with (fail)
    generalize w.alloc (.cells #[.int .u32 c, .int .u32 v, .bool m, .bool p, .slice A n k] 56) = wa at HC HU ⊢
    have c1 := cell_of HC.out (j := 1) rfl
    have c4 := cell_of HC.out (j := 4) rfl
    go_quiet ((go_at_call 63; exact Calls.quiet_of_same (head_any _ _)))
    have HU2 := Lib.hid (HU.out.trans (up_drewN wa nq))
    generalize wa.drewN nq = wb at HU2 ⊢
    go_wp2_with fail
    go_ret
    exact ⟨by rw [HL.out, HV.out]; rfl, HU2.out⟩
def flL (v : Int) (m p : Bool) : Int := (if v = 0 then 0 else 128) + (if m = true then 64 else 0) + (if p = true then 32 else 0)
set_option maxRecDepth 100000 in
set_option maxHeartbeats 1000000 in
theorem flags_any (x : AvB) (w : World) : Calls Try.prog 64 #[avV x] w fun e w' => e = .returned (.int .u8 (avFl x.pure)) ∧ Up w w' := by
  obtain ⟨c, v, m, p, A, n, k, bs⟩ := x
  have HU := Lib.hid (up_alloc w (.cells #[.int .u32 c, .int .u32 v, .bool m, .bool p, .slice A n k] 56))
  have HC := Lib.hid (new_at w (.cells #[.int .u32 c, .int .u32 v, .bool m, .bool p, .slice A n k] 56))
  show Calls Try.prog 64 #[avV ⟨c, v, m, p, A, n, k, bs⟩] w fun e w' => e = .returned (.int .u8 (flL v m p)) ∧ Up w w'
  unfold avV
  by_cases hv : v = 0
  · subst hv
    cases m <;> cases p
    all_goals
      (go_enter Try.func64, Try.ntmps64
       go_upto_region 1 with (fail)
       generalize w.alloc _ = wa at HC HU ⊢
       have c1 := cell_of HC.out (j := 1) rfl
       have c2 := cell_of HC.out (j := 2) rfl
       have c3 := cell_of HC.out (j := 3) rfl
       go_wp2_with fail
       go_ret
       exact ⟨rfl, HU.out⟩)
  · have d0 : (v == 0) = false := by rw [beq_eq_false_iff_ne]; exact hv
    have d1 : (v != 0) = true := by simp [hv]
    have HF := Lib.hid (show ∀ b, flL v m p = b + 128 → True from fun _ _ => trivial)
    have hfl : flL v m p = 128 + (if m = true then 64 else 0) + (if p = true then 32 else 0) := by unfold flL; rw [if_neg hv]
    have HFL := Lib.hid hfl
    clear hfl HF hv
    cases m <;> cases p
    all_goals
      (go_enter Try.func64, Try.ntmps64
       go_upto_region 1 with (fail)
       generalize w.alloc _ = wa at HC HU ⊢
       have c1 := cell_of HC.out (j := 1) rfl
       have c2 := cell_of HC.out (j := 2) rfl
       have c3 := cell_of HC.out (j := 3) rfl
       go_wp2_with fail
       go_ret
       exact ⟨by rw [HFL.out]; rfl, HU.out⟩)
theorem pow256_4 {s : Nat} (h : s ≤ 4) : (256 : Int) ^ s ≤ 4294967296 := by
  match s, h with
  | 0, _ => decide
  | 1, _ => decide
  | 2, _ => decide
  | 3, _ => decide
  | 4, _ => decide
theorem num_u32 {xs : List Int} (hb : Byt xs) (a s : Nat) (hs : s ≤ 4) : 0 ≤ num 0 ((xs.drop a).take s) ∧ num 0 ((xs.drop a).take s) < 4294967296 := by
  have h1 := num_bd ((xs.drop a).take s) ((hb.drop a).take s)
  have h2 : ((xs.drop a).take s).length ≤ s := by rw [List.length_take]; omega
  have h3 := pow256_4 (Nat.le_trans h2 hs)
  omega
/-- A number that is there, or 0. -/
def numS (xs : List Int) (a s : Nat) : Int := if a + s ≤ xs.length then num 0 ((xs.drop a).take s) else 0
theorem number_any (A : Option Addr) (m c a s : Nat) (xs : List Int) (w : World) (h : InB w A m c xs) (hk : m ≤ 140737488355328) (ha : a ≤ 1000) (hs1 : 1 ≤ s) (hs4 : s ≤ 4) :
    Calls Try.prog 66 #[.slice A m c, .int .i64 (a : Int), .int .i64 (s : Int)] w fun e w' => e = .returned (.int .u32 (numS xs a s)) ∧ w' = w := by
  have hb := num_u32 h.byt a s hs4
  by_cases hl : a + s ≤ m
  · have HN := Lib.hid (show numS xs a s = num 0 ((xs.drop a).take s) by unfold numS; rw [if_pos (by rw [h.len]; exact hl)])
    have H := Lib.hid h
    have b1 := hb.1
    have b2 := hb.2
    clear h hb
    go_enter Try.func66, Try.ntmps66
    go_wp2_with fail
    refine (get_any A m c a s xs _ H.out hk hl hs1 (by omega)).mono ?_
    rintro e w' ⟨rfl, rfl⟩
    go_wp2_with fail
    go_ret
    exact ⟨by rw [HN.out]; rfl, rfl⟩
  · have HN := Lib.hid (show numS xs a s = 0 by unfold numS; rw [if_neg (by rw [h.len]; exact hl)])
    clear h hb
    go_enter Try.func66, Try.ntmps66
    go_wp2_with fail
    refine (get_short A m c a s _ hk (by omega) (by omega) hs1 (by omega)).mono ?_
    rintro e w' ⟨rfl, rfl⟩
    go_wp2_with fail
    go_ret
    exact ⟨by rw [HN.out]; rfl, rfl⟩
end Go.Proofs.Ythncpkjnalmpkaa
