import Derived.Test.YtfbjhialjepodaaNtTk6
namespace Go.Proofs.Ytfbjhialjepodaa
open Go Go.RowKit
set_option linter.unusedVariables false
set_option maxRecDepth 100000 in
set_option maxHeartbeats 1000000 in
theorem turn_p (g b xg c n k xn xc vn bn q : Nat) (w : World) (hn4 : n ≤ 1024) (hk : k < n) (hq : q < xn) (hx4 : xn ≤ 4096) (kb : w.cell? ⟨b, 1, none⟩ = some (.slice (some ⟨g, 0, none⟩) n c))
    (k4 : w.cell? ⟨g, k * 6 + 4, none⟩ = some (.slice (some ⟨xg, 0, none⟩) xn xc)) (k5 : w.cell? ⟨g, k * 6 + 5, none⟩ = some (.bool false)) (f5 : w.frozen? ⟨g, k * 6 + 5, none⟩ = false)
    (kx : w.cell? ⟨xg, q, none⟩ = some (.int .u8 (vn : Int))) (fx : w.frozen? ⟨xg, q, none⟩ = false) (hv : vn < 256) (hb : 0 < bn ∧ bn < 256) (hne : g ≠ xg) :
    Calls Try.prog 19 #[.pointer (some ⟨b, 0, none⟩), .int .i64 (k : Int), .int .i64 (q : Int), .int .u8 (bn : Int)] w fun e w' => e = .returned (.int .i64 0) ∧ w' = (w.setCell ⟨xg, q, none⟩ (.int .u8 ((vn ^^^ bn : Nat) : Int))).setCell ⟨g, k * 6 + 5, none⟩ (.bool true) := by
  obtain ⟨hb0, hb1⟩ := hb
  have hb0' : (bn : Int) ≠ 0 := by omega
  have hbz : ((bn : Int) == 0) = false := by simpa using hb0'
  have nx : ¬ xg = g := fun e => hne e.symm
  have HNX := Lib.hid nx
  go_enter Try.func19, Try.ntmps19
  go_wp2_with fail
  refine (find_in b n c k _ w kb hn4 hk).mono ?_
  rintro e w1 ⟨rfl, rfl⟩
  go_wp2_with fail
  go_ret
  rw [u8_xor_nat vn bn hv hb1]
  exact ⟨rfl, rfl⟩
set_option maxRecDepth 100000 in
set_option maxHeartbeats 1000000 in
theorem turn_p_no (b c n : Nat) (A : Option Addr) (k q bits : Int) (w : World) (hn4 : n ≤ 1024) (hk : ¬ (0 ≤ k ∧ k < n)) (kb : w.cell? ⟨b, 1, none⟩ = some (.slice A n c)) :
    Calls Try.prog 19 #[.pointer (some ⟨b, 0, none⟩), .int .i64 k, .int .i64 q, .int .u8 bits] w fun e w' => e = .returned (.int .i64 8) ∧ w' = w := by
  go_enter Try.func19, Try.ntmps19
  go_wp2_with fail
  refine (find_out b n c k A w kb hn4 hk).mono ?_
  rintro e w1 ⟨rfl, rfl⟩
  go_wp2_with fail
  all_goals (go_ret; exact ⟨rfl, rfl⟩)
set_option maxRecDepth 100000 in
set_option maxHeartbeats 1000000 in
theorem turn_p_b0 (g b c n k xn xc : Nat) (xA : Option Addr) (q : Int) (w : World) (hn4 : n ≤ 1024) (hk : k < n) (kb : w.cell? ⟨b, 1, none⟩ = some (.slice (some ⟨g, 0, none⟩) n c))
    (k4 : w.cell? ⟨g, k * 6 + 4, none⟩ = some (.slice xA xn xc)) :
    Calls Try.prog 19 #[.pointer (some ⟨b, 0, none⟩), .int .i64 (k : Int), .int .i64 q, .int .u8 0] w fun e w' => e = .returned (.int .i64 1) ∧ w' = w := by
  go_enter Try.func19, Try.ntmps19
  go_wp2_with fail
  refine (find_in b n c k _ w kb hn4 hk).mono ?_
  rintro e w1 ⟨rfl, rfl⟩
  go_wp2_with fail
  all_goals (go_ret; exact ⟨rfl, rfl⟩)
set_option maxRecDepth 100000 in
set_option maxHeartbeats 1000000 in
theorem turn_p_q0 (g b c n k xn xc : Nat) (xA : Option Addr) (q bits : Int) (w : World) (hn4 : n ≤ 1024) (hk : k < n) (kb : w.cell? ⟨b, 1, none⟩ = some (.slice (some ⟨g, 0, none⟩) n c))
    (k4 : w.cell? ⟨g, k * 6 + 4, none⟩ = some (.slice xA xn xc)) (hb : bits ≠ 0) (hq : q < 0) :
    Calls Try.prog 19 #[.pointer (some ⟨b, 0, none⟩), .int .i64 (k : Int), .int .i64 q, .int .u8 bits] w fun e w' => e = .returned (.int .i64 1) ∧ w' = w := by
  have hbz : (bits == 0) = false := by simpa using hb
  go_enter Try.func19, Try.ntmps19
  go_wp2_with fail
  refine (find_in b n c k _ w kb hn4 hk).mono ?_
  rintro e w1 ⟨rfl, rfl⟩
  go_wp2_with fail
  all_goals (go_ret; exact ⟨rfl, rfl⟩)
set_option maxRecDepth 100000 in
set_option maxHeartbeats 1000000 in
theorem turn_p_qn (g b c n k xn xc : Nat) (xA : Option Addr) (q : Nat) (bits : Int) (w : World) (hn4 : n ≤ 1024) (hk : k < n) (kb : w.cell? ⟨b, 1, none⟩ = some (.slice (some ⟨g, 0, none⟩) n c))
    (k4 : w.cell? ⟨g, k * 6 + 4, none⟩ = some (.slice xA xn xc)) (hb : bits ≠ 0) (hq : xn ≤ q) :
    Calls Try.prog 19 #[.pointer (some ⟨b, 0, none⟩), .int .i64 (k : Int), .int .i64 (q : Int), .int .u8 bits] w fun e w' => e = .returned (.int .i64 1) ∧ w' = w := by
  have hbz : (bits == 0) = false := by simpa using hb
  go_enter Try.func19, Try.ntmps19
  go_wp2_with fail
  refine (find_in b n c k _ w kb hn4 hk).mono ?_
  rintro e w1 ⟨rfl, rfl⟩
  go_wp2_with fail
  all_goals (go_ret; exact ⟨rfl, rfl⟩)
set_option maxRecDepth 100000 in
set_option maxHeartbeats 1000000 in
theorem turn_p_tn (g b c n k xn xc : Nat) (xA : Option Addr) (q : Nat) (bits : Int) (w : World) (hn4 : n ≤ 1024) (hk : k < n) (kb : w.cell? ⟨b, 1, none⟩ = some (.slice (some ⟨g, 0, none⟩) n c))
    (k4 : w.cell? ⟨g, k * 6 + 4, none⟩ = some (.slice xA xn xc)) (k5 : w.cell? ⟨g, k * 6 + 5, none⟩ = some (.bool true)) (hb : bits ≠ 0) (hq : q < xn) (hx4 : xn ≤ 4096) :
    Calls Try.prog 19 #[.pointer (some ⟨b, 0, none⟩), .int .i64 (k : Int), .int .i64 (q : Int), .int .u8 bits] w fun e w' => e = .returned (.int .i64 7) ∧ w' = w := by
  have hbz : (bits == 0) = false := by simpa using hb
  go_enter Try.func19, Try.ntmps19
  go_wp2_with fail
  refine (find_in b n c k _ w kb hn4 hk).mono ?_
  rintro e w1 ⟨rfl, rfl⟩
  go_wp2_with fail
  all_goals (go_ret; exact ⟨rfl, rfl⟩)
set_option maxRecDepth 100000 in
set_option maxHeartbeats 1000000 in
theorem turn_r_lo (b c n : Nat) (A : Option Addr) (k q bits : Int) (w : World) (hn4 : n ≤ 1024) (hk : k < 0) (kb : w.cell? ⟨b, 1, none⟩ = some (.slice A n c)) :
    Calls Try.prog 26 #[.pointer (some ⟨b, 0, none⟩), .int .i64 k, .int .i64 q, .int .u8 bits] w fun e w' => e = .returned (.int .i64 8) ∧ w' = w := by
  go_enter Try.func26, Try.ntmps26
  go_wp2_with fail
  all_goals (go_ret; exact ⟨rfl, rfl⟩)
set_option maxRecDepth 100000 in
set_option maxHeartbeats 1000000 in
theorem turn_r_hi (b c n k : Nat) (A : Option Addr) (q bits : Int) (w : World) (hn4 : n ≤ 1024) (hk : n ≤ k) (kb : w.cell? ⟨b, 1, none⟩ = some (.slice A n c)) :
    Calls Try.prog 26 #[.pointer (some ⟨b, 0, none⟩), .int .i64 (k : Int), .int .i64 q, .int .u8 bits] w fun e w' => e = .returned (.int .i64 8) ∧ w' = w := by
  go_enter Try.func26, Try.ntmps26
  go_wp2_with fail
  all_goals (go_ret; exact ⟨rfl, rfl⟩)
set_option maxRecDepth 100000 in
set_option maxHeartbeats 1000000 in
theorem turn_r_b0 (g b c n k xn xc : Nat) (xA : Option Addr) (q : Int) (w : World) (hn4 : n ≤ 1024) (hk : k < n) (kb : w.cell? ⟨b, 1, none⟩ = some (.slice (some ⟨g, 0, none⟩) n c))
    (k4 : w.cell? ⟨g, k * 6 + 4, none⟩ = some (.slice xA xn xc)) :
    Calls Try.prog 26 #[.pointer (some ⟨b, 0, none⟩), .int .i64 (k : Int), .int .i64 q, .int .u8 0] w fun e w' => e = .returned (.int .i64 1) ∧ w' = w := by
  go_enter Try.func26, Try.ntmps26
  go_wp2_with fail
  all_goals (go_ret; exact ⟨rfl, rfl⟩)
set_option maxRecDepth 100000 in
set_option maxHeartbeats 1000000 in
theorem turn_r_q0 (g b c n k xn xc : Nat) (xA : Option Addr) (q bits : Int) (w : World) (hn4 : n ≤ 1024) (hk : k < n) (kb : w.cell? ⟨b, 1, none⟩ = some (.slice (some ⟨g, 0, none⟩) n c))
    (k4 : w.cell? ⟨g, k * 6 + 4, none⟩ = some (.slice xA xn xc)) (hb : bits ≠ 0) (hq : q < 0) :
    Calls Try.prog 26 #[.pointer (some ⟨b, 0, none⟩), .int .i64 (k : Int), .int .i64 q, .int .u8 bits] w fun e w' => e = .returned (.int .i64 1) ∧ w' = w := by
  have hbz : (bits == 0) = false := by simpa using hb
  go_enter Try.func26, Try.ntmps26
  go_wp2_with fail
  all_goals (go_ret; exact ⟨rfl, rfl⟩)
set_option maxRecDepth 100000 in
set_option maxHeartbeats 1000000 in
theorem turn_r_qn (g b c n k xn xc : Nat) (xA : Option Addr) (q : Nat) (bits : Int) (w : World) (hn4 : n ≤ 1024) (hk : k < n) (kb : w.cell? ⟨b, 1, none⟩ = some (.slice (some ⟨g, 0, none⟩) n c))
    (k4 : w.cell? ⟨g, k * 6 + 4, none⟩ = some (.slice xA xn xc)) (hb : bits ≠ 0) (hq : xn ≤ q) :
    Calls Try.prog 26 #[.pointer (some ⟨b, 0, none⟩), .int .i64 (k : Int), .int .i64 (q : Int), .int .u8 bits] w fun e w' => e = .returned (.int .i64 1) ∧ w' = w := by
  have hbz : (bits == 0) = false := by simpa using hb
  go_enter Try.func26, Try.ntmps26
  go_wp2_with fail
  all_goals (go_ret; exact ⟨rfl, rfl⟩)
set_option maxRecDepth 100000 in
set_option maxHeartbeats 1000000 in
theorem turn_r_tn (g b c n k xn xc : Nat) (xA : Option Addr) (q : Nat) (bits : Int) (w : World) (hn4 : n ≤ 1024) (hk : k < n) (kb : w.cell? ⟨b, 1, none⟩ = some (.slice (some ⟨g, 0, none⟩) n c))
    (k4 : w.cell? ⟨g, k * 6 + 4, none⟩ = some (.slice xA xn xc)) (k5 : w.cell? ⟨g, k * 6 + 5, none⟩ = some (.bool true)) (hb : bits ≠ 0) (hq : q < xn) (hx4 : xn ≤ 4096) :
    Calls Try.prog 26 #[.pointer (some ⟨b, 0, none⟩), .int .i64 (k : Int), .int .i64 (q : Int), .int .u8 bits] w fun e w' => e = .returned (.int .i64 7) ∧ w' = w := by
  have hbz : (bits == 0) = false := by simpa using hb
  go_enter Try.func26, Try.ntmps26
  go_wp2_with fail
  all_goals (go_ret; exact ⟨rfl, rfl⟩)
theorem xor_run (a b : Nat) (w : World) (ha : a < 256) (hb : b < 256) : (binOp .xor 5 (.int .u8 (a : Int)) (.int .u8 (b : Int))).run Try.prog w = .ok (.int .u8 ((a ^^^ b : Nat) : Int)) w := by
  rw [← u8_xor_nat a b ha hb]
  first | rfl | simp [go_sem]
theorem frz_up {w w' : World} {b j : Nat} (h : w.frozen? ⟨b, j, none⟩ = false) (hb : b < w.heap.size) (hu : Up w w') : w'.frozen? ⟨b, j, none⟩ = false := by
  rw [← h]; exact World.frozen?_of_block (hu.block b hb)
theorem fld463' (b o : Nat) (w : World) : (Instr.fieldAt 46 (.pointer (some ⟨b, o, none⟩)) 3).run Try.prog w = .ok (.pointer (some ⟨b, o + 5, none⟩)) w := by kernel_rfl
/-- Behind the reference's Turn. -/
def TurnPost (g xg k q v : Nat) (w : World) (e : Ending) (w' : World) : Prop := e = .returned (.int .i64 0) ∧ ∃ w1, Up w w1 ∧ w' = (w1.setCell ⟨xg, q, none⟩ (.int .u8 (v : Int))).setCell ⟨g, k * 6 + 5, none⟩ (.bool true)
set_option maxRecDepth 100000 in
set_option maxHeartbeats 1000000 in
theorem turn_r (g b xg c n k xn xc vn bn q : Nat) (w : World) (hn4 : n ≤ 1024) (hk : k < n) (hq : q < xn) (hx4 : xn ≤ 4096) (kb : w.cell? ⟨b, 1, none⟩ = some (.slice (some ⟨g, 0, none⟩) n c))
    (k4 : w.cell? ⟨g, k * 6 + 4, none⟩ = some (.slice (some ⟨xg, 0, none⟩) xn xc)) (k5 : w.cell? ⟨g, k * 6 + 5, none⟩ = some (.bool false)) (f5 : w.frozen? ⟨g, k * 6 + 5, none⟩ = false)
    (kx : w.cell? ⟨xg, q, none⟩ = some (.int .u8 (vn : Int))) (fx : w.frozen? ⟨xg, q, none⟩ = false) (hv : vn < 256) (hb : 0 < bn ∧ bn < 256) (hne : g ≠ xg) (hbx : b ≠ xg) :
    Calls Try.prog 26 #[.pointer (some ⟨b, 0, none⟩), .int .i64 (k : Int), .int .i64 (q : Int), .int .u8 (bn : Int)] w (TurnPost g xg k q (vn ^^^ bn) w) := by
  have hbz : ((bn : Int) == 0) = false := by simp; omega
  have KB := Lib.hid kb
  have K4 := Lib.hid k4
  have K5 := Lib.hid k5
  have F5 := Lib.hid f5
  have KX := Lib.hid kx
  have FX := Lib.hid fx
  have HKN := Lib.hid hk
  have HQN := Lib.hid hq
  have HV := Lib.hid hv
  have HBN := Lib.hid hb
  have HNE := Lib.hid hne
  have HBX := Lib.hid hbx
  clear hb hv kx fx f5 hne hbx
  go_enter Try.func26, Try.ntmps26
  go_upto_region 7 with (fail)
  refine staged_lit (by kernel_rfl) (facts [Is (.pointer (some ⟨b, 0, none⟩)), Is (.pointer (some ⟨b, 0, none⟩)), Is (.pointer (some ⟨b, 1, none⟩)), Is (.slice (some ⟨g, 0, none⟩) n c), Is (.int .i64 (k : Int)), Is (.pointer (some ⟨g, k * 6, none⟩)), Is (.pointer (some ⟨g, k * 6 + 4, none⟩)), Is (.slice (some ⟨xg, 0, none⟩) xn xc), Is (.int .i64 (q : Int)), Is (.pointer (some ⟨b, 0, none⟩)), Is (.pointer (some ⟨b, 0, none⟩)), Is (.pointer (some ⟨b, 1, none⟩)), Is (.slice (some ⟨g, 0, none⟩) n c), Is (.int .i64 (k : Int)), Is (.pointer (some ⟨g, k * 6, none⟩)), Is (.pointer (some ⟨g, k * 6 + 4, none⟩)), Is (.slice (some ⟨xg, 0, none⟩) xn xc), Is (.int .i64 (q : Int)), Is (.pointer (some ⟨xg, q, none⟩)), Is (.int .u8 (vn : Int)), Is (.int .u8 (bn : Int)), Is (.int .u8 ((vn ^^^ bn : Nat) : Int)), Is (.pointer (some ⟨xg, q, none⟩)), Tru]) (Stg [23] (fun r w1 => match r with | 0 => Up w w1 | _ + 1 => ∃ w2, Up w w2 ∧ w1 = w2.setCell ⟨xg, q, none⟩ (.int .u8 ((vn ^^^ bn : Nat) : Int)))) 77 rfl (by decide +kernel) (by decide +kernel) (Stg.start (Up.drew w)) ?_ ?_
  · refine ⟨?_, ?_, ?_, ?_, ?_, ?_, ?_, ?_, ?_, ?_, ?_, ?_, ?_, ?_, ?_, ?_, ?_, ?_, ?_, ?_, ?_, ?_, ?_, ?_, trivial⟩
    · refine opS_same rfl rfl fun L ac w1 hJ hl hc ho hd => ?_
      have s0 : ac.eval (.tmp 0) = .pointer (some ⟨b, 0, none⟩) := ho 0 rfl
      exact ⟨_, x_move (.tmp 0) rfl s0, rfl⟩
    · refine opS_same rfl rfl fun L ac w1 hJ hl hc ho hd => ?_
      have d0 : ac.eval (.tmp 47) = .pointer (some ⟨b, 0, none⟩) := hd 0 _ _ rfl rfl rfl
      exact ⟨_, x_nil (.tmp 47) rfl d0, rfl⟩
    · refine opS_same rfl rfl fun L ac w1 hJ hl hc ho hd => ?_
      have d1 : ac.eval (.tmp 48) = .pointer (some ⟨b, 0, none⟩) := hd 1 _ _ rfl rfl rfl
      exact ⟨_, x_field 34 (.tmp 48) 1 rfl d1 (fld341 _ _ _), rfl⟩
    · refine opS_same rfl rfl fun L ac w1 hJ hl hc ho hd => ?_
      have d2 : ac.eval (.tmp 49) = .pointer (some ⟨b, 1, none⟩) := hd 2 _ _ rfl rfl rfl
      have hW : Up w w1 := hJ.first (reach_not hc (n := 40) (k := 23) (by kernel_rfl) hl)
      exact ⟨_, x_load 29 (.tmp 49) rfl d2 (run_load1 agg29 (cell_up KB.out hW)), rfl⟩
    · refine opS_same rfl rfl fun L ac w1 hJ hl hc ho hd => ?_
      have s1 : ac.eval (.tmp 1) = .int .i64 (k : Int) := ho 1 rfl
      exact ⟨_, x_move (.tmp 1) rfl s1, rfl⟩
    · refine opS_same rfl rfl fun L ac w1 hJ hl hc ho hd => ?_
      have d3 : ac.eval (.tmp 50) = .slice (some ⟨g, 0, none⟩) n c := hd 3 _ _ rfl rfl rfl
      have d4 : ac.eval (.tmp 51) = .int .i64 (k : Int) := hd 4 _ _ rfl rfl rfl
      have hix := run_indexT (P := Try.prog) (T := 29) (E := 46) (s := 6) (A := ⟨g, 0, none⟩) (n := n) (c := c) (i := k) Try.underlying29 (siz46 w1) HKN.out
      rw [add_flat, Nat.zero_add] at hix
      exact ⟨_, x_index 29 (.tmp 50) (.tmp 51) rfl d3 d4 hix, rfl⟩
    · refine opS_same rfl rfl fun L ac w1 hJ hl hc ho hd => ?_
      have d5 : ac.eval (.tmp 52) = .pointer (some ⟨g, k * 6, none⟩) := hd 5 _ _ rfl rfl rfl
      exact ⟨_, x_field 46 (.tmp 52) 2 rfl d5 (fld462 _ _ _), rfl⟩
    · refine opS_same rfl rfl fun L ac w1 hJ hl hc ho hd => ?_
      have d6 : ac.eval (.tmp 53) = .pointer (some ⟨g, k * 6 + 4, none⟩) := hd 6 _ _ rfl rfl rfl
      have hW : Up w w1 := hJ.first (reach_not hc (n := 40) (k := 23) (by kernel_rfl) hl)
      exact ⟨_, x_load 38 (.tmp 53) rfl d6 (run_load1 agg38 (cell_up K4.out hW)), rfl⟩
    · refine opS_same rfl rfl fun L ac w1 hJ hl hc ho hd => ?_
      have s2 : ac.eval (.tmp 2) = .int .i64 (q : Int) := ho 2 rfl
      exact ⟨_, x_move (.tmp 2) rfl s2, rfl⟩
    · refine opS_same rfl rfl fun L ac w1 hJ hl hc ho hd => ?_
      have s0 : ac.eval (.tmp 0) = .pointer (some ⟨b, 0, none⟩) := ho 0 rfl
      exact ⟨_, x_move (.tmp 0) rfl s0, rfl⟩
    · refine opS_same rfl rfl fun L ac w1 hJ hl hc ho hd => ?_
      have d9 : ac.eval (.tmp 56) = .pointer (some ⟨b, 0, none⟩) := hd 9 _ _ rfl rfl rfl
      exact ⟨_, x_nil (.tmp 56) rfl d9, rfl⟩
    · refine opS_same rfl rfl fun L ac w1 hJ hl hc ho hd => ?_
      have d10 : ac.eval (.tmp 57) = .pointer (some ⟨b, 0, none⟩) := hd 10 _ _ rfl rfl rfl
      exact ⟨_, x_field 34 (.tmp 57) 1 rfl d10 (fld341 _ _ _), rfl⟩
    · refine opS_same rfl rfl fun L ac w1 hJ hl hc ho hd => ?_
      have d11 : ac.eval (.tmp 58) = .pointer (some ⟨b, 1, none⟩) := hd 11 _ _ rfl rfl rfl
      have hW : Up w w1 := hJ.first (reach_not hc (n := 40) (k := 23) (by kernel_rfl) hl)
      exact ⟨_, x_load 29 (.tmp 58) rfl d11 (run_load1 agg29 (cell_up KB.out hW)), rfl⟩
    · refine opS_same rfl rfl fun L ac w1 hJ hl hc ho hd => ?_
      have s1 : ac.eval (.tmp 1) = .int .i64 (k : Int) := ho 1 rfl
      exact ⟨_, x_move (.tmp 1) rfl s1, rfl⟩
    · refine opS_same rfl rfl fun L ac w1 hJ hl hc ho hd => ?_
      have d12 : ac.eval (.tmp 59) = .slice (some ⟨g, 0, none⟩) n c := hd 12 _ _ rfl rfl rfl
      have d13 : ac.eval (.tmp 60) = .int .i64 (k : Int) := hd 13 _ _ rfl rfl rfl
      have hix := run_indexT (P := Try.prog) (T := 29) (E := 46) (s := 6) (A := ⟨g, 0, none⟩) (n := n) (c := c) (i := k) Try.underlying29 (siz46 w1) HKN.out
      rw [add_flat, Nat.zero_add] at hix
      exact ⟨_, x_index 29 (.tmp 59) (.tmp 60) rfl d12 d13 hix, rfl⟩
    · refine opS_same rfl rfl fun L ac w1 hJ hl hc ho hd => ?_
      have d14 : ac.eval (.tmp 61) = .pointer (some ⟨g, k * 6, none⟩) := hd 14 _ _ rfl rfl rfl
      exact ⟨_, x_field 46 (.tmp 61) 2 rfl d14 (fld462 _ _ _), rfl⟩
    · refine opS_same rfl rfl fun L ac w1 hJ hl hc ho hd => ?_
      have d15 : ac.eval (.tmp 62) = .pointer (some ⟨g, k * 6 + 4, none⟩) := hd 15 _ _ rfl rfl rfl
      have hW : Up w w1 := hJ.first (reach_not hc (n := 40) (k := 23) (by kernel_rfl) hl)
      exact ⟨_, x_load 38 (.tmp 62) rfl d15 (run_load1 agg38 (cell_up K4.out hW)), rfl⟩
    · refine opS_same rfl rfl fun L ac w1 hJ hl hc ho hd => ?_
      have s2 : ac.eval (.tmp 2) = .int .i64 (q : Int) := ho 2 rfl
      exact ⟨_, x_move (.tmp 2) rfl s2, rfl⟩
    · refine opS_same rfl rfl fun L ac w1 hJ hl hc ho hd => ?_
      have d16 : ac.eval (.tmp 63) = .slice (some ⟨xg, 0, none⟩) xn xc := hd 16 _ _ rfl rfl rfl
      have d17 : ac.eval (.tmp 64) = .int .i64 (q : Int) := hd 17 _ _ rfl rfl rfl
      have hix := run_indexT (P := Try.prog) (T := 38) (E := 5) (s := 1) (A := ⟨xg, 0, none⟩) (n := xn) (c := xc) (i := q) Try.underlying38 (siz5 w1) HQN.out
      rw [add_flat, Nat.zero_add, Nat.mul_one] at hix
      exact ⟨_, x_index 38 (.tmp 63) (.tmp 64) rfl d16 d17 hix, rfl⟩
    · refine opS_same rfl rfl fun L ac w1 hJ hl hc ho hd => ?_
      have d18 : ac.eval (.tmp 65) = .pointer (some ⟨xg, q, none⟩) := hd 18 _ _ rfl rfl rfl
      have hW : Up w w1 := hJ.first (reach_not hc (n := 40) (k := 23) (by kernel_rfl) hl)
      exact ⟨_, x_load 5 (.tmp 65) rfl d18 (run_load1 agg5 (cell_up KX.out hW)), rfl⟩
    · refine opS_same rfl rfl fun L ac w1 hJ hl hc ho hd => ?_
      have s3 : ac.eval (.tmp 3) = .int .u8 (bn : Int) := ho 3 rfl
      exact ⟨_, x_move (.tmp 3) rfl s3, rfl⟩
    · refine opS_same rfl rfl fun L ac w1 hJ hl hc ho hd => ?_
      have d19 : ac.eval (.tmp 66) = .int .u8 (vn : Int) := hd 19 _ _ rfl rfl rfl
      have d20 : ac.eval (.tmp 67) = .int .u8 (bn : Int) := hd 20 _ _ rfl rfl rfl
      exact ⟨_, x_bin .xor 5 5 (.tmp 66) (.tmp 67) rfl d19 d20 rfl (xor_run _ _ _ HV.out HBN.out.2), rfl⟩
    · refine opS_same rfl rfl fun L ac w1 hJ hl hc ho hd => ?_
      have d7 : ac.eval (.tmp 54) = .slice (some ⟨xg, 0, none⟩) xn xc := hd 7 _ _ rfl rfl rfl
      have d8 : ac.eval (.tmp 55) = .int .i64 (q : Int) := hd 8 _ _ rfl rfl rfl
      have hix := run_indexT (P := Try.prog) (T := 38) (E := 5) (s := 1) (A := ⟨xg, 0, none⟩) (n := xn) (c := xc) (i := q) Try.underlying38 (siz5 w1) HQN.out
      rw [add_flat, Nat.zero_add, Nat.mul_one] at hix
      exact ⟨_, x_index 38 (.tmp 54) (.tmp 55) rfl d7 d8 hix, rfl⟩
    · refine opS_write (j := 0) rfl rfl (by decide) rfl (fun _ _ h => absurd h (by omega)) fun ac w1 hW ho hd => ?_
      have d22 : ac.eval (.tmp 69) = .pointer (some ⟨xg, q, none⟩) := hd 22 _ _ rfl rfl rfl
      have d21 : ac.eval (.tmp 68) = .int .u8 ((vn ^^^ bn : Nat) : Int) := hd 21 _ _ rfl rfl rfl
      have hu : Up w w1 := hW
      exact ⟨_, x_store 5 (.tmp 69) (.tmp 68) rfl d22 d21 (run_store1c siz5 (by rw [cell_up KX.out hu]; rfl) (frz_up FX.out (cell_lt KX.out) hu) rfl rfl), ⟨w1, hu, rfl⟩, fun _ => trivial, fun j x hx => facts_kp (T := fun _ => True) (by simp [kpT_is, kpT_tru]) j x w1 _ hx ((setCell_out _ _ _ _).mono fun _ _ => trivial)⟩
  · intro L a1 w9 hI hall
    obtain ⟨r, hr, hW⟩ := hI.done hall (by simp)
    obtain ⟨r, rfl⟩ : ∃ s, r = s + 1 := ⟨r - 1, by simp at hr; omega⟩
    obtain ⟨w2, hu2, e9⟩ := (show ∃ w2, Up w w2 ∧ w9 = w2.setCell ⟨xg, q, none⟩ (.int .u8 ((vn ^^^ bn : Nat) : Int)) from hW)
    subst e9
    clear hr hW r
    have HU2 := Lib.hid hu2
    clear hu2
    have l0 : a1.tmps.getD 0 undef = .pointer (some ⟨b, 0, none⟩) := hI.old 0 rfl
    have l1 : a1.tmps.getD 1 undef = .int .i64 (k : Int) := hI.old 1 rfl
    have l2 : a1.tmps.getD 2 undef = .int .i64 (q : Int) := hI.old 2 rfl
    have l3 : a1.tmps.getD 3 undef = .int .u8 (bn : Int) := hI.old 3 rfl
    have hde : a1.defers = [] := hI.defers
    have hal := act_lit a1 77 hI.size
    clear hI
    simp only [List.range, List.range.loop, List.map_cons, List.map_nil] at hal
    rw [l0, l1, l2, l3, hde] at hal
    generalize a1.tmps.getD 4 undef = t4 at hal
    generalize a1.tmps.getD 5 undef = t5 at hal
    generalize a1.tmps.getD 6 undef = t6 at hal
    generalize a1.tmps.getD 7 undef = t7 at hal
    generalize a1.tmps.getD 8 undef = t8 at hal
    generalize a1.tmps.getD 9 undef = t9 at hal
    generalize a1.tmps.getD 10 undef = t10 at hal
    generalize a1.tmps.getD 11 undef = t11 at hal
    generalize a1.tmps.getD 12 undef = t12 at hal
    generalize a1.tmps.getD 13 undef = t13 at hal
    generalize a1.tmps.getD 14 undef = t14 at hal
    generalize a1.tmps.getD 15 undef = t15 at hal
    generalize a1.tmps.getD 16 undef = t16 at hal
    generalize a1.tmps.getD 17 undef = t17 at hal
    generalize a1.tmps.getD 18 undef = t18 at hal
    generalize a1.tmps.getD 19 undef = t19 at hal
    generalize a1.tmps.getD 20 undef = t20 at hal
    generalize a1.tmps.getD 21 undef = t21 at hal
    generalize a1.tmps.getD 22 undef = t22 at hal
    generalize a1.tmps.getD 23 undef = t23 at hal
    generalize a1.tmps.getD 24 undef = t24 at hal
    generalize a1.tmps.getD 25 undef = t25 at hal
    generalize a1.tmps.getD 26 undef = t26 at hal
    generalize a1.tmps.getD 27 undef = t27 at hal
    generalize a1.tmps.getD 28 undef = t28 at hal
    generalize a1.tmps.getD 29 undef = t29 at hal
    generalize a1.tmps.getD 30 undef = t30 at hal
    generalize a1.tmps.getD 31 undef = t31 at hal
    generalize a1.tmps.getD 32 undef = t32 at hal
    generalize a1.tmps.getD 33 undef = t33 at hal
    generalize a1.tmps.getD 34 undef = t34 at hal
    generalize a1.tmps.getD 35 undef = t35 at hal
    generalize a1.tmps.getD 36 undef = t36 at hal
    generalize a1.tmps.getD 37 undef = t37 at hal
    generalize a1.tmps.getD 38 undef = t38 at hal
    generalize a1.tmps.getD 39 undef = t39 at hal
    generalize a1.tmps.getD 40 undef = t40 at hal
    generalize a1.tmps.getD 41 undef = t41 at hal
    generalize a1.tmps.getD 42 undef = t42 at hal
    generalize a1.tmps.getD 43 undef = t43 at hal
    generalize a1.tmps.getD 44 undef = t44 at hal
    generalize a1.tmps.getD 45 undef = t45 at hal
    generalize a1.tmps.getD 46 undef = t46 at hal
    generalize a1.tmps.getD 47 undef = t47 at hal
    generalize a1.tmps.getD 48 undef = t48 at hal
    generalize a1.tmps.getD 49 undef = t49 at hal
    generalize a1.tmps.getD 50 undef = t50 at hal
    generalize a1.tmps.getD 51 undef = t51 at hal
    generalize a1.tmps.getD 52 undef = t52 at hal
    generalize a1.tmps.getD 53 undef = t53 at hal
    generalize a1.tmps.getD 54 undef = t54 at hal
    generalize a1.tmps.getD 55 undef = t55 at hal
    generalize a1.tmps.getD 56 undef = t56 at hal
    generalize a1.tmps.getD 57 undef = t57 at hal
    generalize a1.tmps.getD 58 undef = t58 at hal
    generalize a1.tmps.getD 59 undef = t59 at hal
    generalize a1.tmps.getD 60 undef = t60 at hal
    generalize a1.tmps.getD 61 undef = t61 at hal
    generalize a1.tmps.getD 62 undef = t62 at hal
    generalize a1.tmps.getD 63 undef = t63 at hal
    generalize a1.tmps.getD 64 undef = t64 at hal
    generalize a1.tmps.getD 65 undef = t65 at hal
    generalize a1.tmps.getD 66 undef = t66 at hal
    generalize a1.tmps.getD 67 undef = t67 at hal
    generalize a1.tmps.getD 68 undef = t68 at hal
    generalize a1.tmps.getD 69 undef = t69 at hal
    generalize a1.tmps.getD 70 undef = t70 at hal
    generalize a1.tmps.getD 71 undef = t71 at hal
    generalize a1.tmps.getD 72 undef = t72 at hal
    generalize a1.tmps.getD 73 undef = t73 at hal
    generalize a1.tmps.getD 74 undef = t74 at hal
    generalize a1.tmps.getD 75 undef = t75 at hal
    generalize a1.tmps.getD 76 undef = t76 at hal
    clear l0 l1 l2 l3 hde
    subst hal
    have so := setCell_out w2 xg q (.int .u8 ((vn ^^^ bn : Nat) : Int))
    have kb9 := cell_out (cell_up KB.out HU2.out) so (fun e => HBX.out e)
    have k59 := cell_out (cell_up K5.out HU2.out) so (fun e => HNE.out e)
    have f59 : (w2.setCell ⟨xg, q, none⟩ (.int .u8 ((vn ^^^ bn : Nat) : Int))).frozen? ⟨g, k * 6 + 5, none⟩ = false := by
      rw [← F5.out]
      exact World.frozen?_of_block ((so.block g (Nat.lt_of_lt_of_le (cell_lt K5.out) HU2.out.size) (fun e => HNE.out e)).trans (HU2.out.block g (cell_lt K5.out)))
    generalize hw9 : (w2.setCell ⟨xg, q, none⟩ (.int .u8 ((vn ^^^ bn : Nat) : Int))) = w9 at kb9 k59 f59 ⊢
    have HW9 := Lib.hid hw9
    clear hw9 so
    go_wp2_with fail
    go_ret
    exact ⟨rfl, w2, HU2.out, by rw [HW9.out]⟩
end Go.Proofs.Ytfbjhialjepodaa
