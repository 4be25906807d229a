import Derived.Test.YtfbjhialjepodaaNtTurn
namespace Go.Proofs.Ytfbjhialjepodaa
open Go Go.RowKit
set_option linter.unusedVariables false
set_option maxRecDepth 100000 in
theorem new_no (h : Int) (w : World) (hi : I64n h) (hn : h < 1 ∨ 8 < h) : Calls Try.prog 8 #[.int .i64 h] w fun e w' => e = .returned (.tuple #[.pointer none, .int .i64 1]) ∧ Up w w' := by
  unfold I64n at hi
  by_cases h1 : h < 1
  · clear hn
    go_enter Try.func8, Try.ntmps8
    go_wp2_with fail
    go_ret2
    exact ⟨rfl, Up.refl w⟩
  · have h2 : 8 < h := by omega
    clear hn
    go_enter Try.func8, Try.ntmps8
    go_wp2_with fail
    go_ret2
    exact ⟨rfl, Up.refl w⟩
set_option maxRecDepth 100000 in
theorem new_p (h : Int) (w : World) (h1 : 1 ≤ h) (h2 : h ≤ 8) : Calls Try.prog 8 #[.int .i64 h] w fun e w' => e = .returned (.tuple #[.pointer (some ⟨w.heap.size + 1, 0, none⟩), .int .i64 0]) ∧ w' = (w.alloc (.map #[] 0)).alloc (.cells (netBlk w.heap.size h none 0 0) 61) := by
  have hm : ∀ W, (Instr.makeMap 59 none).run Try.prog W = .ok (.map (some W.heap.size)) (W.alloc (.map #[] 0)) := fun W => by kernel_rfl
  have hbd : ∀ W : World, (Instr.build 61 #[(0, .int .i64 h), (2, .map (some w.heap.size))]).run Try.prog W = .ok (.agg #[.int .i64 h, .slice none 0 0, .map (some w.heap.size)]) W := fun W => by kernel_rfl
  go_enter Try.func8, Try.ntmps8
  go_wp2_with fail
  go_ret2
  exact ⟨rfl, rfl⟩
set_option maxRecDepth 100000 in
theorem take_no (b n c : Nat) (A : Option Addr) (k : Int) (w : World) (kb : w.cell? ⟨b, 1, none⟩ = some (.slice A n c)) (hn4 : n ≤ 1024) (hk : ¬ (0 ≤ k ∧ k < n)) :
    Calls Try.prog 16 #[.pointer (some ⟨b, 0, none⟩), .int .i64 k] w fun e w' => e = .returned (.tuple #[frV default (.slice none 0 0), .int .i64 8]) ∧ Up w w' := by
  have kb1 := cell_up kb (up_alloc w (.cells #[.int .i64 0, .int .i64 0, .int .i64 0, .int .i64 0, .slice none 0 0, .bool false] 46))
  have z1 := Lib.hid (new_at w (.cells #[.int .i64 0, .int .i64 0, .int .i64 0, .int .i64 0, .slice none 0 0, .bool false] 46))
  have HU := Lib.hid (up_alloc w (.cells #[.int .i64 0, .int .i64 0, .int .i64 0, .int .i64 0, .slice none 0 0, .bool false] 46))
  have HK := Lib.hid hk
  clear hk kb
  go_enter Try.func16, Try.ntmps16
  go_upto_region 1 with (fail)
  generalize (w.alloc (.cells #[.int .i64 0, .int .i64 0, .int .i64 0, .int .i64 0, .slice none 0 0, .bool false] 46)) = W at kb1 z1 HU ⊢
  generalize hrs : w.heap.size = rs at z1 ⊢
  have HRS := Lib.hid hrs.symm
  clear hrs
  go_wp2_with fail
  refine (find_out b n c k A W kb1 hn4 HK.out).mono ?_
  rintro e w1 ⟨rfl, rfl⟩
  have e0 : w1.cell? ⟨rs, 0, none⟩ = some (.int .i64 0) := cell_of z1.out (j := 0) rfl
  have g0 : w1.frozen? ⟨rs, 0, none⟩ = false := frozen_at (j := 0) z1.out
  have e1 : w1.cell? ⟨rs, 1, none⟩ = some (.int .i64 0) := cell_of z1.out (j := 1) rfl
  have g1 : w1.frozen? ⟨rs, 1, none⟩ = false := frozen_at (j := 1) z1.out
  have e2 : w1.cell? ⟨rs, 2, none⟩ = some (.int .i64 0) := cell_of z1.out (j := 2) rfl
  have g2 : w1.frozen? ⟨rs, 2, none⟩ = false := frozen_at (j := 2) z1.out
  have e3 : w1.cell? ⟨rs, 3, none⟩ = some (.int .i64 0) := cell_of z1.out (j := 3) rfl
  have g3 : w1.frozen? ⟨rs, 3, none⟩ = false := frozen_at (j := 3) z1.out
  have e4 : w1.cell? ⟨rs, 4, none⟩ = some (.slice none 0 0) := cell_of z1.out (j := 4) rfl
  have g4 : w1.frozen? ⟨rs, 4, none⟩ = false := frozen_at (j := 4) z1.out
  have e5 : w1.cell? ⟨rs, 5, none⟩ = some (.bool false) := cell_of z1.out (j := 5) rfl
  have g5 : w1.frozen? ⟨rs, 5, none⟩ = false := frozen_at (j := 5) z1.out
  go_wp2_with fail
  have p0 := setCell_at (j := 0) (.int .i64 0) z1.out
  have p1 := setCell_at (j := 1) (.int .i64 0) p0
  have p2 := setCell_at (j := 2) (.int .i64 0) p1
  have p3 := setCell_at (j := 3) (.int .i64 0) p2
  have p4 := setCell_at (j := 4) (.slice none 0 0) p3
  have p5 := setCell_at (j := 5) (.bool false) p4
  refine bodyPost_ret (results_row_tmp (fn := Try.f16) (p := 4) (u := 5) (ty := 46) rfl _ _ rs 46 _ (0, 0) _ rfl p5 Try.underlying46 rfl rfl) rfl ⟨rfl, ?_⟩
  have hO : Out (fun j => j = rs) w1 _ := ((((((setCell_out w1 rs 0 (.int .i64 0)).trans (setCell_out _ rs 1 (.int .i64 0)) (Sub.refl _ _)).trans (setCell_out _ rs 2 (.int .i64 0)) (Sub.refl _ _)).trans (setCell_out _ rs 3 (.int .i64 0)) (Sub.refl _ _)).trans (setCell_out _ rs 4 (.slice none 0 0)) (Sub.refl _ _)).trans (setCell_out _ rs 5 (.bool false)) (Sub.refl _ _))
  exact Below.out HU.out hO (fun k hk => by rw [hk, HRS.out]; exact Nat.le_refl _) HU.out.size
set_option maxRecDepth 100000 in
theorem take_nil (k : Int) (w : World) :
    Calls Try.prog 16 #[.pointer none, .int .i64 k] w fun e w' => e = .returned (.tuple #[frV default (.slice none 0 0), .int .i64 1]) ∧ Up w w' := by
  have z1 := Lib.hid (new_at w (.cells #[.int .i64 0, .int .i64 0, .int .i64 0, .int .i64 0, .slice none 0 0, .bool false] 46))
  have HU := Lib.hid (up_alloc w (.cells #[.int .i64 0, .int .i64 0, .int .i64 0, .int .i64 0, .slice none 0 0, .bool false] 46))
  go_enter Try.func16, Try.ntmps16
  go_upto_region 1 with (fail)
  generalize (w.alloc (.cells #[.int .i64 0, .int .i64 0, .int .i64 0, .int .i64 0, .slice none 0 0, .bool false] 46)) = W at z1 HU ⊢
  generalize hrs : w.heap.size = rs at z1 ⊢
  have HRS := Lib.hid hrs.symm
  clear hrs
  go_wp2_with fail
  refine (find_nil k W).mono ?_
  rintro e w1 ⟨rfl, rfl⟩
  have e0 : w1.cell? ⟨rs, 0, none⟩ = some (.int .i64 0) := cell_of z1.out (j := 0) rfl
  have g0 : w1.frozen? ⟨rs, 0, none⟩ = false := frozen_at (j := 0) z1.out
  have e1 : w1.cell? ⟨rs, 1, none⟩ = some (.int .i64 0) := cell_of z1.out (j := 1) rfl
  have g1 : w1.frozen? ⟨rs, 1, none⟩ = false := frozen_at (j := 1) z1.out
  have e2 : w1.cell? ⟨rs, 2, none⟩ = some (.int .i64 0) := cell_of z1.out (j := 2) rfl
  have g2 : w1.frozen? ⟨rs, 2, none⟩ = false := frozen_at (j := 2) z1.out
  have e3 : w1.cell? ⟨rs, 3, none⟩ = some (.int .i64 0) := cell_of z1.out (j := 3) rfl
  have g3 : w1.frozen? ⟨rs, 3, none⟩ = false := frozen_at (j := 3) z1.out
  have e4 : w1.cell? ⟨rs, 4, none⟩ = some (.slice none 0 0) := cell_of z1.out (j := 4) rfl
  have g4 : w1.frozen? ⟨rs, 4, none⟩ = false := frozen_at (j := 4) z1.out
  have e5 : w1.cell? ⟨rs, 5, none⟩ = some (.bool false) := cell_of z1.out (j := 5) rfl
  have g5 : w1.frozen? ⟨rs, 5, none⟩ = false := frozen_at (j := 5) z1.out
  go_wp2_with fail
  have p0 := setCell_at (j := 0) (.int .i64 0) z1.out
  have p1 := setCell_at (j := 1) (.int .i64 0) p0
  have p2 := setCell_at (j := 2) (.int .i64 0) p1
  have p3 := setCell_at (j := 3) (.int .i64 0) p2
  have p4 := setCell_at (j := 4) (.slice none 0 0) p3
  have p5 := setCell_at (j := 5) (.bool false) p4
  refine bodyPost_ret (results_row_tmp (fn := Try.f16) (p := 4) (u := 5) (ty := 46) rfl _ _ rs 46 _ (0, 0) _ rfl p5 Try.underlying46 rfl rfl) rfl ⟨rfl, ?_⟩
  have hO : Out (fun j => j = rs) w1 _ := ((((((setCell_out w1 rs 0 (.int .i64 0)).trans (setCell_out _ rs 1 (.int .i64 0)) (Sub.refl _ _)).trans (setCell_out _ rs 2 (.int .i64 0)) (Sub.refl _ _)).trans (setCell_out _ rs 3 (.int .i64 0)) (Sub.refl _ _)).trans (setCell_out _ rs 4 (.slice none 0 0)) (Sub.refl _ _)).trans (setCell_out _ rs 5 (.bool false)) (Sub.refl _ _))
  exact Below.out HU.out hO (fun k hk => by rw [hk, HRS.out]; exact Nat.le_refl _) HU.out.size
set_option maxRecDepth 100000 in
theorem twin_no (b n c : Nat) (A : Option Addr) (k : Int) (w : World) (kb : w.cell? ⟨b, 1, none⟩ = some (.slice A n c)) (hn4 : n ≤ 1024) (hk : ¬ (0 ≤ k ∧ k < n)) :
    Calls Try.prog 15 #[.pointer (some ⟨b, 0, none⟩), .int .i64 k] w fun e w' => e = .returned (.int .i64 8) ∧ w' = w := by
  go_enter Try.func15, Try.ntmps15
  go_wp2_with fail
  refine (find_out b n c k A w kb hn4 hk).mono ?_
  rintro e w1 ⟨rfl, rfl⟩
  go_wp2_with fail
  go_ret
  exact ⟨rfl, rfl⟩
set_option maxRecDepth 100000 in
theorem twin_nil (k : Int) (w : World) : Calls Try.prog 15 #[.pointer none, .int .i64 k] w fun e w' => e = .returned (.int .i64 1) ∧ Up w w' := by
  go_enter Try.func15, Try.ntmps15
  go_wp2_with fail
  refine (find_nil k w).mono ?_
  rintro e w1 ⟨rfl, rfl⟩
  go_wp2_with fail
  go_ret
  exact ⟨rfl, Up.refl _⟩
set_option maxRecDepth 100000 in
theorem twin_full (b n c k : Nat) (A : Option Addr) (w : World) (kb : w.cell? ⟨b, 1, none⟩ = some (.slice A n c)) (hn4 : n ≤ 1024) (hk : k < n) (hf : 1024 ≤ n) :
    Calls Try.prog 15 #[.pointer (some ⟨b, 0, none⟩), .int .i64 (k : Int)] w fun e w' => e = .returned (.int .i64 10) ∧ w' = w := by
  go_enter Try.func15, Try.ntmps15
  go_wp2_with fail
  refine (find_in b n c k A w kb hn4 hk).mono ?_
  rintro e w1 ⟨rfl, rfl⟩
  go_wp2_with fail
  refine (full_t b n c A w1 kb hf).mono ?_
  rintro e w2 ⟨rfl, rfl⟩
  go_wp2_with fail
  go_ret
  exact ⟨rfl, rfl⟩
set_option maxRecDepth 100000 in
theorem last_no (b n c : Nat) (A : Option Addr) (k : Int) (w : World) (kb : w.cell? ⟨b, 1, none⟩ = some (.slice A n c)) (hn4 : n ≤ 1024) (hk : ¬ (0 ≤ k ∧ k < n)) :
    Calls Try.prog 20 #[.pointer (some ⟨b, 0, none⟩), .int .i64 k] w fun e w' => e = .returned (.int .i64 8) ∧ Up w w' := by
  have HT := Lib.hid (take_no b n c A k w kb hn4 hk)
  go_enter Try.func20, Try.ntmps20
  go_wp2_with fail
  refine HT.out.mono ?_
  rintro e w1 ⟨rfl, hu⟩
  have HU := Lib.hid hu
  clear hu HT
  simp only [frV, show (default : Nt.Fr).fh = 0 from rfl, show (default : Nt.Fr).fp = 0 from rfl, show (default : Nt.Fr).th = 0 from rfl, show (default : Nt.Fr).tp = 0 from rfl, show (default : Nt.Fr).tn = false from rfl]
  go_wp2_with fail
  go_ret
  exact ⟨rfl, HU.out.trans (up_alloc _ _)⟩
set_option maxRecDepth 100000 in
theorem last_nil (k : Int) (w : World) :
    Calls Try.prog 20 #[.pointer none, .int .i64 k] w fun e w' => e = .returned (.int .i64 1) ∧ Up w w' := by
  have HT := Lib.hid (take_nil k w)
  go_enter Try.func20, Try.ntmps20
  go_wp2_with fail
  refine HT.out.mono ?_
  rintro e w1 ⟨rfl, hu⟩
  have HU := Lib.hid hu
  clear hu HT
  simp only [frV, show (default : Nt.Fr).fh = 0 from rfl, show (default : Nt.Fr).fp = 0 from rfl, show (default : Nt.Fr).th = 0 from rfl, show (default : Nt.Fr).tp = 0 from rfl, show (default : Nt.Fr).tn = false from rfl]
  go_wp2_with fail
  go_ret
  exact ⟨rfl, HU.out.trans (up_alloc _ _)⟩
set_option maxRecDepth 100000 in
theorem turn_nil (k q bits : Int) (w : World) : Calls Try.prog 19 #[.pointer none, .int .i64 k, .int .i64 q, .int .u8 bits] w fun e w' => e = .returned (.int .i64 1) ∧ Up w w' := by
  go_enter Try.func19, Try.ntmps19
  go_wp2_with fail
  refine (find_nil k w).mono ?_
  rintro e w1 ⟨rfl, rfl⟩
  go_wp2_with fail
  go_ret
  exact ⟨rfl, Up.refl _⟩
set_option maxRecDepth 100000 in
theorem cut_nil (f t q : Int) (d : Bool) (w : World) : Calls Try.prog 18 #[.pointer none, .int .i64 f, .int .i64 t, .int .i64 q, .bool d] w fun e w' => e = .returned (.int .i64 1) ∧ Up w w' := by
  go_enter Try.func18, Try.ntmps18
  go_wp2_with fail
  go_ret
  exact ⟨rfl, Up.refl _⟩
set_option maxRecDepth 100000 in
theorem send_nil (f t : Int × Int) (w : World) : Calls Try.prog 12 #[.pointer none, adV f, adV t, .slice none 0 0] w fun e w' => e = .returned (.int .i64 1) ∧ Up w w' := by
  unfold adV
  go_enter Try.func12, Try.ntmps12
  go_wp2_with fail
  go_ret
  exact ⟨rfl, (up_alloc _ _).trans (up_alloc _ _)⟩
set_option maxRecDepth 100000 in
theorem list_nil (w : World) : Calls Try.prog 13 #[.pointer none] w fun e w' => ∃ A c, e = .returned (.slice A 0 c) ∧ Up w w' := by
  go_enter Try.func13, Try.ntmps13
  go_wp2_with fail
  go_ret
  exact ⟨none, 0, rfl, Up.refl _⟩
end Go.Proofs.Ytfbjhialjepodaa
namespace Go.Proofs.Ytfbjhialjepodaa
open Go Go.RowKit
set_option linter.unusedVariables false
set_option maxRecDepth 100000 in
set_option maxHeartbeats 1000000 in
theorem send_bad (b : Nat) (h : Int) (f t : Int × Int) (Ai : Option Addr) (n0 ci : Nat) (w : World) (kc : w.cell? ⟨b, 0, none⟩ = some (.int .i64 h)) (hap : apB h f t = false) :
    Calls Try.prog 12 #[.pointer (some ⟨b, 0, none⟩), adV f, adV t, .slice Ai n0 ci] w fun e w' => e = .returned (.int .i64 1) ∧ Up w w' := by
  obtain ⟨W, hW⟩ : ∃ W, W = (w.alloc (.cells #[.int .i64 f.1, .int .i64 f.2] 37)).alloc (.cells #[.int .i64 t.1, .int .i64 t.2] 37) := ⟨_, rfl⟩
  have u1 := up_alloc w (.cells #[.int .i64 f.1, .int .i64 f.2] 37)
  have u2 := up_alloc (w.alloc (.cells #[.int .i64 f.1, .int .i64 f.2] 37)) (.cells #[.int .i64 t.1, .int .i64 t.2] 37)
  have a1 := (u2.block _ (lt_of_blk (new_at w (.cells #[.int .i64 f.1, .int .i64 f.2] 37)))).trans (new_at w (.cells #[.int .i64 f.1, .int .i64 f.2] 37))
  have b1 := new_at (w.alloc (.cells #[.int .i64 f.1, .int .i64 f.2] 37)) (.cells #[.int .i64 t.1, .int .i64 t.2] 37)
  have s1 : (w.alloc (.cells #[.int .i64 f.1, .int .i64 f.2] 37)).heap.size = w.heap.size + 1 := by simp
  rw [s1] at b1
  have U := Lib.hid (u1.trans u2)
  rw [← hW] at a1 b1 U
  clear u1 u2 s1
  have hc0 := cell_up kc U.out
  have ra0 := cell_of a1 (j := 0) rfl
  have ra1 := cell_of a1 (j := 1) rfl
  have rb0 := cell_of b1 (j := 0) rfl
  have rb1 := cell_of b1 (j := 1) rfl
  have HW := Lib.hid hW
  have HAP := Lib.hid hap
  clear hap hW a1 b1 kc
  unfold adV
  go_enter Try.func12, Try.ntmps12
  go_upto_region 1 with (fail)
  rw [← HW.out]
  go_wp2_with fail
  refine (apart_ok b h (f.1, f.2) (t.1, t.2) W hc0).mono ?_
  rintro e w1 ⟨rfl, v1⟩
  rw [show apB h (f.1, f.2) (t.1, t.2) = _ from HAP.out]
  have V1 := Lib.hid v1
  clear v1 hc0 ra0 ra1 rb0 rb1
  go_wp2_with fail
  go_ret
  exact ⟨rfl, U.out.trans V1.out⟩
set_option maxRecDepth 100000 in
set_option maxHeartbeats 1000000 in
theorem send_large (b : Nat) (h : Int) (f t : Int × Int) (Ai : Option Addr) (n0 ci : Nat) (w : World) (kc : w.cell? ⟨b, 0, none⟩ = some (.int .i64 h)) (hap : apB h f t = true) (hn : 4096 < n0) :
    Calls Try.prog 12 #[.pointer (some ⟨b, 0, none⟩), adV f, adV t, .slice Ai n0 ci] w fun e w' => e = .returned (.int .i64 4) ∧ Up w w' := by
  obtain ⟨W, hW⟩ : ∃ W, W = (w.alloc (.cells #[.int .i64 f.1, .int .i64 f.2] 37)).alloc (.cells #[.int .i64 t.1, .int .i64 t.2] 37) := ⟨_, rfl⟩
  have u1 := up_alloc w (.cells #[.int .i64 f.1, .int .i64 f.2] 37)
  have u2 := up_alloc (w.alloc (.cells #[.int .i64 f.1, .int .i64 f.2] 37)) (.cells #[.int .i64 t.1, .int .i64 t.2] 37)
  have a1 := (u2.block _ (lt_of_blk (new_at w (.cells #[.int .i64 f.1, .int .i64 f.2] 37)))).trans (new_at w (.cells #[.int .i64 f.1, .int .i64 f.2] 37))
  have b1 := new_at (w.alloc (.cells #[.int .i64 f.1, .int .i64 f.2] 37)) (.cells #[.int .i64 t.1, .int .i64 t.2] 37)
  have s1 : (w.alloc (.cells #[.int .i64 f.1, .int .i64 f.2] 37)).heap.size = w.heap.size + 1 := by simp
  rw [s1] at b1
  have U := Lib.hid (u1.trans u2)
  rw [← hW] at a1 b1 U
  clear u1 u2 s1
  have hc0 := cell_up kc U.out
  have ra0 := cell_of a1 (j := 0) rfl
  have ra1 := cell_of a1 (j := 1) rfl
  have rb0 := cell_of b1 (j := 0) rfl
  have rb1 := cell_of b1 (j := 1) rfl
  have HW := Lib.hid hW
  have HAP := Lib.hid hap
  clear hap hW a1 b1 kc
  unfold adV
  go_enter Try.func12, Try.ntmps12
  go_upto_region 1 with (fail)
  rw [← HW.out]
  go_wp2_with fail
  refine (apart_ok b h (f.1, f.2) (t.1, t.2) W hc0).mono ?_
  rintro e w1 ⟨rfl, v1⟩
  rw [show apB h (f.1, f.2) (t.1, t.2) = _ from HAP.out]
  have V1 := Lib.hid v1
  clear v1 hc0 ra0 ra1 rb0 rb1
  go_wp2_with fail
  go_ret
  exact ⟨rfl, U.out.trans V1.out⟩
set_option maxRecDepth 100000 in
set_option maxHeartbeats 1000000 in
theorem cut_bad_p (b : Nat) (h f t q : Int) (d : Bool) (w : World) (kc : w.cell? ⟨b, 0, none⟩ = some (.int .i64 h)) (hap : apB h (f, q) (t, q) = false) :
    Calls Try.prog 18 #[.pointer (some ⟨b, 0, none⟩), .int .i64 f, .int .i64 t, .int .i64 q, .bool d] w fun e w' => e = .returned (.int .i64 1) ∧ Up w w' := by
  have HAP := Lib.hid hap
  clear hap
  have hbd : ∀ (x y : Int) (W : World), (Instr.build 37 #[(0, .int .i64 x), (1, .int .i64 y)]).run Try.prog W = .ok (adV (x, y)) W := fun x y W => by kernel_rfl
  go_enter Try.func18, Try.ntmps18
  go_wp2_with fail
  refine (apart_ok b h (f, q) (t, q) w kc).mono ?_
  rintro e w1 ⟨rfl, v1⟩
  rw [HAP.out]
  have V1 := Lib.hid v1
  clear v1 kc
  go_wp2_with fail
  go_ret
  exact ⟨rfl, V1.out⟩
/-- Behind a Cut: the map alone has turned. -/
def CutPost (m : Nat) (dn : Int → Int → Int → Bool) (f t q : Int) (d : Bool) (w : World) (e : Ending) (w' : World) : Prop :=
  e = .returned (.int .i64 0) ∧ Out (fun k => k = m) w w' ∧ CutM w' m (fun x y z => if x = f ∧ y = t ∧ z = q then d else dn x y z)
set_option maxRecDepth 100000 in
set_option maxHeartbeats 1000000 in
theorem cut_true (b m n c : Nat) (A : Option Addr) (h f t q : Int) (dn : Int → Int → Int → Bool) (w : World) (hb : w.heap[b]? = some (.cells (netBlk m h A n c) 61 (0, 0))) (hcu : CutM w m dn) (hap : apB h (f, q) (t, q) = true) (hr : Rd f t q) :
    Calls Try.prog 18 #[.pointer (some ⟨b, 0, none⟩), .int .i64 f, .int .i64 t, .int .i64 q, .bool true] w (CutPost m dn f t q true w) := by
  have HAP := Lib.hid hap
  have HB := Lib.hid hb
  have HCU := Lib.hid hcu
  have HR := Lib.hid hr
  have kc : w.cell? ⟨b, 0, none⟩ = some (.int .i64 h) := cell_of hb rfl
  clear hap hb hcu hr
  have hbd : ∀ (x y : Int) (W : World), (Instr.build 37 #[(0, .int .i64 x), (1, .int .i64 y)]).run Try.prog W = .ok (adV (x, y)) W := fun x y W => by kernel_rfl
  have hb64 : ∀ (W : World), (Instr.build 64 #[]).run Try.prog W = .ok (.agg #[]) W := fun W => by kernel_rfl
  go_enter Try.func18, Try.ntmps18
  go_wp2_with fail
  refine (apart_ok b h (f, q) (t, q) w kc).mono ?_
  rintro e w1 ⟨rfl, v1⟩
  rw [HAP.out]
  have V1 := Lib.hid v1
  have k2 : w1.cell? ⟨b, 2, none⟩ = some (.map (some m)) := cell_of (((v1.out No).blk HB.out (fun h => h))) rfl
  have hbr : ∀ (W : World), (Instr.build 67 #[(0, .int .i64 f), (1, .int .i64 t), (2, .int .i64 q)]).run Try.prog W = .ok (rdV f t q) W := bld67 f t q
  obtain ⟨w2, hrun, ho2, hc2⟩ := upd_cut (HCU.out.keep (v1.block m HCU.out.lt)) HR.out
  have HO2 := Lib.hid ho2
  have HC2 := Lib.hid hc2
  unfold rdV at hrun
  clear v1 kc ho2 hc2
  go_wp2_with fail
  go_ret
  exact ⟨rfl, ((show Up w w1 from V1.out).out _).trans HO2.out (Sub.refl _ _), HC2.out⟩
set_option maxRecDepth 100000 in
set_option maxHeartbeats 1000000 in
theorem cut_false (b m n c : Nat) (A : Option Addr) (h f t q : Int) (dn : Int → Int → Int → Bool) (w : World) (hb : w.heap[b]? = some (.cells (netBlk m h A n c) 61 (0, 0))) (hcu : CutM w m dn) (hap : apB h (f, q) (t, q) = true) (hr : Rd f t q) :
    Calls Try.prog 18 #[.pointer (some ⟨b, 0, none⟩), .int .i64 f, .int .i64 t, .int .i64 q, .bool false] w (CutPost m dn f t q false w) := by
  have HAP := Lib.hid hap
  have HB := Lib.hid hb
  have HCU := Lib.hid hcu
  have HR := Lib.hid hr
  have kc : w.cell? ⟨b, 0, none⟩ = some (.int .i64 h) := cell_of hb rfl
  clear hap hb hcu hr
  have hbd : ∀ (x y : Int) (W : World), (Instr.build 37 #[(0, .int .i64 x), (1, .int .i64 y)]).run Try.prog W = .ok (adV (x, y)) W := fun x y W => by kernel_rfl
  have hb64 : ∀ (W : World), (Instr.build 64 #[]).run Try.prog W = .ok (.agg #[]) W := fun W => by kernel_rfl
  go_enter Try.func18, Try.ntmps18
  go_wp2_with fail
  refine (apart_ok b h (f, q) (t, q) w kc).mono ?_
  rintro e w1 ⟨rfl, v1⟩
  rw [HAP.out]
  have V1 := Lib.hid v1
  have k2 : w1.cell? ⟨b, 2, none⟩ = some (.map (some m)) := cell_of (((v1.out No).blk HB.out (fun h => h))) rfl
  have hbr : ∀ (W : World), (Instr.build 67 #[(0, .int .i64 f), (1, .int .i64 t), (2, .int .i64 q)]).run Try.prog W = .ok (rdV f t q) W := bld67 f t q
  obtain ⟨w2, hrun, ho2, hc2⟩ : ∃ w', (∀ ty, (Builtin.delete_ #[59, 67] ty #[.map (some m), rdV f t q]).run Try.prog w1 = .ok (.tuple #[]) w') ∧ Out (fun k => k = m) w1 w' ∧ CutM w' m (fun x y z => if x = f ∧ y = t ∧ z = q then false else dn x y z) := by
    obtain ⟨w2, h1, h2, h3⟩ := del_cut (HCU.out.keep (v1.block m HCU.out.lt)) HR.out 0
    exact ⟨w2, fun ty => h1, h2, h3⟩
  have HO2 := Lib.hid ho2
  have HC2 := Lib.hid hc2
  unfold rdV at hrun
  clear v1 kc ho2 hc2
  go_wp2_with fail
  go_ret
  exact ⟨rfl, ((show Up w w1 from V1.out).out _).trans HO2.out (Sub.refl _ _), HC2.out⟩
end Go.Proofs.Ytfbjhialjepodaa
