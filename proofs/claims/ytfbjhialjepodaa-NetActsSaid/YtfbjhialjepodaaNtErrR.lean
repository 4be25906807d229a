import Derived.Test.YtfbjhialjepodaaNtSndR
namespace Go.Proofs.Ytfbjhialjepodaa
open Go Go.RowKit
set_option linter.unusedVariables false
set_option maxRecDepth 100000 in
theorem take_r_lo (b n c : Nat) (A : Option Addr) (k : Int) (w : World) (kb : w.cell? ⟨b, 1, none⟩ = some (.slice A n c)) (hn4 : n ≤ 1024) (hk : k < 0) :
    Calls Try.prog 22 #[.pointer (some ⟨b, 0, none⟩), .int .i64 k] w fun e w' => e = .returned (.tuple #[frV default (.slice none 0 0), .int .i64 8]) ∧ Up w w' := by
  have kb1 := cell_up kb (up_alloc w (.cells #[.int .i64 0, .int .i64 0, .int .i64 0, .int .i64 0, .slice none 0 0, .bool false] 46))
  have z1 := Lib.hid (new_at w (.cells #[.int .i64 0, .int .i64 0, .int .i64 0, .int .i64 0, .slice none 0 0, .bool false] 46))
  have HU := Lib.hid (up_alloc w (.cells #[.int .i64 0, .int .i64 0, .int .i64 0, .int .i64 0, .slice none 0 0, .bool false] 46))
  clear kb
  go_enter Try.func22, Try.ntmps22
  go_upto_region 1 with (fail)
  generalize (w.alloc (.cells #[.int .i64 0, .int .i64 0, .int .i64 0, .int .i64 0, .slice none 0 0, .bool false] 46)) = W at kb1 z1 HU ⊢
  generalize hrs : w.heap.size = rs at z1 ⊢
  have HRS := Lib.hid hrs.symm
  clear hrs
  have e0 : W.cell? ⟨rs, 0, none⟩ = some (.int .i64 0) := cell_of z1.out (j := 0) rfl
  have g0 : W.frozen? ⟨rs, 0, none⟩ = false := frozen_at (j := 0) z1.out
  have e1 : W.cell? ⟨rs, 1, none⟩ = some (.int .i64 0) := cell_of z1.out (j := 1) rfl
  have g1 : W.frozen? ⟨rs, 1, none⟩ = false := frozen_at (j := 1) z1.out
  have e2 : W.cell? ⟨rs, 2, none⟩ = some (.int .i64 0) := cell_of z1.out (j := 2) rfl
  have g2 : W.frozen? ⟨rs, 2, none⟩ = false := frozen_at (j := 2) z1.out
  have e3 : W.cell? ⟨rs, 3, none⟩ = some (.int .i64 0) := cell_of z1.out (j := 3) rfl
  have g3 : W.frozen? ⟨rs, 3, none⟩ = false := frozen_at (j := 3) z1.out
  have e4 : W.cell? ⟨rs, 4, none⟩ = some (.slice none 0 0) := cell_of z1.out (j := 4) rfl
  have g4 : W.frozen? ⟨rs, 4, none⟩ = false := frozen_at (j := 4) z1.out
  have e5 : W.cell? ⟨rs, 5, none⟩ = some (.bool false) := cell_of z1.out (j := 5) rfl
  have g5 : W.frozen? ⟨rs, 5, none⟩ = false := frozen_at (j := 5) z1.out
  go_wp2_with fail
  have p0 := setCell_at (j := 0) (.int .i64 0) z1.out
  have p1 := setCell_at (j := 1) (.int .i64 0) p0
  have p2 := setCell_at (j := 2) (.int .i64 0) p1
  have p3 := setCell_at (j := 3) (.int .i64 0) p2
  have p4 := setCell_at (j := 4) (.slice none 0 0) p3
  have p5 := setCell_at (j := 5) (.bool false) p4
  refine bodyPost_ret (results_row_tmp (fn := Try.f22) (p := 4) (u := 5) (ty := 46) rfl _ _ rs 46 _ (0, 0) _ rfl p5 Try.underlying46 rfl rfl) rfl ⟨rfl, ?_⟩
  have hO : Out (fun j => j = rs) W _ := ((((((setCell_out W rs 0 (.int .i64 0)).trans (setCell_out _ rs 1 (.int .i64 0)) (Sub.refl _ _)).trans (setCell_out _ rs 2 (.int .i64 0)) (Sub.refl _ _)).trans (setCell_out _ rs 3 (.int .i64 0)) (Sub.refl _ _)).trans (setCell_out _ rs 4 (.slice none 0 0)) (Sub.refl _ _)).trans (setCell_out _ rs 5 (.bool false)) (Sub.refl _ _))
  exact Below.out HU.out hO (fun k hk => by rw [hk, HRS.out]; exact Nat.le_refl _) HU.out.size
set_option maxRecDepth 100000 in
theorem take_r_hi (b n c : Nat) (A : Option Addr) (k : Nat) (w : World) (kb : w.cell? ⟨b, 1, none⟩ = some (.slice A n c)) (hn4 : n ≤ 1024) (hk : n ≤ k) :
    Calls Try.prog 22 #[.pointer (some ⟨b, 0, none⟩), .int .i64 (k : Int)] w fun e w' => e = .returned (.tuple #[frV default (.slice none 0 0), .int .i64 8]) ∧ Up w w' := by
  have kb1 := cell_up kb (up_alloc w (.cells #[.int .i64 0, .int .i64 0, .int .i64 0, .int .i64 0, .slice none 0 0, .bool false] 46))
  have z1 := Lib.hid (new_at w (.cells #[.int .i64 0, .int .i64 0, .int .i64 0, .int .i64 0, .slice none 0 0, .bool false] 46))
  have HU := Lib.hid (up_alloc w (.cells #[.int .i64 0, .int .i64 0, .int .i64 0, .int .i64 0, .slice none 0 0, .bool false] 46))
  clear kb
  go_enter Try.func22, Try.ntmps22
  go_upto_region 1 with (fail)
  generalize (w.alloc (.cells #[.int .i64 0, .int .i64 0, .int .i64 0, .int .i64 0, .slice none 0 0, .bool false] 46)) = W at kb1 z1 HU ⊢
  generalize hrs : w.heap.size = rs at z1 ⊢
  have HRS := Lib.hid hrs.symm
  clear hrs
  have e0 : W.cell? ⟨rs, 0, none⟩ = some (.int .i64 0) := cell_of z1.out (j := 0) rfl
  have g0 : W.frozen? ⟨rs, 0, none⟩ = false := frozen_at (j := 0) z1.out
  have e1 : W.cell? ⟨rs, 1, none⟩ = some (.int .i64 0) := cell_of z1.out (j := 1) rfl
  have g1 : W.frozen? ⟨rs, 1, none⟩ = false := frozen_at (j := 1) z1.out
  have e2 : W.cell? ⟨rs, 2, none⟩ = some (.int .i64 0) := cell_of z1.out (j := 2) rfl
  have g2 : W.frozen? ⟨rs, 2, none⟩ = false := frozen_at (j := 2) z1.out
  have e3 : W.cell? ⟨rs, 3, none⟩ = some (.int .i64 0) := cell_of z1.out (j := 3) rfl
  have g3 : W.frozen? ⟨rs, 3, none⟩ = false := frozen_at (j := 3) z1.out
  have e4 : W.cell? ⟨rs, 4, none⟩ = some (.slice none 0 0) := cell_of z1.out (j := 4) rfl
  have g4 : W.frozen? ⟨rs, 4, none⟩ = false := frozen_at (j := 4) z1.out
  have e5 : W.cell? ⟨rs, 5, none⟩ = some (.bool false) := cell_of z1.out (j := 5) rfl
  have g5 : W.frozen? ⟨rs, 5, none⟩ = false := frozen_at (j := 5) z1.out
  go_wp2_with fail
  have p0 := setCell_at (j := 0) (.int .i64 0) z1.out
  have p1 := setCell_at (j := 1) (.int .i64 0) p0
  have p2 := setCell_at (j := 2) (.int .i64 0) p1
  have p3 := setCell_at (j := 3) (.int .i64 0) p2
  have p4 := setCell_at (j := 4) (.slice none 0 0) p3
  have p5 := setCell_at (j := 5) (.bool false) p4
  refine bodyPost_ret (results_row_tmp (fn := Try.f22) (p := 4) (u := 5) (ty := 46) rfl _ _ rs 46 _ (0, 0) _ rfl p5 Try.underlying46 rfl rfl) rfl ⟨rfl, ?_⟩
  have hO : Out (fun j => j = rs) W _ := ((((((setCell_out W rs 0 (.int .i64 0)).trans (setCell_out _ rs 1 (.int .i64 0)) (Sub.refl _ _)).trans (setCell_out _ rs 2 (.int .i64 0)) (Sub.refl _ _)).trans (setCell_out _ rs 3 (.int .i64 0)) (Sub.refl _ _)).trans (setCell_out _ rs 4 (.slice none 0 0)) (Sub.refl _ _)).trans (setCell_out _ rs 5 (.bool false)) (Sub.refl _ _))
  exact Below.out HU.out hO (fun k hk => by rw [hk, HRS.out]; exact Nat.le_refl _) HU.out.size
theorem take_r_no (b n c : Nat) (A : Option Addr) (k : Int) (w : World) (kb : w.cell? ⟨b, 1, none⟩ = some (.slice A n c)) (hn4 : n ≤ 1024) (hk : ¬ (0 ≤ k ∧ k < n)) :
    Calls Try.prog 22 #[.pointer (some ⟨b, 0, none⟩), .int .i64 k] w fun e w' => e = .returned (.tuple #[frV default (.slice none 0 0), .int .i64 8]) ∧ Up w w' := by
  by_cases h0 : k < 0
  · exact take_r_lo b n c A k w kb hn4 h0
  · obtain ⟨j, rfl⟩ : ∃ j : Nat, k = j := ⟨k.toNat, by omega⟩
    exact take_r_hi b n c A j w kb hn4 (by omega)
set_option maxRecDepth 100000 in
theorem twin_r_lo (b n c : Nat) (A : Option Addr) (k : Int) (w : World) (kb : w.cell? ⟨b, 1, none⟩ = some (.slice A n c)) (hn4 : n ≤ 1024) (hk : k < 0) :
    Calls Try.prog 24 #[.pointer (some ⟨b, 0, none⟩), .int .i64 k] w fun e w' => e = .returned (.int .i64 8) ∧ w' = w := by
  go_enter Try.func24, Try.ntmps24
  go_wp2_with fail
  go_ret
  exact ⟨rfl, rfl⟩
set_option maxRecDepth 100000 in
theorem twin_r_hi (b n c : Nat) (A : Option Addr) (k : Nat) (w : World) (kb : w.cell? ⟨b, 1, none⟩ = some (.slice A n c)) (hn4 : n ≤ 1024) (hk : n ≤ k) :
    Calls Try.prog 24 #[.pointer (some ⟨b, 0, none⟩), .int .i64 (k : Int)] w fun e w' => e = .returned (.int .i64 8) ∧ w' = w := by
  go_enter Try.func24, Try.ntmps24
  go_wp2_with fail
  go_ret
  exact ⟨rfl, rfl⟩
set_option maxRecDepth 100000 in
theorem twin_r_full (b n c k : Nat) (A : Option Addr) (w : World) (kb : w.cell? ⟨b, 1, none⟩ = some (.slice A n c)) (hn4 : n ≤ 1024) (hk : k < n) (hf : 1024 ≤ n) :
    Calls Try.prog 24 #[.pointer (some ⟨b, 0, none⟩), .int .i64 (k : Int)] w fun e w' => e = .returned (.int .i64 10) ∧ w' = w := by
  go_enter Try.func24, Try.ntmps24
  go_wp2_with fail
  go_ret
  exact ⟨rfl, rfl⟩
theorem twin_r_no (b n c : Nat) (A : Option Addr) (k : Int) (w : World) (kb : w.cell? ⟨b, 1, none⟩ = some (.slice A n c)) (hn4 : n ≤ 1024) (hk : ¬ (0 ≤ k ∧ k < n)) :
    Calls Try.prog 24 #[.pointer (some ⟨b, 0, none⟩), .int .i64 k] w fun e w' => e = .returned (.int .i64 8) ∧ w' = w := by
  by_cases h0 : k < 0
  · exact twin_r_lo b n c A k w kb hn4 h0
  · obtain ⟨j, rfl⟩ : ∃ j : Nat, k = j := ⟨k.toNat, by omega⟩
    exact twin_r_hi b n c A j w kb hn4 (by omega)
theorem turn_r_no (b c n : Nat) (A : Option Addr) (k q bits : Int) (w : World) (hn4 : n ≤ 1024) (hk : ¬ (0 ≤ k ∧ k < n)) (kb : w.cell? ⟨b, 1, none⟩ = some (.slice A n c)) :
    Calls Try.prog 26 #[.pointer (some ⟨b, 0, none⟩), .int .i64 k, .int .i64 q, .int .u8 bits] w fun e w' => e = .returned (.int .i64 8) ∧ w' = w := by
  by_cases h0 : k < 0
  · exact turn_r_lo b c n A k q bits w hn4 h0 kb
  · obtain ⟨j, rfl⟩ : ∃ j : Nat, k = j := ⟨k.toNat, by omega⟩
    exact turn_r_hi b c n j A q bits w hn4 (by omega) kb
set_option maxRecDepth 100000 in
theorem last_r_no (b n c : Nat) (A : Option Addr) (k : Int) (w : World) (kb : w.cell? ⟨b, 1, none⟩ = some (.slice A n c)) (hn4 : n ≤ 1024) (hk : ¬ (0 ≤ k ∧ k < n)) :
    Calls Try.prog 25 #[.pointer (some ⟨b, 0, none⟩), .int .i64 k] w fun e w' => e = .returned (.int .i64 8) ∧ Up w w' := by
  have HT := Lib.hid (take_r_no b n c A k w kb hn4 hk)
  clear hk kb
  go_enter Try.func25, Try.ntmps25
  go_wp2_with fail
  refine HT.out.mono ?_
  rintro e w1 ⟨rfl, hu⟩
  have HU := Lib.hid hu
  clear hu HT
  simp only [frV, show (default : Nt.Fr).fh = 0 from rfl, show (default : Nt.Fr).fp = 0 from rfl, show (default : Nt.Fr).th = 0 from rfl, show (default : Nt.Fr).tp = 0 from rfl, show (default : Nt.Fr).tn = false from rfl]
  go_wp2_with fail
  go_ret
  exact ⟨rfl, HU.out.trans (up_alloc _ _)⟩
end Go.Proofs.Ytfbjhialjepodaa
