import Derived.Test.YtahpejcejbgcpaaRt0
import Derived.StillTailTactics
import Derived.Deep.RegionWith
namespace Go.Proofs.Ytahpejcejbgcpaa
open Go Go.RowKit
set_option linter.unusedVariables false
set_option linter.unusedSimpArgs false
theorem Tr.drew {b : Nat} {cs : Array Value} {w w' : World} (h : Tr b cs w w') : Tr b cs w w'.drew := ⟨((Up.drew w').block b (lt_of_blk h.1)).trans h.1, h.2.trans ((Up.drew w').out No) (fun _ h => h.elim)⟩
theorem Tr.drewN {b : Nat} {cs : Array Value} {w w' : World} (h : Tr b cs w w') (n : Nat) : Tr b cs w (w'.drewN n) := by
  have hu := up_drewN w' n
  exact ⟨(hu.block b (lt_of_blk h.1)).trans h.1, h.2.trans (hu.out No) (fun _ h => h.elim)⟩
set_option maxRecDepth 100000 in
set_option maxHeartbeats 1000000 in
theorem measC_0 (x : Wy) (n : Int) (b g : Nat) (w : World) (h : w.heap[b]? = some (.cells x.cs 23 (0, 0))) (hg : w.heap[g]? = some (.cells #[.int .i64 n] 3 (0, 0))) (hne : b ≠ g) (hx : x.Ok) (h1 : x.s = 0 ∧ x.v = 0) (hn : 0 ≤ n) (hn2 : n ≤ 1099511627776) : Calls Try.prog 26 #[.pointer (some ⟨b, 0, none⟩), .pointer (some ⟨g, 0, none⟩)] w (Turn b (measW x n) w) := by
  obtain ⟨⟨a1, a2⟩, ⟨b1, b2⟩, ⟨c1, c2⟩, ⟨d1, d2⟩, ⟨e1, e2⟩, ⟨f1, f2⟩, ⟨g1, g2⟩⟩ := hx
  have hb := lt_of_blk h
  have hgl := lt_of_blk hg
  have T := Lib.hid (Tr.refl h)
  have k0 : w.cell? ⟨b, 0, none⟩ = some (.int .i64 x.s) := cell_of h rfl
  have k1 : w.cell? ⟨b, 1, none⟩ = some (.int .i64 x.v) := cell_of h rfl
  have k2 : w.cell? ⟨b, 2, none⟩ = some (.int .i64 x.r) := cell_of h rfl
  have k3 : w.cell? ⟨b, 3, none⟩ = some (.int .i64 x.e) := cell_of h rfl
  have kg : w.cell? ⟨g, 0, none⟩ = some (.int .i64 n) := cell_of hg rfl
  have fz : ∀ j, w.frozen? ⟨b, j, none⟩ = false := fun j => frozen_at h
  clear h hg
  have t1 : (x.s == 0) = true := by simp [h1.1]
  have t2 : (x.v == 0) = true := by simp [h1.2]
  have H1 := Lib.hid h1
  clear h1
  go_enter Try.func26, Try.ntmps26
  go_upto_region 1 with (fail)
  go_region
  all_goals
    go_upto_region 4 with (fail)
    go_region
  all_goals
    go_wp2_with fail
  all_goals
    go_end0
    refine turn_mk (((((T.out.set 0 _).set 1 _).set 2 _).set 3 _).drew.drew) ?_
    rw [measW, if_pos H1.out]
    refine cs_mk rfl rfl ?_ rfl rfl rfl rfl <;> (dsimp only; omega)
end Go.Proofs.Ytahpejcejbgcpaa
