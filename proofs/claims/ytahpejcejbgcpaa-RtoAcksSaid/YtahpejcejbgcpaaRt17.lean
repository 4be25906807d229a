import Derived.Test.YtahpejcejbgcpaaRt11
import Derived.Test.YtahpejcejbgcpaaRt14
import Derived.Test.YtahpejcejbgcpaaRt15
import Derived.Test.YtahpejcejbgcpaaRt16
namespace Go.Proofs.Ytahpejcejbgcpaa
open Go Go.RowKit
set_option linter.unusedVariables false
set_option linter.unusedSimpArgs false
abbrev WN : Wy := ⟨0, 0, 12, 0, 2048, 65536, 0⟩
def WV (y : Wy) (w : World) (e : Ending) (w' : World) : Prop := e = .returned (.agg y.cs) ∧ Hid (Up w w')
/-- True, and nothing that was there has turned. -/
def RetB (b : Bool) (w : World) (e : Ending) (w' : World) : Prop := e = .returned (.bool b) ∧ Hid (Up w w')
theorem WN_ok : WN.Ok := by simp [Wy.Ok]
set_option maxRecDepth 100000 in
set_option maxHeartbeats 4000000 in
theorem new_any (w : World) : Calls Try.prog 22 #[] w (WV WN w) := by
  have hb0 := new_at w (.cells #[.int .i64 0, .int .i64 0, .int .i64 0, .int .i64 0, .int .i64 0, .int .i64 0, .int .i64 0] 23)
  have hu : Up w (w.alloc (.cells #[.int .i64 0, .int .i64 0, .int .i64 0, .int .i64 0, .int .i64 0, .int .i64 0, .int .i64 0] 23)) := up_alloc w (.cells #[.int .i64 0, .int .i64 0, .int .i64 0, .int .i64 0, .int .i64 0, .int .i64 0, .int .i64 0] 23)
  change (w.alloc (.cells #[.int .i64 0, .int .i64 0, .int .i64 0, .int .i64 0, .int .i64 0, .int .i64 0, .int .i64 0] 23)).heap[w.heap.size]? = _ at hb0
  have HM0 := Lib.hid hb0
  have HU1 := Lib.hid hu
  clear hu hb0
  go_enter Try.func22, Try.ntmps22
  go_upto_region 1 with (fail)
  generalize (w.alloc (.cells #[.int .i64 0, .int .i64 0, .int .i64 0, .int .i64 0, .int .i64 0, .int .i64 0, .int .i64 0] 23)) = w2 at HM0 HU1 ⊢
  obtain ⟨p, hp⟩ : ∃ p, p = w.heap.size := ⟨_, rfl⟩
  rw [← hp] at HM0 ⊢
  have HP := Lib.hid hp
  clear hp
  have hm3 := HM0.out
  have f3 : ∀ j, w2.frozen? ⟨p, j, none⟩ = false := fun j => frozen_at hm3
  have q0 : w2.cell? ⟨p, 0, none⟩ = some (.int .i64 0) := cell_of hm3 rfl
  have q1 : w2.cell? ⟨p, 1, none⟩ = some (.int .i64 0) := cell_of hm3 rfl
  have q2 : w2.cell? ⟨p, 2, none⟩ = some (.int .i64 0) := cell_of hm3 rfl
  have q3 : w2.cell? ⟨p, 3, none⟩ = some (.int .i64 0) := cell_of hm3 rfl
  have q4 : w2.cell? ⟨p, 4, none⟩ = some (.int .i64 0) := cell_of hm3 rfl
  have q5 : w2.cell? ⟨p, 5, none⟩ = some (.int .i64 0) := cell_of hm3 rfl
  have q6 : w2.cell? ⟨p, 6, none⟩ = some (.int .i64 0) := cell_of hm3 rfl
  clear hm3
  go_wp2_with fail
  have HT := (((((((Tr.refl HM0.out).set 0 (.int .i64 0)).set 1 (.int .i64 0)).set 2 (.int .i64 12)).set 3 (.int .i64 0)).set 4 (.int .i64 2048)).set 5 (.int .i64 65536)).set 6 (.int .i64 0)
  exact bodyPost_ret (results_cell_row (fn := Try.f22) (p := 0) (ty := 23) rfl _ _ p 23 WN.cs (0, 0) _ rfl HT.1 Try.underlying23 rfl rfl) rfl ⟨rfl, Lib.hid (Below.out HU1.out HT.2 (fun k hk => by rw [hk, HP.out]; omega) HU1.out.size)⟩
theorem meas8 : measOf WN 8 = (⟨8, 4, 24, 0, 2048, 65536, 0⟩, 0) := by
  unfold measOf measW
  rw [if_pos WN_ok, if_pos (by omega), if_pos (by simp)]
  rfl
set_option maxRecDepth 100000 in
set_option maxHeartbeats 4000000 in
theorem answers_ok (w : World) : Calls Try.prog 11 #[] w (RetB true w) := by
  have hme := fun wx => measure_any WN 8 wx
  simp only [meas8] at hme
  have HME : ∀ wx, Calls Try.prog 9 #[.agg WN.cs, .int .i64 8] wx (WRes ⟨8, 4, 24, 0, 2048, 65536, 0⟩ 0 wx) := hme
  clear hme
  go_enter Try.func11, Try.ntmps11
  go_wp2_with fail
  refine (new_any _).mono ?_
  rintro e w1 ⟨rfl, HU1⟩
  go_wp2_with fail
  refine (HME _).mono ?_
  rintro e w2 ⟨rfl, HU2⟩
  go_wp2_with fail
  go_ret
  exact ⟨rfl, Lib.hid (HU1.out.trans (HU2.out.trans (up_alloc _ _)))⟩
end Go.Proofs.Ytahpejcejbgcpaa
