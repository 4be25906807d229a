import Derived.Test.YtmbhdfgopkbpgaaWire4
namespace Go.Proofs.Ytmbhdfgopkbpgaa
open Go Go.RowKit

theorem str3 : strOfNums [0, 1, 2] = ⟨#[0, 1, 2]⟩ := by decide
set_option maxHeartbeats 400000 in
theorem answers_any (w : World) : Calls Try.prog 8 #[] w fun e w' => e = .returned (.bool true) ∧ Below w.heap.size w w' := by
  have hc := fun (W : World) (h : ∀ i, i < 3 → W.cell? ⟨w.heap.size, 0 + i, none⟩ = some (.int .u8 (([0, 1, 2] : List Int).getD i 0))) => run_convert_bytes_arg (P := Try.prog) W 22 5 Try.underlying22 Try.underlying5 w.heap.size 0 3 3 [0, 1, 2] rfl h 9 Try.underlying9
  have HC := Lib.hid hc
  clear hc
  go_enter Try.func8, Try.ntmps8
  go_wp2_with (first
    | (go_at_call 9; refine (put_any none 0 0 3 [] 258 _ rfl (Cells.nil _ _) (by omega) (by omega) (by omega)).mono ?_; rintro e w' ⟨rfl, hrow, hbel⟩; have hcv := HC.out w' (fun i hi => by rw [cell_of_row _ _ _ _ _ _ hrow.out]; match i, hi with | 0, _ => rfl | 1, _ => rfl | 2, _ => rfl); rw [str3] at hcv))
  go_ret
  exact ⟨rfl, hbel⟩

theorem reaches_any (A : Option Addr) (m c : Nat) (at_ n : Int) (b : Bool) (w : World) (hm : (m : Int) ≤ 9223372036854775807) (h0 : 0 ≤ at_) (h1 : at_ ≤ 9223372036854775807) (hb : decide (n ≤ (m : Int) - at_) = b) :
    Calls Try.prog 20 #[.slice A m c, .int .i64 at_, .int .i64 n] w fun e w' => e = .returned (.bool b) ∧ w = w' := by
  go_enter Try.func20, Try.ntmps20
  go_wp2
  go_ret
  exact ⟨by rw [← hb]; rfl, rfl⟩
end Go.Proofs.Ytmbhdfgopkbpgaa
