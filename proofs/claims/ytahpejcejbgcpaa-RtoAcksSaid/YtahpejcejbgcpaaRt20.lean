import Derived.Test.YtahpejcejbgcpaaRt17
namespace Go.Proofs.Ytahpejcejbgcpaa
open Go Go.RowKit
set_option linter.unusedVariables false
set_option linter.unusedSimpArgs false
/-! What stays sound. -/
theorem ok_late {x : Wy} (h : x.Ok) : (lateW x).Ok := by
  unfold Wy.Ok at *
  dsimp only [lateW]
  unfold thr
  omega
theorem ok_fast {x : Wy} (h : x.Ok) : (fastW x).Ok := by
  unfold Wy.Ok at *
  dsimp only [fastW]
  unfold thr
  omega
theorem ok_grow {x : Wy} {n : Int} (h : x.Ok) (h1 : 0 ≤ n) (h2 : n ≤ 65536) : (growW x n).Ok := by
  unfold growW
  unfold Wy.Ok at *
  split
  · dsimp only; omega
  · split
    · dsimp only; omega
    · dsimp only; omega
theorem ok_ack {x : Wy} {n : Int} {f : Bool} (h : x.Ok) (h1 : 0 ≤ n) (h2 : n ≤ 65536) : (ackW x n f).Ok := by
  unfold ackW
  split
  · exact ok_grow h h1 h2
  · exact h
theorem ok_meas {x : Wy} {n : Int} (h : x.Ok) (h1 : 0 ≤ n) (h2 : n ≤ 1099511627776) : (measW x n).Ok := by
  unfold measW
  unfold Wy.Ok at *
  split
  · dsimp only; omega
  · dsimp only; unfold dst; omega
/-- An answer that may be used: an error, or a sound way. -/
def Fit (r : Wy × Int) : Prop := r.2 = 0 → r.1.Ok
theorem fit_meas {x : Wy} (h : x.Ok) (n : Int) : Fit (measOf x n) := by
  unfold Fit measOf
  rw [if_pos h]
  split
  · rename_i h2; exact fun _ => ok_meas h h2.1 h2.2
  · intro h; cases h
theorem fit_late {x : Wy} (h : x.Ok) : Fit (lateOf x) := by
  unfold Fit lateOf
  rw [if_pos h]
  exact fun _ => ok_late h
theorem fit_fast {x : Wy} (h : x.Ok) : Fit (fastOf x) := by
  unfold Fit fastOf
  rw [if_pos h]
  exact fun _ => ok_fast h
theorem fit_ack {x : Wy} (h : x.Ok) (n : Int) (f : Bool) : Fit (ackOf x n f) := by
  unfold Fit ackOf
  rw [if_pos h]
  split
  · rename_i h2; exact fun _ => ok_ack h h2.1 h2.2
  · intro h; cases h
end Go.Proofs.Ytahpejcejbgcpaa
