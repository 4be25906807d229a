import Derived.Test.YtmbhdfgopkbpgaaWire
namespace Go.Proofs.Ytmbhdfgopkbpgaa
open Go Go.RowKit

/-- make([]byte, 0, n). -/
theorem make_bytes0 (n : Nat) (hn : n ≤ 281474976710656) (N : Int) (hN : N = (n : Int)) (W : World) : (Instr.makeSlice 22 (.int .i64 0) (.int .i64 N)).run Try.prog W =
    .ok (.slice (some ⟨W.heap.size, 0, none⟩) 0 n) (W.alloc (.cells (List.replicate n (.int .u8 0)).toArray 5)) := by
  subst hN
  obtain ⟨i0, hi, hz0, hz1, hz2⟩ := info_parts info5
  have h := run_make (P := Try.prog) W 22 5 i0 (.int .u8 0) Try.underlying22 hi hz0 .i64 .i64 0 n (by omega) (by omega) (by rw [hz2]; omega) (by omega)
  have e : madeCells (Value.int .u8 0).cells (n * 1) = (List.replicate n (.int .u8 0)).toArray := by
    apply Array.toList_inj.1
    show (madeCells #[Value.int .u8 0] (n * 1)).toList = _
    rw [toList_madeCells_one]; simp
  rw [hz1] at h
  simp only [Int.toNat_natCast] at h
  rw [e] at h
  exact h

/-- A call answers new bytes, and nothing that was there has turned. -/
def NewB (w0 : World) (ns : List Int) (e : Ending) (w' : World) : Prop :=
  ∃ A c, e = .returned (.slice A ns.length c) ∧ w'.ownsRow w0.heap.size 5 1 (.slice A ns.length c) ns.length (u8s ns) ∧ Below w0.heap.size w0 w'
theorem u8s_length (ns : List Int) : (u8s ns).length = ns.length := by simp [u8s]
theorem newB_full {w0 w' : World} {ns : List Int} {m : Nat} (hm : ns.length = m) (h63 : m ≤ maxLen) (h : w'.heap[w0.heap.size]? = some (.cells (u8s ns).toArray 5 (0, 0))) (hb : Below w0.heap.size w0 w') :
    NewB w0 ns (.returned (.slice (some ⟨w0.heap.size, 0, none⟩) m m)) w' := by
  subst hm
  exact ⟨_, _, rfl, ⟨by simp [u8s], .inr ⟨_, _, _, rfl, Nat.le_refl _, h, Nat.le_refl _, h63, by simp [u8s], by simp only [Nat.mul_one]; exact List.take_of_length_le (by simp [u8s])⟩⟩, hb⟩

set_option maxHeartbeats 400000 in
theorem own_any (A : Option Addr) (m c : Nat) (ns : List Int) (w : World) (hm : ns.length = m) (hr : Cells w A (u8s ns)) (hk : m + 9 ≤ 140737488355328) :
    Calls Try.prog 10 #[.slice A m c] w (NewB w ns) := by
  have hmk := make_bytes0 (m + 9) (by omega) (↑m + 9) (by omega)
  have HM := Lib.hid hm
  clear hm
  have HR := Lib.hid hr
  clear hr
  have HO := Lib.hid (u8s_one ns)
  go_enter Try.func10, Try.ntmps10
  go_wp2_with (at_builtin; refine wpList_appendS rfl (.tmp 6) (.tmp 7) 22 rfl w.heap.size 5 (.int .u8 0) 1 Try.underlying22 info5 rfl (some ⟨w.heap.size, 0, none⟩) 0 (m + 9) [] rfl (World.ownsRow_made w _ _ (Nat.le_refl _) (by unfold maxLen; omega) (by simp)) A m c (u8s ns) rfl (by rw [u8s_length]; exact HM.out) (HR.out.alloc _) HO.out (by unfold maxLen; omega) (by omega) (by simp) ((Below.refl _ _).alloc (Nat.le_refl _) _) ?_; intro A' c' w' hown hbel hsz)
  go_ret
  obtain rfl := HM.out
  simp only [Nat.zero_add, List.nil_append] at hown ⊢
  exact ⟨A', c', rfl, hown, hbel⟩
end Go.Proofs.Ytmbhdfgopkbpgaa
