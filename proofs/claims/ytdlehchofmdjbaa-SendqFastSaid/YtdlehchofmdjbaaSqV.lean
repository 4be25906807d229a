import Derived.Test.YtdlehchofmdjbaaSqD
namespace Go.Proofs.Ytdlehchofmdjbaa
open Go Go.RowKit Sq
set_option linter.unusedVariables false
set_option linter.unusedSimpArgs false
/-! remove. -/
theorem del_any (A : Option Addr) (n c d : Nat) (L : List ItB) (w : World) (hn : n = L.length) (hn2 : n ≤ 256) (hd : d ≤ n) (hrow : w.ownsRow 0 56 11 (.slice A n c) n (L.flatMap itc)) :
    Calls Try.prog 30 #[.slice A n c, .int .i64 0, .int .i64 (d : Int)] w (DelPost A c (L.drop d) w) := by
  rcases Nat.eq_zero_or_pos d with h0 | h0
  · subst h0
    exact del0 A n c L w hn hrow hn2
  · obtain ⟨g, rfl⟩ := row_at hrow (by omega)
    refine del_ok g c d n (L.take d) (L.drop d) w (by rw [List.length_take]; omega) h0 (by rw [List.length_drop]; omega) hn2 ?_
    rw [List.take_append_drop]; exact hrow
def RemPost (q cu : Nat) (A : Option Addr) (n c o d : Nat) (L : List ItB) (w : World) (e : Ending) (w' : World) : Prop :=
  e = .returned (.tuple #[]) ∧ Hid (w'.heap[q]? = some (.cells (qcl ((cu + d) % 4294967296) A (n - d) c (o - d)) 52 (0, 0))) ∧ Hid (w'.ownsRow 0 56 11 (.slice A (n - d) c) (n - d) ((L.drop d).flatMap itc)) ∧ Hid (Out (fun k => k = q ∨ blk? A = some k) w w')
set_option maxRecDepth 100000 in
set_option maxHeartbeats 1000000 in
theorem remove_any (q cu : Nat) (A : Option Addr) (n c o d : Nat) (L : List ItB) (w : World) (hq : w.heap[q]? = some (.cells (qcl cu A n c o) 52 (0, 0))) (hA : blk? A ≠ some q) (hn : n = L.length) (hn2 : n ≤ 256) (ho : o ≤ n) (hd : d ≤ o) (hrow : w.ownsRow 0 56 11 (.slice A n c) n (L.flatMap itc)) :
    Calls Try.prog 22 #[.pointer (some ⟨q, 0, none⟩), .int .i64 (d : Int)] w (RemPost q cu A n c o d L w) := by
  have HQ := Lib.hid hq
  have HA := Lib.hid hA
  have HN := Lib.hid hn
  have HR := Lib.hid hrow
  have q0 : w.cell? ⟨q, 0, none⟩ = some (.int .u32 (cu : Int)) := cell_of hq rfl
  have q0f : w.frozen? ⟨q, 0, none⟩ = false := frozen_at hq
  clear hq hA hn hrow
  go_enter Try.func22, Try.ntmps22
  go_wp2_with fail
  refine (after_any q d _ cu w HQ.out rfl (by omega)).mono ?_
  rintro e w1 ⟨rfl, rfl⟩
  have HE := Lib.hid (show ((cu : Int) + (d : Int)) % 4294967296 = (((cu + d) % 4294967296 : Nat) : Int) by omega)
  go_upto_region 1 with (fail)
  rw [HE.out]
  have hs := setCell_at (j := 0) (.int .u32 (((cu + d) % 4294967296 : Nat) : Int)) HQ.out
  have hso := setCell_out w1 q 0 (.int .u32 (((cu + d) % 4294967296 : Nat) : Int))
  generalize w1.setCell ⟨q, 0, none⟩ (.int .u32 (((cu + d) % 4294967296 : Nat) : Int)) = w2 at hs hso ⊢
  have HQ2 := Lib.hid (show w2.heap[q]? = some (.cells (qcl ((cu + d) % 4294967296) A n c o) 52 (0, 0)) from hs)
  have HR2 := Lib.hid (hso.own HR.out (fun k hk e => HA.out (by rw [ownBlock_slice] at hk; rw [← e]; exact hk)))
  have HO2 := Lib.hid (show Out (fun k => k = q ∨ blk? A = some k) w1 w2 from hso.mono fun k hk => .inl hk)
  have q1 : w2.cell? ⟨q, 1, none⟩ = some (.slice A n c) := cell_of HQ2.out rfl
  clear q0 q0f hs hso
  go_wp2_with fail
  refine (del_any A n c d L w2 HN.out hn2 (by omega) HR2.out).mono ?_
  rintro e w3 ⟨rfl, HR3, HO3⟩
  have hl : (L.drop d).length = n - d := by rw [List.length_drop, HN.out]
  rw [hl] at HR3 ⊢
  have HQ3 := Lib.hid (HO3.out.blk HQ2.out (fun e => HA.out e))
  have HO4 := Lib.hid (HO2.out.trans (HO3.out.mono fun k hk => (show k = q ∨ blk? A = some k from .inr hk)) (Sub.refl _ _))
  have q1 : w3.cell? ⟨q, 1, none⟩ = some (.slice A n c) := cell_of HQ3.out rfl
  have q1f : w3.frozen? ⟨q, 1, none⟩ = false := frozen_at HQ3.out
  clear HQ2 HR2 HO2 HO3 hl
  go_upto_region 2 with (fail)
  have hs := setCell_at (j := 1) (.slice A (n - d) c) HQ3.out
  have hso := setCell_out w3 q 1 (.slice A (n - d) c)
  generalize w3.setCell ⟨q, 1, none⟩ (.slice A (n - d) c) = w4 at hs hso ⊢
  have HQ4 := Lib.hid (show w4.heap[q]? = some (.cells (qcl ((cu + d) % 4294967296) A (n - d) c o) 52 (0, 0)) from hs)
  have HR4 := Lib.hid (hso.own HR3.out (fun k hk e => HA.out (by rw [ownBlock_slice] at hk; rw [← e]; exact hk)))
  have HO5 := Lib.hid (HO4.out.trans (hso.mono fun k hk => (show k = q ∨ blk? A = some k from .inl hk)) (Sub.refl _ _))
  have q2 : w4.cell? ⟨q, 2, none⟩ = some (.int .i64 (o : Int)) := cell_of HQ4.out rfl
  have q2f : w4.frozen? ⟨q, 2, none⟩ = false := frozen_at HQ4.out
  have HE2 := Lib.hid (show ((o : Int) - (d : Int)) = ((o - d : Nat) : Int) by omega)
  clear q1 q1f hs hso HR3 HQ3 HO4
  go_wp2_with fail
  have hs := setCell_at (j := 2) (.int .i64 ((o - d : Nat) : Int)) HQ4.out
  have hso := setCell_out w4 q 2 (.int .i64 ((o - d : Nat) : Int))
  go_end0
  rw [HE2.out]
  exact ⟨rfl, Lib.hid hs, Lib.hid (hso.own HR4.out (fun k hk e => HA.out (by rw [ownBlock_slice] at hk; rw [← e]; exact hk))), Lib.hid (HO5.out.trans (hso.mono fun k hk => .inl hk) (Sub.refl _ _))⟩
end Go.Proofs.Ytdlehchofmdjbaa
