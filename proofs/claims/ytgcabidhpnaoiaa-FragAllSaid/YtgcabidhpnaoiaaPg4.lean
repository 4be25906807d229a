import Derived.Test.YtgcabidhpnaoiaaPg3
import Derived.Lib.SlBytesConst
namespace Go.Proofs.Ytgcabidhpnaoiaa
open Go Go.RowKit Go.Shelf Fg
set_option linter.unusedVariables false
set_option linter.unusedSimpArgs false
/-! Cut, whatever it is asked; answers. -/
theorem cut_any (b st n c : Nat) (A : Option Addr) (un : Bool) (sz : Int) (bs : List Int) (nx : Nat → Nat) (w : World) (hA : InB w A n c bs) (hB : CutB 66 w b nx) :
    Calls Try.prog 10 #[.pointer (some ⟨b, 0, none⟩), .agg #[.int .u16 (st : Int), .slice A n c], .bool un, .int .i64 sz] w (CutPost 66 b nx st un sz bs w) := by
  have hl := hA.len
  by_cases hbad : n = 0 ∨ 8 ≤ st ∨ sz < 1 ∨ 256 < sz
  · refine (cut_bad b st n c A un sz w hbad).mono ?_
    rintro e w1 ⟨rfl, hU⟩
    exact ⟨1, [], none, 0, nx, rfl, Lib.hid (.inl ⟨by unfold CutBad; rw [hl]; exact hbad, rfl, rfl, rfl⟩), Lib.hid ((hU.out.block b (lt_of_blk hB)).trans hB), Lib.hid (World.ownsRow_nil _ _ _ _), Lib.hid (fun x hx => by cases hx), Lib.hid (hU.out.out _)⟩
  · obtain ⟨k, rfl⟩ : ∃ k : Nat, sz = (k : Int) := ⟨sz.toNat, by omega⟩
    by_cases hbig : 4096 < n
    · refine (cut_large b st n c A un k w (by omega) (by omega) (by omega) hbig).mono ?_
      rintro e w1 ⟨rfl, hU⟩
      exact ⟨4, [], none, 0, nx, rfl, Lib.hid (.inr (.inl ⟨by unfold CutBad; rw [hl]; exact hbad, by omega, rfl, rfl, rfl⟩)), Lib.hid ((hU.out.block b (lt_of_blk hB)).trans hB), Lib.hid (World.ownsRow_nil _ _ _ _), Lib.hid (fun x hx => by cases hx), Lib.hid (hU.out.out _)⟩
    · exact cut_ok b st n c A un k bs nx w (by omega) (by omega) (by omega) (by omega) (by omega) hA hB
theorem hello_cut : cutL 0 0 false 2 [104, 101, 108, 108, 111] = [⟨0, 0, 0, false, true, false, [104, 101]⟩, ⟨0, 0, 0, false, false, false, [108, 108]⟩, ⟨0, 0, 0, false, false, true, [111]⟩] := by rfl
set_option maxRecDepth 100000 in
set_option maxHeartbeats 1000000 in
theorem answers_ok (w : World) : Calls Try.prog 14 #[] w (RetB true w) := by
  go_enter Try.func14, Try.ntmps14
  go_wp2_with fail
  refine (newc_any w).mono ?_
  rintro e w1 ⟨rfl, HC, HU⟩
  have cv := Lib.run_convert_bytes_const (P := Try.prog) w1 30 5 #[.int .u8 104, .int .u8 101, .int .u8 108, .int .u8 108, .int .u8 111] 5 5 Try.underlying30 Try.underlying5
  have HB := Lib.hid (new_at w1 (.cells #[.int .u8 104, .int .u8 101, .int .u8 108, .int .u8 108, .int .u8 111] 5 (5, 6)))
  have HU2 := Lib.hid (HU.out.trans (up_alloc w1 (.cells #[.int .u8 104, .int .u8 101, .int .u8 108, .int .u8 108, .int .u8 111] 5 (5, 6))))
  have HC2 := Lib.hid (((up_alloc w1 (.cells #[.int .u8 104, .int .u8 101, .int .u8 108, .int .u8 108, .int .u8 111] 5 (5, 6))).block _ (lt_of_blk HC.out)).trans HC.out)
  go_wp2_with fail
  generalize w1.alloc (.cells #[.int .u8 104, .int .u8 101, .int .u8 108, .int .u8 108, .int .u8 111] 5 (5, 6)) = w2 at HB HU2 HC2 ⊢
  clear cv
  have hin : InB w2 (some ⟨w1.heap.size, 0, none⟩) 5 5 [104, 101, 108, 108, 111] := by
    refine ⟨fun _ => ⟨_, 0, rfl, lt_of_blk HB.out, fun j u hu => ?_⟩, ?_, by omega, rfl⟩
    · rw [Nat.zero_add]; exact cell_of HB.out (by simpa [ints] using hu)
    · intro x hx; simp at hx; omega
  refine (cut_any w.heap.size 0 5 5 _ false 2 [104, 101, 108, 108, 111] (fun _ => 0) w2 hin HC2.out).mono ?_
  rintro e w3 ⟨r, l, A, c, nx', rfl, HR, HC3, HRow, HBy, HO⟩
  have hr : r = 0 ∧ ps l = cutL 0 0 false 2 [104, 101, 108, 108, 111] := by
    rcases HR.out with ⟨h, _⟩ | ⟨_, h, _⟩ | ⟨_, _, h1, h2, _⟩
    · exact absurd h (by unfold CutBad; simp)
    · simp at h
    · exact ⟨h1, by simpa using h2⟩
  obtain ⟨rfl, hl⟩ := hr
  rw [hello_cut] at hl
  obtain ⟨x, y, z, rfl, hz⟩ : ∃ x y z, l = [x, y, z] ∧ z.p = ⟨0, 0, 0, false, false, true, [111]⟩ := by
    clear HR HRow HBy
    cases l with
    | nil => simp [ps] at hl
    | cons x l =>
      cases l with
      | nil => simp [ps] at hl
      | cons y l =>
        cases l with
        | nil => simp [ps] at hl
        | cons z l =>
          cases l with
          | nil => simp [ps] at hl; exact ⟨x, y, z, rfl, hl.2.2⟩
          | cons _ _ => simp [ps] at hl
  obtain ⟨g, rfl⟩ := row_at HRow.out (by simp)
  have k6 : w3.cell? ⟨g, 20, none⟩ = some (.slice z.A 1 z.c) := by
    have := row_cell HRow.out (j := 20) (v := .slice z.A z.p.bs.length z.c) rfl
    rw [this, hz]; rfl
  have k4 : w3.cell? ⟨g, 18, none⟩ = some (.bool true) := by
    have := row_cell HRow.out (j := 18) (v := .bool z.p.en) rfl
    rw [this, hz]
  have hzb : InB w3 z.A 1 z.c [111] := by
    have := own_inB (HBy.out z (by simp)) (by rw [hz]; intro x hx; simp at hx; omega)
    rw [hz] at this
    exact this
  have h1 := conv_up hzb (Up.refl w3)
  simp only [List.length_cons, List.length_nil, Nat.zero_add, Nat.reduceAdd]
  have HFin : Hid (Up w w3) := Lib.hid ⟨HO.out.os.trans HU2.out.os, HO.out.tape.trans HU2.out.tape, HO.out.output.trans HU2.out.output, Nat.le_trans HU2.out.size HO.out.size, fun k hk => (HO.out.block k (by have := HU2.out.size; omega) (by omega)).trans (HU2.out.block k hk)⟩
  clear hz hl hzb hin
  have es : ((strOfNums [111]).toList == [111]) = true := by rw [Lib.strOfNums_toList]; rfl
  go_wp2_with fail
  go_ret
  exact ⟨rfl, HFin⟩
end Go.Proofs.Ytgcabidhpnaoiaa
