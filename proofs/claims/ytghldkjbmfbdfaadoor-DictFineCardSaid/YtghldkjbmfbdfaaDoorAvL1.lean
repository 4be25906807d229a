import Derived.Test.YtghldkjbmfbdfaaDoorAvR2
import Derived.Lib.SlBytesConst
namespace Go.Proofs.YtghldkjbmfbdfaaDoor
open Go Go.RowKit
set_option linter.unusedVariables false
set_option linter.unusedSimpArgs false
/-! What a program that does nothing does not answer; the laws AvpPuts, AvpGets. -/
theorem enc263 : encAs [⟨263, 0, true, false, [97, 98]⟩] = [0, 0, 1, 7, 64, 0, 0, 10, 97, 98, 0, 0] := by decide
theorem str263 : strOfNums [0, 0, 1, 7, 64, 0, 0, 10, 97, 98, 0, 0] = ⟨#[0, 0, 1, 7, 64, 0, 0, 10, 97, 98, 0, 0]⟩ := by decide
theorem bs_av (x : AvB) (w : World) : (Instr.buildSlice 29 1 #[(0, .agg #[.int .u32 x.code, .int .u32 x.vendor, .bool x.must, .bool x.prot, .slice x.A x.n x.c])]).run Tryd.prog w = .ok (.slice (some ⟨w.heap.size, 0, none⟩) 1 1) (w.alloc (.cells #[.int .u32 x.code, .int .u32 x.vendor, .bool x.must, .bool x.prot, .slice x.A x.n x.c] 38)) := by kernel_rfl
set_option maxRecDepth 100000 in
set_option maxHeartbeats 1000000 in
theorem answers_ok (w : World) : Calls Tryd.prog 9 #[] w (RetB true w) := by
  have HB := Lib.hid (show InB (w.alloc (.cells #[.int .u8 97, .int .u8 98] 5 (2, 3))) (some ⟨w.heap.size, 0, none⟩) 2 2 [97, 98] from ⟨fun _ => ⟨w.heap.size, 0, rfl, lt_of_blk (new_at w _), fun j u hu => cell_of (new_at w _) (by rw [Nat.zero_add]; simpa [ints] using hu)⟩, (by intro x hx; simp at hx; omega), Nat.le_refl _, rfl⟩)
  have HU0 := Lib.hid (up_alloc w (.cells #[.int .u8 97, .int .u8 98] 5 (2, 3)))
  have HU1 := Lib.hid (up_alloc (w.alloc (.cells #[.int .u8 97, .int .u8 98] 5 (2, 3))) (.cells #[.int .u32 263, .int .u32 0, .bool true, .bool false, .slice (some ⟨w.heap.size, 0, none⟩) 2 2] 38))
  have hs1 : (w.alloc (.cells #[.int .u8 97, .int .u8 98] 5 (2, 3))).heap.size = w.heap.size + 1 := by simp
  have H := Lib.hid (show InL ((w.alloc (.cells #[.int .u8 97, .int .u8 98] 5 (2, 3))).alloc (.cells #[.int .u32 263, .int .u32 0, .bool true, .bool false, .slice (some ⟨w.heap.size, 0, none⟩) 2 2] 38)) (some ⟨w.heap.size + 1, 0, none⟩) 1 1 [⟨263, 0, true, false, some ⟨w.heap.size, 0, none⟩, 2, 2, [97, 98]⟩] from by
    have := avCells (w.alloc (.cells #[.int .u8 97, .int .u8 98] 5 (2, 3))) ⟨263, 0, true, false, some ⟨w.heap.size, 0, none⟩, 2, 2, [97, 98]⟩
    rw [hs1] at this
    exact ⟨this, (fun x hx => by rw [List.mem_singleton] at hx; subst hx; exact ⟨HB.out.up HU1.out, ⟨⟨by show (0 : Int) ≤ 263; omega, by show (263 : Int) < 4294967296; omega⟩, ⟨by show (0 : Int) ≤ 0; omega, by show (0 : Int) < 4294967296; omega⟩, HB.out.byt⟩, by show 2 ≤ 140737488351232; omega⟩), Nat.le_refl _, rfl⟩)
  clear hs1
  have cv := Lib.run_convert_bytes_const (P := Tryd.prog) w 22 5 #[.int .u8 97, .int .u8 98] 2 2 Tryd.underlying22 Tryd.underlying5
  go_enter Tryd.func9, Tryd.ntmps9
  go_wp2_with fail
  refine (put_any' (some ⟨w.heap.size + 1, 0, none⟩) 1 1 [⟨263, 0, true, false, some ⟨w.heap.size, 0, none⟩, 2, 2, [97, 98]⟩] _ H.out (by omega)).mono ?_
  rintro e w1 ⟨ys, k, A, N, c, rfl, hr, hN, hO, hu⟩
  have hk : k = 0 ∧ ys = [0, 0, 1, 7, 64, 0, 0, 10, 97, 98, 0, 0] := by
    have e1 : encAs (List.map AvB.pure [⟨263, 0, true, false, some ⟨w.heap.size, 0, none⟩, 2, 2, [97, 98]⟩]) = [0, 0, 1, 7, 64, 0, 0, 10, 97, 98, 0, 0] := enc263
    rcases hr.out with ⟨h1, h2, -⟩ | ⟨-, -, h3⟩
    · exact ⟨h1, by rw [h2, e1]⟩
    · exact absurd ⟨by simp, by rw [e1]; simp⟩ h3
  obtain ⟨rfl, rfl⟩ := hk
  have hcv := conv_up (own_inB hO.out (by intro x hx; simp at hx; omega)) (Up.refl w1)
  rw [str263] at hcv
  clear hr
  go_wp2_with fail
  go_ret
  exact ⟨rfl, Lib.hid (Up.trans (Up.trans HU0.out HU1.out) hu.out)⟩
theorem putRes_take {l : List Av.Avp} {ys : List Int} {k : Int} (h : PutRes (l.take 200) ys k) : PutRes l ys k := by
  by_cases hl : l.length ≤ 200
  · rwa [List.take_of_length_le hl] at h
  · rcases h with ⟨h1, h2, h3, h4⟩ | ⟨h1, h2, h3⟩
    · rw [List.length_take] at h3; omega
    · exact .inr ⟨h1, h2, fun h => by omega⟩
end Go.Proofs.YtghldkjbmfbdfaaDoor
