import Derived.Test.YtiagapibfdpfdaaAvR2
import Derived.Test.YtiagapibfdpfdaaAvS
import Derived.Lib.SlBytesConst
namespace Go.Proofs.Ytiagapibfdpfdaa
open Go Go.RowKit
set_option linter.unusedVariables false
set_option linter.unusedSimpArgs false
/-! What a program that does nothing does not answer; the laws AvpPuts, AvpGets. -/
theorem enc263 : encAs [⟨263, 0, true, false, [97, 98]⟩] = [0, 0, 1, 7, 64, 0, 0, 10, 97, 98, 0, 0] := by decide
theorem str263 : strOfNums [0, 0, 1, 7, 64, 0, 0, 10, 97, 98, 0, 0] = ⟨#[0, 0, 1, 7, 64, 0, 0, 10, 97, 98, 0, 0]⟩ := by decide
theorem bs_av (x : AvB) (w : World) : (Instr.buildSlice 22 1 #[(0, .agg #[.int .u32 x.code, .int .u32 x.vendor, .bool x.must, .bool x.prot, .slice x.A x.n x.c])]).run Try.prog w = .ok (.slice (some ⟨w.heap.size, 0, none⟩) 1 1) (w.alloc (.cells #[.int .u32 x.code, .int .u32 x.vendor, .bool x.must, .bool x.prot, .slice x.A x.n x.c] 38)) := by kernel_rfl
set_option maxRecDepth 100000 in
set_option maxHeartbeats 1000000 in
theorem answers_ok (w : World) : Calls Try.prog 11 #[] w (RetB true w) := by
  have HB := Lib.hid (show InB (w.alloc (.cells #[.int .u8 97, .int .u8 98] 5 (2, 3))) (some ⟨w.heap.size, 0, none⟩) 2 2 [97, 98] from ⟨fun _ => ⟨w.heap.size, 0, rfl, lt_of_blk (new_at w _), fun j u hu => cell_of (new_at w _) (by rw [Nat.zero_add]; simpa [ints] using hu)⟩, (by intro x hx; simp at hx; omega), Nat.le_refl _, rfl⟩)
  have HU0 := Lib.hid (up_alloc w (.cells #[.int .u8 97, .int .u8 98] 5 (2, 3)))
  have HU1 := Lib.hid (up_alloc (w.alloc (.cells #[.int .u8 97, .int .u8 98] 5 (2, 3))) (.cells #[.int .u32 263, .int .u32 0, .bool true, .bool false, .slice (some ⟨w.heap.size, 0, none⟩) 2 2] 38))
  have hs1 : (w.alloc (.cells #[.int .u8 97, .int .u8 98] 5 (2, 3))).heap.size = w.heap.size + 1 := by simp
  have H := Lib.hid (show InL ((w.alloc (.cells #[.int .u8 97, .int .u8 98] 5 (2, 3))).alloc (.cells #[.int .u32 263, .int .u32 0, .bool true, .bool false, .slice (some ⟨w.heap.size, 0, none⟩) 2 2] 38)) (some ⟨w.heap.size + 1, 0, none⟩) 1 1 [⟨263, 0, true, false, some ⟨w.heap.size, 0, none⟩, 2, 2, [97, 98]⟩] from by
    have := avCells (w.alloc (.cells #[.int .u8 97, .int .u8 98] 5 (2, 3))) ⟨263, 0, true, false, some ⟨w.heap.size, 0, none⟩, 2, 2, [97, 98]⟩
    rw [hs1] at this
    exact ⟨this, (fun x hx => by rw [List.mem_singleton] at hx; subst hx; exact ⟨HB.out.up HU1.out, ⟨⟨by show (0 : Int) ≤ 263; omega, by show (263 : Int) < 4294967296; omega⟩, ⟨by show (0 : Int) ≤ 0; omega, by show (0 : Int) < 4294967296; omega⟩, HB.out.byt⟩, by show 2 ≤ 140737488351232; omega⟩), Nat.le_refl _, rfl⟩)
  clear hs1
  have cv := Lib.run_convert_bytes_const (P := Try.prog) w 23 5 #[.int .u8 97, .int .u8 98] 2 2 Try.underlying23 Try.underlying5
  go_enter Try.func11, Try.ntmps11
  go_wp2_with fail
  refine (put_any' (some ⟨w.heap.size + 1, 0, none⟩) 1 1 [⟨263, 0, true, false, some ⟨w.heap.size, 0, none⟩, 2, 2, [97, 98]⟩] _ H.out (by omega)).mono ?_
  rintro e w1 ⟨ys, k, A, N, c, rfl, hr, hN, hO, hu⟩
  have hk : k = 0 ∧ ys = [0, 0, 1, 7, 64, 0, 0, 10, 97, 98, 0, 0] := by
    have e1 : encAs (List.map AvB.pure [⟨263, 0, true, false, some ⟨w.heap.size, 0, none⟩, 2, 2, [97, 98]⟩]) = [0, 0, 1, 7, 64, 0, 0, 10, 97, 98, 0, 0] := enc263
    rcases hr.out with ⟨h1, h2, -⟩ | ⟨-, -, h3⟩
    · exact ⟨h1, by rw [h2, e1]⟩
    · exact absurd ⟨by simp, by rw [e1]; simp⟩ h3
  obtain ⟨rfl, rfl⟩ := hk
  have hcv := conv_up (own_inB hO.out (by intro x hx; simp at hx; omega)) (Up.refl w1)
  rw [str263] at hcv
  clear hr
  go_wp2_with fail
  go_ret
  exact ⟨rfl, Lib.hid (Up.trans (Up.trans HU0.out HU1.out) hu.out)⟩
theorem putRes_take {l : List Av.Avp} {ys : List Int} {k : Int} (h : PutRes (l.take 200) ys k) : PutRes l ys k := by
  by_cases hl : l.length ≤ 200
  · rwa [List.take_of_length_le hl] at h
  · rcases h with ⟨h1, h2, h3, h4⟩ | ⟨h1, h2, h3⟩
    · rw [List.length_take] at h3; omega
    · exact .inr ⟨h1, h2, fun h => by omega⟩
set_option maxRecDepth 100000 in
set_option maxHeartbeats 2000000 in
theorem law_puts (A : Option Addr) (n cap : Nat) (l : List AvB) (w : World) (h : InL w A n cap l) (hn : n ≤ 140737488351232) : Calls Try.prog 3 #[.slice A n cap] w (RetB true w) := by
  have H := Lib.hid h
  have HBL := Lib.hid h.ok
  clear h
  go_enter Try.func3, Try.ntmps3
  go_wp2_with fail
  refine (own_any A n cap l w H.out hn).mono ?_
  rintro e w1 ⟨A1, n1, c1, out, rfl, hL, hE, hn1, hu1⟩
  have hn2 : n1 ≤ 140737488351232 := by have := hn1.out; omega
  go_wp2_with fail
  refine (put_any' A1 n1 c1 out w1 hL.out.inL hn2).mono ?_
  rintro e w2 ⟨ys, k, A2, n2, c2, rfl, hr, hN2, hO2, hu2⟩
  have HR := Lib.hid (show PutRes (l.map AvB.pure) ys k from putRes_take (by have := hr.out; rwa [hE.out] at this))
  have U2 := Lib.hid (hu1.out.trans hu2.out)
  have HI2 := Lib.hid (own_inB hO2.out (HR.out.byt HBL.out))
  clear hr hL hE hn1 hO2
  go_wp2_with fail
  refine (rput_any' A n cap l w2 (H.out.up U2.out) hn).mono ?_
  rintro e w3 ⟨zs, k', A3, n3, c3, rfl, hr, hN3, hO3, hu3⟩
  obtain ⟨rfl, rfl⟩ := putRes_inj HR.out hr.out
  have U3 := Lib.hid (U2.out.trans hu3.out)
  have HI3 := Lib.hid (own_inB hO3.out (HR.out.byt HBL.out))
  have HI2' := Lib.hid (HI2.out.up hu3.out)
  clear hr hO3 hu3 hu2 hu1 HI2
  go_wp2_with fail
  refine (answers_ok w3).mono ?_
  rintro e w4 ⟨rfl, hu4⟩
  have U4 := Lib.hid (U3.out.trans hu4.out)
  have h1 := conv_up HI2'.out hu4.out
  have h2 := conv_up HI3.out hu4.out
  go_wp2_with fail
  go_ret
  exact ⟨rfl, U4⟩
set_option maxRecDepth 100000 in
set_option maxHeartbeats 2000000 in
theorem law_gets (A : Option Addr) (m c : Nat) (xs : List Int) (w : World) (h : InB w A m c xs) (hm : m ≤ 140737488351232) : Calls Try.prog 4 #[.slice A m c] w (RetB true w) := by
  have H := Lib.hid h
  clear h
  go_enter Try.func4, Try.ntmps4
  go_wp2_with (at_builtin; refine wpList_appendI rfl (.tmp 10) (.tmp 11) 23 rfl .u8 w.heap.size 5 1 Try.underlying23 info5 (some ⟨w.heap.size, 0, none⟩) 0 0 [] rfl (ownI_new _ _ _) A m c xs rfl H.out.len (H.out.cells.alloc _) (by omega) (by omega) (by simp) ((Below.refl _ _).alloc (Nat.le_refl _) _) ?_; intro A1 N1 c1 w1 HN1 HW1 HB1 hsz1)
  have HO1 : Hid (OwnI .u8 5 w.heap.size w1 A1 N1 c1 xs) := by have := HW1.out; rw [List.nil_append] at this; exact this
  have U1 := Lib.hid (show Up w w1 from HB1.out)
  have hN1 : N1 ≤ 140737488355328 := by have := HN1.out; omega
  clear HW1 HB1 hsz1
  refine (get_any' A1 N1 c1 xs w1 (own_inB HO1.out H.out.byt) hN1).mono ?_
  rintro e w2 ⟨l, p, k, A2, n2, c2, rfl, hr2, hL2, hn2, hu2⟩
  have U2 := Lib.hid (U1.out.trans hu2.out)
  clear HO1 hN1
  go_wp2_with fail
  refine (rget_any' A m c xs w2 (H.out.up U2.out) (by omega)).mono ?_
  rintro e w3 ⟨l', p', k', A3, n3, c3, rfl, hr3, hL3, hn3, hu3⟩
  have he := getRes_inj hr2.out hr3.out
  injection he with he1 he2
  injection he2 with he2 he3
  subst he2 he3
  have HE := Lib.hid he1
  have U3 := Lib.hid (U2.out.trans hu3.out)
  have HL2 := Lib.hid (hL2.out.up hu3.out)
  clear he1 hr2 hr3 hL2 hu2 hu3
  go_wp2_with fail
  refine (answers_ok w3).mono ?_
  rintro e w4 ⟨rfl, hu4⟩
  have U4 := Lib.hid (U3.out.trans hu4.out)
  have hb2 : n2 ≤ 140737488351232 := by have := hn2.out; omega
  have hb3 : n3 ≤ 140737488351232 := by have := hn3.out; omega
  go_wp2_with fail
  refine (sameAll_any A2 A3 n2 c2 n3 c3 l l' w4 (HL2.out.inL.up hu4.out) (hL3.out.inL.up hu4.out) hb2 hb3).mono ?_
  rw [decide_eq_true HE.out]
  rintro e w5 ⟨rfl, hu5⟩
  have U5 := Lib.hid (U4.out.trans hu5.out)
  go_wp2_with fail
  go_ret
  exact ⟨rfl, U5⟩
end Go.Proofs.Ytiagapibfdpfdaa
