import Derived.Test.YthncpkjnalmpkaaAvP1
namespace Go.Proofs.Ythncpkjnalmpkaa
open Go Go.RowKit
set_option linter.unusedVariables false
set_option linter.unusedSimpArgs false
/-! The program's whole. -/
theorem be_one (n : Int) : be n 1 = [n % 256] := by simp [be]
theorem padL_head {h bs : List Int} (hh : h.length % 4 = 0) : padL (h ++ bs) = h ++ (bs ++ List.replicate (padN (h.length + bs.length)) 0) := by
  unfold padL
  rw [List.length_append, List.append_assoc]
theorem encA_padL (a : Av.Avp) : encA a = padL (be a.code 4 ++ be (avFl a) 1 ++ be (avLen a : Int) 3 ++ avVen a.vendor ++ a.bs) := by
  have hf := avFl_bd a
  have hv := avVen_length a.vendor
  have hh : avHead a.vendor % 4 = 0 := by unfold avHead; split <;> rfl
  rw [padL_head (by simp [be_length]; omega), be_one]
  have e : avFl a % 256 = avFl a + 0 := by omega
  have e2 : (be a.code 4 ++ [avFl a + 0] ++ be (avLen a : Int) 3 ++ avVen a.vendor).length + a.bs.length = avLen a := by
    simp [be_length]; unfold avLen; omega
  rw [e, e2]
  unfold encA encX
  simp
theorem whole_eq0 {a : Av.Avp} (hv : a.vendor = 0) : encA a = padL (be a.code 4 ++ be (avFl a) 1 ++ be (avLen a : Int) 3 ++ a.bs) := by
  rw [encA_padL]; unfold avVen; rw [if_pos hv]; simp
theorem whole_eq1 {a : Av.Avp} (hv : a.vendor ≠ 0) : encA a = padL (be a.code 4 ++ be (avFl a) 1 ++ be (avLen a : Int) 3 ++ be a.vendor 4 ++ a.bs) := by
  rw [encA_padL]; unfold avVen; rw [if_neg hv]
theorem Byt.be {xs : List Int} (h : Byt xs) (n : Int) (s : Nat) : Byt (xs ++ Go.Proofs.Ythncpkjnalmpkaa.be n s) := h.append (be_byt n s)
theorem OwnI.base {k : IntKind} {E : TypeId} {B B' : Nat} {w : World} {A : Option Addr} {N c : Nat} {xs : List Int} (h : OwnI k E B w A N c xs) (hb : B' ≤ B) : OwnI k E B' w A N c xs := by
  refine ⟨h.1, ?_⟩
  rcases h.2 with h2 | ⟨g, cap, cur, h1, h2, h3⟩
  · exact .inl h2
  · exact .inr ⟨g, cap, cur, h1, Nat.le_trans hb h2, h3⟩
theorem blk_up {w w' : World} {b : Nat} {o : Obj} (h : w.heap[b]? = some o) (hu : Up w w') : w'.heap[b]? = some o := (hu.block _ (lt_of_blk h)).trans h
set_option maxRecDepth 100000 in
set_option maxHeartbeats 2000000 in
theorem whole_0 (c v : Int) (m p : Bool) (A : Option Addr) (n k : Nat) (bs : List Int) (F : Int) (N : Nat) (w : World) (hin : InB w A n k bs) (hn : n ≤ 4096) (hc : 0 ≤ c ∧ c < 4294967296) (hv : 0 ≤ v ∧ v < 4294967296) (hv0 : v = 0) (hF : 0 ≤ F ∧ F < 256) (hN : N ≤ 4200)
    (HF : ∀ wx, Calls Try.prog 64 #[.agg #[.int .u32 c, .int .u32 v, .bool m, .bool p, .slice A n k]] wx fun e w' => e = .returned (.int .u8 F) ∧ Up wx w')
    (HL : ∀ wx, Calls Try.prog 49 #[.agg #[.int .u32 c, .int .u32 v, .bool m, .bool p, .slice A n k]] wx fun e w' => e = .returned (.int .i64 (N : Int)) ∧ Up wx w') :
    Calls Try.prog 50 #[.agg #[.int .u32 c, .int .u32 v, .bool m, .bool p, .slice A n k]] w (OwnB (padL (be c 4 ++ be F 1 ++ be (N : Int) 3 ++ bs)) w) := by
  generalize hq : padL (be c 4 ++ be F 1 ++ be (N : Int) 3 ++ bs) = Q
  have HQ := Lib.hid hq
  clear hq
  have HI := Lib.hid hin
  have HF := Lib.hid HF
  have HL := Lib.hid HL
  have c0 := hc.1
  have c1 := hc.2
  have v0 := hv.1
  have v1 := hv.2
  have f0 := hF.1
  have f1 := hF.2
  have n0 : (0 : Int) ≤ (N : Int) := by omega
  have n1 : (N : Int) ≤ 4200 := by omega
  have HB := Lib.hid hin.byt
  clear hin hc hv hF
  subst hv0
  have HU := Lib.hid (up_alloc w (.cells #[.int .u32 c, .int .u32 0, .bool m, .bool p, .slice A n k] 56))
  have HC := Lib.hid (new_at w (.cells #[.int .u32 c, .int .u32 0, .bool m, .bool p, .slice A n k] 56))
  go_enter Try.func50, Try.ntmps50
  go_upto_region 1 with (fail)
  generalize w.alloc _ = w1 at HC HU ⊢
  generalize w.heap.size = pb at HC ⊢
  have z0 := cell_of HC.out (j := 0) rfl
  go_wp2_with fail
  refine (put_any none 0 0 4 [] c w1 (inB_nil _) (by omega) (by omega) (by omega)).mono ?_
  rintro e w2 ⟨A1, N1, k1, rfl, hN1, hO1, hu1⟩
  have HC2 := Lib.hid (blk_up HC.out hu1)
  have U2 := Lib.hid (HU.out.trans hu1)
  have HN1 := Lib.hid (show N1 = 4 by rw [hN1]; simp [be_length])
  have I1 := Lib.hid (own_inB hO1 (byt_nil.be c 4))
  clear hN1 hO1 hu1 HC z0
  obtain rfl := HN1.out
  have y0 := cell_of HC2.out (j := 0) rfl
  have y1 := cell_of HC2.out (j := 1) rfl
  have y2 := cell_of HC2.out (j := 2) rfl
  have y3 := cell_of HC2.out (j := 3) rfl
  have y4 := cell_of HC2.out (j := 4) rfl
  go_wp2_with fail
  refine (HF.out w2).mono ?_
  rintro e w3 ⟨rfl, hu3⟩
  have HC3 := Lib.hid (blk_up HC2.out hu3)
  have U3 := Lib.hid (U2.out.trans hu3)
  have I3 := Lib.hid (I1.out.up hu3)
  clear HC2 U2 I1 hu3 y0 y1 y2 y3 y4
  go_wp2_with fail
  refine (put_any A1 4 k1 1 _ F w3 I3.out (by omega) (by omega) (by omega)).mono ?_
  rintro e w4 ⟨A4, N4, k4, rfl, hN4, hO4, hu4⟩
  have HC4 := Lib.hid (blk_up HC3.out hu4)
  have U4 := Lib.hid (U3.out.trans hu4)
  have HN4 := Lib.hid (show N4 = 5 by rw [hN4]; simp [be_length])
  have I4 := Lib.hid (own_inB hO4 ((byt_nil.be c 4).be F 1))
  clear hN4 hO4 hu4 HC3 U3 I3
  obtain rfl := HN4.out
  have y0 := cell_of HC4.out (j := 0) rfl
  have y1 := cell_of HC4.out (j := 1) rfl
  have y2 := cell_of HC4.out (j := 2) rfl
  have y3 := cell_of HC4.out (j := 3) rfl
  have y4 := cell_of HC4.out (j := 4) rfl
  go_wp2_with fail
  refine (HL.out w4).mono ?_
  rintro e w5 ⟨rfl, hu5⟩
  have HC5 := Lib.hid (blk_up HC4.out hu5)
  have U5 := Lib.hid (U4.out.trans hu5)
  have I5 := Lib.hid (I4.out.up hu5)
  clear HC4 U4 I4 hu5 y0 y1 y2 y3 y4
  go_wp2_with fail
  refine (put_any A4 5 k4 3 _ (N : Int) w5 I5.out (by omega) (by omega) (by omega)).mono ?_
  rintro e w6 ⟨A6, N6, k6, rfl, hN6, hO6, hu6⟩
  have HC6 := Lib.hid (blk_up HC5.out hu6)
  have U6 := Lib.hid (U5.out.trans hu6)
  have HN6 := Lib.hid (show N6 = 8 by rw [hN6]; simp [be_length])
  have O6 := Lib.hid (hO6.base (B' := w.heap.size) U5.out.size)
  have I6 := Lib.hid (own_inB hO6 (((byt_nil.be c 4).be F 1).be N 3))
  clear hN6 hO6 hu6 HC5 U5 I5
  obtain rfl := HN6.out
  have z1 := cell_of HC6.out (j := 1) rfl
  have z4 := cell_of HC6.out (j := 4) rfl
  have BY := Lib.hid (((byt_nil.be c 4).be F 1).be N 3)
  have I8 := Lib.hid (HI.out.up U6.out)
  have SZ := Lib.hid U6.out.size
  go_wp2_with (at_builtin; refine wpList_appendI rfl (.tmp 26) (.tmp 28) 26 rfl .u8 w.heap.size 5 1 Try.underlying26 info5 A6 8 k6 _ rfl O6.out A n k bs rfl I8.out.len I8.out.cells (by omega) (by omega) SZ.out U6.out ?_; intro A9 N9 k9 w9 HN9 HW9 HB9 hsz9)
  have HN9' := Lib.hid (show N9 ≤ 4200 by have := HN9.out; omega)
  have I9 := Lib.hid (own_inB HW9.out (BY.out.append HB.out))
  go_wp2_with fail
  refine (padded_any A9 N9 k9 _ w9 I9.out (by have := HN9'.out; omega)).mono ?_
  rintro e w10 ⟨A10, N10, k10, rfl, hN10, hO10, hu10⟩
  go_wp2_with fail
  go_ret
  simp only [List.nil_append] at hN10 hO10
  rw [HQ.out] at hN10 hO10
  exact ⟨A10, N10, k10, rfl, hN10, Lib.hid (hO10.out.base hsz9), Lib.hid ((show Up w w9 from HB9.out).trans hu10.out)⟩
set_option maxRecDepth 100000 in
set_option maxHeartbeats 2000000 in
theorem whole_1 (c v : Int) (m p : Bool) (A : Option Addr) (n k : Nat) (bs : List Int) (F : Int) (N : Nat) (w : World) (hin : InB w A n k bs) (hn : n ≤ 4096) (hc : 0 ≤ c ∧ c < 4294967296) (hv : 0 ≤ v ∧ v < 4294967296) (hv0 : v ≠ 0) (hF : 0 ≤ F ∧ F < 256) (hN : N ≤ 4200)
    (HF : ∀ wx, Calls Try.prog 64 #[.agg #[.int .u32 c, .int .u32 v, .bool m, .bool p, .slice A n k]] wx fun e w' => e = .returned (.int .u8 F) ∧ Up wx w')
    (HL : ∀ wx, Calls Try.prog 49 #[.agg #[.int .u32 c, .int .u32 v, .bool m, .bool p, .slice A n k]] wx fun e w' => e = .returned (.int .i64 (N : Int)) ∧ Up wx w') :
    Calls Try.prog 50 #[.agg #[.int .u32 c, .int .u32 v, .bool m, .bool p, .slice A n k]] w (OwnB (padL (be c 4 ++ be F 1 ++ be (N : Int) 3 ++ be v 4 ++ bs)) w) := by
  generalize hq : padL (be c 4 ++ be F 1 ++ be (N : Int) 3 ++ be v 4 ++ bs) = Q
  have HQ := Lib.hid hq
  clear hq
  have HI := Lib.hid hin
  have HF := Lib.hid HF
  have HL := Lib.hid HL
  have c0 := hc.1
  have c1 := hc.2
  have v0 := hv.1
  have v1 := hv.2
  have f0 := hF.1
  have f1 := hF.2
  have n0 : (0 : Int) ≤ (N : Int) := by omega
  have n1 : (N : Int) ≤ 4200 := by omega
  have HB := Lib.hid hin.byt
  clear hin hc hv hF
  have d1 : (v != 0) = true := by simp [hv0]
  have HU := Lib.hid (up_alloc w (.cells #[.int .u32 c, .int .u32 v, .bool m, .bool p, .slice A n k] 56))
  have HC := Lib.hid (new_at w (.cells #[.int .u32 c, .int .u32 v, .bool m, .bool p, .slice A n k] 56))
  go_enter Try.func50, Try.ntmps50
  go_upto_region 1 with (fail)
  generalize w.alloc _ = w1 at HC HU ⊢
  generalize w.heap.size = pb at HC ⊢
  have z0 := cell_of HC.out (j := 0) rfl
  go_wp2_with fail
  refine (put_any none 0 0 4 [] c w1 (inB_nil _) (by omega) (by omega) (by omega)).mono ?_
  rintro e w2 ⟨A1, N1, k1, rfl, hN1, hO1, hu1⟩
  have HC2 := Lib.hid (blk_up HC.out hu1)
  have U2 := Lib.hid (HU.out.trans hu1)
  have HN1 := Lib.hid (show N1 = 4 by rw [hN1]; simp [be_length])
  have I1 := Lib.hid (own_inB hO1 (byt_nil.be c 4))
  clear hN1 hO1 hu1 HC z0
  obtain rfl := HN1.out
  have y0 := cell_of HC2.out (j := 0) rfl
  have y1 := cell_of HC2.out (j := 1) rfl
  have y2 := cell_of HC2.out (j := 2) rfl
  have y3 := cell_of HC2.out (j := 3) rfl
  have y4 := cell_of HC2.out (j := 4) rfl
  go_wp2_with fail
  refine (HF.out w2).mono ?_
  rintro e w3 ⟨rfl, hu3⟩
  have HC3 := Lib.hid (blk_up HC2.out hu3)
  have U3 := Lib.hid (U2.out.trans hu3)
  have I3 := Lib.hid (I1.out.up hu3)
  clear HC2 U2 I1 hu3 y0 y1 y2 y3 y4
  go_wp2_with fail
  refine (put_any A1 4 k1 1 _ F w3 I3.out (by omega) (by omega) (by omega)).mono ?_
  rintro e w4 ⟨A4, N4, k4, rfl, hN4, hO4, hu4⟩
  have HC4 := Lib.hid (blk_up HC3.out hu4)
  have U4 := Lib.hid (U3.out.trans hu4)
  have HN4 := Lib.hid (show N4 = 5 by rw [hN4]; simp [be_length])
  have I4 := Lib.hid (own_inB hO4 ((byt_nil.be c 4).be F 1))
  clear hN4 hO4 hu4 HC3 U3 I3
  obtain rfl := HN4.out
  have y0 := cell_of HC4.out (j := 0) rfl
  have y1 := cell_of HC4.out (j := 1) rfl
  have y2 := cell_of HC4.out (j := 2) rfl
  have y3 := cell_of HC4.out (j := 3) rfl
  have y4 := cell_of HC4.out (j := 4) rfl
  go_wp2_with fail
  refine (HL.out w4).mono ?_
  rintro e w5 ⟨rfl, hu5⟩
  have HC5 := Lib.hid (blk_up HC4.out hu5)
  have U5 := Lib.hid (U4.out.trans hu5)
  have I5 := Lib.hid (I4.out.up hu5)
  clear HC4 U4 I4 hu5 y0 y1 y2 y3 y4
  go_wp2_with fail
  refine (put_any A4 5 k4 3 _ (N : Int) w5 I5.out (by omega) (by omega) (by omega)).mono ?_
  rintro e w6 ⟨A6, N6, k6, rfl, hN6, hO6, hu6⟩
  have HC6 := Lib.hid (blk_up HC5.out hu6)
  have U6 := Lib.hid (U5.out.trans hu6)
  have HN6 := Lib.hid (show N6 = 8 by rw [hN6]; simp [be_length])
  have O6 := Lib.hid (hO6.base (B' := w.heap.size) U5.out.size)
  have I6 := Lib.hid (own_inB hO6 (((byt_nil.be c 4).be F 1).be N 3))
  clear hN6 hO6 hu6 HC5 U5 I5
  obtain rfl := HN6.out
  have z1 := cell_of HC6.out (j := 1) rfl
  have z4 := cell_of HC6.out (j := 4) rfl
  go_wp2_with fail
  refine (put_any A6 8 k6 4 _ v w6 I6.out (by omega) (by omega) (by omega)).mono ?_
  rintro e w7 ⟨A7, N7, k7, rfl, hN7, hO7, hu7⟩
  have HC7 := Lib.hid (blk_up HC6.out hu7)
  have U7 := Lib.hid (U6.out.trans hu7)
  have HN7 := Lib.hid (show N7 = 12 by rw [hN7]; simp [be_length])
  have O7 := Lib.hid (hO7.base (B' := w.heap.size) U6.out.size)
  have BY := Lib.hid ((((byt_nil.be c 4).be F 1).be N 3).be v 4)
  clear hN7 hO7 hu7 HC6 U6 I6 z1 z4 O6
  obtain rfl := HN7.out
  have z4 := cell_of HC7.out (j := 4) rfl
  have I8 := Lib.hid (HI.out.up U7.out)
  have SZ := Lib.hid U7.out.size
  go_wp2_with (at_builtin; refine wpList_appendI rfl (.tmp 26) (.tmp 28) 26 rfl .u8 w.heap.size 5 1 Try.underlying26 info5 A7 12 k7 _ rfl O7.out A n k bs rfl I8.out.len I8.out.cells (by omega) (by omega) SZ.out U7.out ?_; intro A9 N9 k9 w9 HN9 HW9 HB9 hsz9)
  have HN9' := Lib.hid (show N9 ≤ 4200 by have := HN9.out; omega)
  have I9 := Lib.hid (own_inB HW9.out (BY.out.append HB.out))
  go_wp2_with fail
  refine (padded_any A9 N9 k9 _ w9 I9.out (by have := HN9'.out; omega)).mono ?_
  rintro e w10 ⟨A10, N10, k10, rfl, hN10, hO10, hu10⟩
  go_wp2_with fail
  go_ret
  simp only [List.nil_append] at hN10 hO10
  rw [HQ.out] at hN10 hO10
  exact ⟨A10, N10, k10, rfl, hN10, Lib.hid (hO10.out.base hsz9), Lib.hid ((show Up w w9 from HB9.out).trans hu10.out)⟩
theorem whole_any (x : AvB) (w : World) (hx : AvIn w x) (hn : avLen x.pure ≤ 4096) : Calls Try.prog 50 #[avV x] w (OwnB (encA x.pure) w) := by
  have hf := avFl_bd x.pure
  have hl : avLen x.pure = avHead x.vendor + x.bs.length := rfl
  have hlen := hx.inb.len
  by_cases hv : x.vendor = 0
  · rw [whole_eq0 (a := x.pure) hv]
    exact whole_0 x.code x.vendor x.must x.prot x.A x.n x.c x.bs (avFl x.pure) (avLen x.pure) w hx.inb (by omega) hx.ok.code hx.ok.vendor hv (by omega) (by omega) (fun wx => flags_any x wx) (fun wx => length_any x wx hlen hx.n)
  · rw [whole_eq1 (a := x.pure) hv]
    exact whole_1 x.code x.vendor x.must x.prot x.A x.n x.c x.bs (avFl x.pure) (avLen x.pure) w hx.inb (by omega) hx.ok.code hx.ok.vendor hv (by omega) (by omega) (fun wx => flags_any x wx) (fun wx => length_any x wx hlen hx.n)
end Go.Proofs.Ythncpkjnalmpkaa
