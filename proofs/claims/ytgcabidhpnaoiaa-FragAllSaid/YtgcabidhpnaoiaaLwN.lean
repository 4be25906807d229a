import Derived.Test.YtgcabidhpnaoiaaBx7
import Derived.Test.YtgcabidhpnaoiaaFgN
import Derived.Test.YtgcabidhpnaoiaaPg5
import Derived.BigRegion
namespace Go.Proofs.Ytgcabidhpnaoiaa
open Go Go.RowKit Go.Shelf Fg
set_option linter.unusedVariables false
set_option linter.unusedSimpArgs false
/-! FragNil. -/
namespace Fg
theorem BX.base {base base' : Nat} {w : World} {b : Nat} {q1 q2 q3 : Option Nat} {nx : Nat → Nat} (h : BX base w b q1 q2 q3 [] [] nx) : BX base' w b q1 q2 q3 [] [] nx := ⟨h.top, h.maps, by simp, by simp⟩
/-- A block of bytes. -/
theorem inB_blk {w : World} {g T : Nat} {xs : List Int} {f : Nat × Nat} (h : w.heap[g]? = some (.cells (xs.map (Value.int .u8)).toArray T f)) (hb : Byt xs) : InB w (some ⟨g, 0, none⟩) xs.length xs.length xs :=
  ⟨fun _ => ⟨g, 0, rfl, lt_of_blk h, fun j u hu => by rw [Nat.zero_add]; exact cell_of h (by simpa [ints] using hu)⟩, hb, Nat.le_refl _, rfl⟩
end Fg
set_option maxRecDepth 100000 in
set_option maxHeartbeats 4000000 in
theorem law_nil (st n c ch : Nat) (A : Option Addr) (bs : List Int) (w : World) (hA : InB w A n c bs) (hn : n ≤ 140737488351232) (hch : ch < 256) :
    Calls Try.prog 8 #[.agg #[.int .u16 (st : Int), .slice A n c], .int .u8 (ch : Int)] w (RetB true w) := by
  have hu0 := up_alloc w (.cells #[.int .u16 (st : Int), .slice A n c] 32)
  have hm0 := new_at w (.cells #[.int .u16 (st : Int), .slice A n c] 32)
  have HA := Lib.hid hA
  have HU0 := Lib.hid hu0
  have HM0 := Lib.hid hm0
  clear hA hu0 hm0
  go_enter Try.func8, Try.ntmps8
  go_upto_region 1 with (fail)
  generalize w.alloc (.cells #[.int .u16 (st : Int), .slice A n c] 32) = W0 at HU0 HM0 ⊢
  have h0W : w.heap.size < W0.heap.size := lt_of_blk HM0.out
  generalize hq : w.heap.size = q at HM0 h0W ⊢
  have k0 : W0.cell? ⟨q, 0, none⟩ = some (.int .u16 (st : Int)) := cell_of HM0.out rfl
  have k1 : W0.cell? ⟨q, 1, none⟩ = some (.slice A n c) := cell_of HM0.out rfl
  have HA0 := Lib.hid (HA.out.up HU0.out)
  go_wp2_with fail
  refine (own_any st n c A bs W0 HA0.out hn).mono ?_
  rintro e w1 ⟨A1, c1, rfl, HO1, HU1⟩
  go_wp2_with fail
  refine (cut_nil undef st n c1 A1 false 5 w1).mono ?_
  rintro e w2 ⟨rfl, HU2⟩
  go_upto_region 4 with (fail)
  go_wp2_with fail
  refine (put_nil undef 0 0 0 1 1 false false false _ _).mono ?_
  rintro e w3 ⟨rfl, HU3⟩
  have HU3' : Hid (Up w w3) := Lib.hid (HU0.out.trans ((HU1.out.trans (HU2.out.trans (up_alloc _ _))).trans HU3.out))
  clear HU0 HU1 HU2 HU3 HO1 HA0 HM0 k0 k1
  go_wp2_with fail
  refine (newbox_any 0 w3).mono ?_
  rintro e w4 ⟨rfl, HB4, HU4⟩
  have hb4 := lt_of_blk HB4.out.top
  have hbw : w.heap.size ≤ w3.heap.size := HU3'.out.size
  generalize w3.heap.size = b at HB4 hb4 hbw ⊢
  go_wp2_with fail
  refine (answers_ok w4).mono ?_
  rintro e w5 ⟨rfl, HU5⟩
  go_wp2_with fail
  refine (held_nil w5).mono ?_
  rintro e w5' ⟨rfl, rfl⟩
  go_upto_region 9 with (fail)
  have HI6 := Lib.hid (new_at w5' (.cells #[.int .u8 (ch : Int), .int .u8 (ch : Int)] 5))
  have HU6 := Lib.hid (up_alloc w5' (.cells #[.int .u8 (ch : Int), .int .u8 (ch : Int)] 5))
  generalize w5'.alloc (.cells #[.int .u8 (ch : Int), .int .u8 (ch : Int)] 5) = w6 at HI6 HU6 ⊢
  have HB6 := Lib.hid ((HB4.out.up HU5.out).up HU6.out)
  have HUU : Hid (Up w w6) := Lib.hid (HU3'.out.trans (HU4.out.trans (HU5.out.trans HU6.out)))
  have hg6 : w5'.heap.size < w6.heap.size := lt_of_blk HI6.out
  have hg0 : w.heap.size ≤ w5'.heap.size := (HU3'.out.trans (HU4.out.trans HU5.out)).size
  have hbg : b < w5'.heap.size := lt_of_blk (HB4.out.up HU5.out).top
  clear HU3' HB4 HU4 HU5 HU6
  generalize w5'.heap.size = g at HI6 hg6 hg0 hbg ⊢
  have hbyt : Byt [(ch : Int), (ch : Int)] := by intro x hx; simp at hx; omega
  have HIN := Lib.hid (inB_blk (xs := [(ch : Int), (ch : Int)]) HI6.out hbyt)
  go_wp2_with fail
  refine (put_any w6.heap.size b 1 0 0 2 2 true false false (some ⟨g, 0, none⟩) [(ch : Int), (ch : Int)] none none none [] [] (fun _ => 0) w6 (BX.base HB6.out) HIN.out (by omega) (by omega) (by omega) (by omega) (by intro s; omega) (by simp) (Nat.le_refl _)).mono ?_
  rintro e w7 ⟨r7, A7, N7, c7, ms7, p1, p2, p3, l7, m7, nx7, rfl, HP7⟩
  have I7 := Lib.hid (HP7.out.out.blk HI6.out (HB6.out.offC HI6.out (by decide)))
  have HSZ7 := Lib.hid HP7.out.out.size
  have HO7 : Hid (Out (fun k => k = b) w6 w7) := Lib.hid (HP7.out.out.mono (fun k hk => by
    rcases hk with h | h | h | h
    · exact h
    all_goals cases h))
  have k0 : w7.cell? ⟨g, 0, none⟩ = some (.int .u8 (ch : Int)) := cell_of I7.out rfl
  have f0 : w7.frozen? ⟨g, 0, none⟩ = false := frozen_at I7.out
  go_upto_region 11 with (fail)
  have O8 := Lib.hid (setCell_out w7 g 0 (.int .u8 (((ch : Int) + 1) % 256)))
  have HB8 := Lib.hid (HP7.out.bx.out O8.out (fun k hk e => HP7.out.bx.offC I7.out (by decide) (by rw [← e]; exact hk)) (fun k hk _ e => by omega))
  clear k0 f0
  generalize w7.setCell ⟨g, 0, none⟩ (.int .u8 (((ch : Int) + 1) % 256)) = w8 at O8 HB8 ⊢
  have hs8 := O8.out.size
  have HS7 := HSZ7.out
  have HB9 := Lib.hid (HB8.out.up (up_alloc w8 (.cells #[.int .u8 9] 5)))
  have HI9 := Lib.hid (inB_blk (xs := [9]) (new_at w8 (.cells #[.int .u8 9] 5)) (by intro x hx; simp at hx; omega))
  have hs9 : w8.heap.size < (w8.alloc (.cells #[.int .u8 9] 5)).heap.size := lt_of_blk (new_at w8 _)
  have HL7 := Lib.hid HP7.out.le
  have HT7 := Lib.hid HP7.out.lt
  go_wp2_with fail
  refine (put_any w6.heap.size b 2 0 0 1 1 false true false (some ⟨w8.heap.size, 0, none⟩) [9] p1 p2 p3 l7 m7 nx7 (w8.alloc (.cells #[.int .u8 9] 5)) HB9.out HI9.out (by omega) (by omega) (by omega) (by omega) HT7.out (by have := HL7.out; simp at this; omega) (by omega)).mono ?_
  rintro e w10 ⟨r10, A10, N10, c10, ms10, s1, s2, s3, l10, m10, nx10, rfl, HP10⟩
  obtain ⟨h1, h2, h3, rfl, h5⟩ := nil_both (c := (ch : Int)) HP7.out.put HP10.out.put
  obtain ⟨z, rfl, hz⟩ : ∃ z, ms10 = [z] ∧ z.m = (0, [(ch : Int), (ch : Int), 9]) := by
    cases ms10 with
    | nil => simp at h5
    | cons z l =>
      cases l with
      | nil => simp at h5; exact ⟨z, rfl, h5⟩
      | cons _ _ => simp at h5
  have hN10 : N10 = 1 := HP10.out.len
  subst hN10
  obtain ⟨g10, rfl⟩ := row_at HP10.out.row (by omega)
  have HR10 := Lib.hid (row_cells HP10.out.row)
  have k1 : w10.cell? ⟨g10, 1, none⟩ = some (.slice z.A 3 z.c) := by
    have := row_cell HP10.out.row (j := 1) (v := .slice z.A z.m.2.length z.c) rfl
    rw [this, hz]; rfl
  have HZB : Hid (InB w10 z.A 3 z.c [(ch : Int), (ch : Int), 9]) := Lib.hid (by
    obtain ⟨h6, h7, _⟩ := HP10.out.by_ z (by simp)
    rw [hz] at h6 h7
    exact own_inB h6 h7)
  have hsub7 := HP7.out.sub
  have hO10 := HP10.out.out
  have HFIN : Hid (Up w w10) := Lib.hid (by
    have u7 : Up w w7 := Below.out HUU.out HO7.out (fun k hk => by rw [hk]; exact hbw) HUU.out.size
    have u8 : Up w w8 := Below.out u7 O8.out (fun k hk => by rw [hk]; exact hg0) u7.size
    have u9 : Up w (w8.alloc (.cells #[.int .u8 9] 5)) := u8.trans (up_alloc w8 _)
    exact Below.out u9 hO10 (fun k hk => by
      rcases hsub7 k hk with h | h
      · rcases h with h | h | h | h
        · rw [h]; exact hbw
        all_goals cases h
      · have := HUU.out.size; omega) u9.size)
  clear h1 h2 h3 h5 hz hsub7 hO10
  have NB := Lib.hid (inB_blk (xs := [(ch : Int), (ch : Int), 9]) (new_at w10 (.cells #[.int .u8 (ch : Int), .int .u8 (ch : Int), .int .u8 9] 5)) HZB.out.byt)
  have NU := Lib.hid (up_alloc w10 (.cells #[.int .u8 (ch : Int), .int .u8 (ch : Int), .int .u8 9] 5))
  have hes : ((strOfNums [(ch : Int), (ch : Int), 9]).toList == (strOfNums [(ch : Int), (ch : Int), 9]).toList) = true := by simp
  have v1 : (convert 30 9 (.slice z.A 3 z.c)).run Try.prog w10.drew = .ok (.string (strOfNums [(ch : Int), (ch : Int), 9])) w10.drew := conv_up HZB.out (Up.drew w10)
  have v2 : (convert 30 9 (.slice z.A 3 z.c)).run Try.prog (w10.alloc (.cells #[.int .u8 (ch : Int), .int .u8 (ch : Int), .int .u8 9] 5)).drew = .ok (.string (strOfNums [(ch : Int), (ch : Int), 9])) (w10.alloc (.cells #[.int .u8 (ch : Int), .int .u8 (ch : Int), .int .u8 9] 5)).drew := conv_up HZB.out (NU.out.trans (Up.drew _))
  have v3 : (convert 30 9 (.slice (some ⟨w10.heap.size, 0, none⟩) 3 3)).run Try.prog (w10.alloc (.cells #[.int .u8 (ch : Int), .int .u8 (ch : Int), .int .u8 9] 5)).drew = .ok (.string (strOfNums [(ch : Int), (ch : Int), 9])) (w10.alloc (.cells #[.int .u8 (ch : Int), .int .u8 (ch : Int), .int .u8 9] 5)).drew := conv_up NB.out (Up.drew _)
  have k1' : (w10.alloc (.cells #[.int .u8 (ch : Int), .int .u8 (ch : Int), .int .u8 9] 5)).drew.cell? ⟨g10, 1, none⟩ = some (.slice z.A 3 z.c) := cell_up k1 (NU.out.trans (Up.drew _))
  go_upto_region 12 with (fail)
  go_region
  all_goals
    go_wp2_with fail
    go_ret
    exact ⟨by simp, Lib.hid (HFIN.out.trans (NU.out.trans (Up.drew _)))⟩
end Go.Proofs.Ytgcabidhpnaoiaa
