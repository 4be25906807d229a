import Derived.Test.YtjdcglioppbfhaaCk44
namespace Go.Proofs.Ytjdcglioppbfhaa
open Go Go.RowKit
set_option linter.unusedVariables false
set_option linter.unusedSimpArgs false
/-! The law PacketBack. -/
/-- A packet that was copied as far as the laws copy it, and fits, was copied whole. -/
theorem fits_take {f t g : Int} {l : List Ck.Chk} (h : Pk.fits ⟨f, t, g, l.take 100⟩) : l.take 100 = l := by
  have := h.2.1
  simp only [List.length_take] at this
  exact List.take_of_length_le (by omega)
theorem pktOk_own {l out : List ChB} {f t g : Int} (h : Pk.PktOk (ChB.pkt l f t g)) : Pk.PktOk (ChB.pkt out f t g) := ⟨h.src, h.dst, h.tag⟩
set_option maxRecDepth 1000000 in
set_option maxHeartbeats 8000000 in
theorem law_back (A : Option Addr) (n cap : Nat) (l : List ChB) (f t g : Int) (B : Option Addr) (m c : Nat) (xs : List Int) (w : World) (h : InL w A n cap l) (hn : n ≤ 140737488351232) (hp : Pk.PktOk (ChB.pkt l f t g)) (hin : InB w B m c xs) (hm : m ≤ 140737488351232) :
    Calls Try.prog 4 #[pkV f t g (.slice A n cap), .slice B m c] w (RetB true w) := by
  have H := Lib.hid h
  have HI := Lib.hid hin
  have HP := Lib.hid hp
  clear h hin hp
  have HN := Lib.hid (new_at w (.cells #[.int .u16 f, .int .u16 t, .int .u32 g, .slice A n cap] 27))
  have HU := Lib.hid (up_alloc w (.cells #[.int .u16 f, .int .u16 t, .int .u32 g, .slice A n cap] 27))
  unfold pkV pkC
  go_enter Try.func4, Try.ntmps4
  go_upto_region 1 with (fail)
  generalize w.alloc (.cells #[.int .u16 f, .int .u16 t, .int .u32 g, .slice A n cap] 27) = wa at HN HU ⊢
  generalize w.heap.size = z at HN ⊢
  have x0 : wa.cell? ⟨z, 0, none⟩ = some (.int .u16 f) := cell_of HN.out rfl
  have x1 : wa.cell? ⟨z, 1, none⟩ = some (.int .u16 t) := cell_of HN.out rfl
  have x2 : wa.cell? ⟨z, 2, none⟩ = some (.int .u32 g) := cell_of HN.out rfl
  have x3 : wa.cell? ⟨z, 3, none⟩ = some (.slice A n cap) := cell_of HN.out rfl
  go_wp2_with fail
  refine (ownp_any A n cap l f t g wa (H.out.up HU.out) hn).mono ?_
  rintro e w1 ⟨A1, n1, c1, out, rfl, hL, hE, hn1, hu1⟩
  have HU1 := Lib.hid (HU.out.trans hu1.out)
  have HN1 := Lib.hid ((hu1.out.block _ (lt_of_blk HN.out)).trans HN.out)
  have hn1' : n1 ≤ 140737488351232 := by have := hn1.out; omega
  clear hu1 x0 x1 x2 x3 HU HN
  go_wp2_with fail
  refine (pput_any A1 n1 c1 out f t g w1 hL.out.inL hn1' (pktOk_own HP.out)).mono ?_
  rintro e w2 ⟨ys, k, A2, N2, c2, rfl, hr, hN2, hO2, hu2⟩
  have HU2 := Lib.hid (HU1.out.trans hu2.out)
  have HNn := Lib.hid ((hu2.out.block _ (lt_of_blk HN1.out)).trans HN1.out)
  clear hu2 HU1 HN1 hL
  go_wp2_with fail
  refine (answers_ok w2).mono ?_
  rintro e w3 ⟨rfl, hu3⟩
  have HU3 := Lib.hid (HU2.out.trans hu3.out)
  have HN3 := Lib.hid ((hu3.out.block _ (lt_of_blk HNn.out)).trans HNn.out)
  have HO3 := Lib.hid (show OwnI .u8 5 w1.heap.size w3 A2 N2 c2 ys from own_up hO2.out hu3.out)
  clear hu3 HU2 HNn hO2
  rcases hr.out with ⟨rfl, rfl, hf⟩ | ⟨hk, rfl, -, -⟩
  · have hpk : ChB.pkt out f t g = ChB.pkt l f t g := by
      have h1 : ChB.pkt out f t g = ⟨f, t, g, (l.map ChB.pure).take 100⟩ := by unfold ChB.pkt; rw [hE.out]
      rw [h1] at hf
      rw [h1, fits_take hf]; rfl
    rw [hpk] at hf HO3 hN2
    have HF := Lib.hid hf
    have HBY := Lib.hid (show Byt (Pk.enc (ChB.pkt l f t g)) from by
      unfold Pk.enc
      exact byt_sealP (by rw [raw_cut]; exact (((be_byt _ _).append (be_byt _ _)).append (be_byt _ _)).append ((be_byt _ _).append (byt_encL (inL_bytL H.out)))))
    have HIC := Lib.hid (own_inB HO3.out HBY.out)
    have hn2' : N2 ≤ 140737488351232 := by have := hN2.out; rw [enc_length] at this; have := HF.out.2.2; omega
    clear hr hf HO3 hpk HBY hN2
    go_wp2_with fail
    refine (pget_any A2 N2 c2 w3 HIC.out hn2').mono ?_
    rintro e w4 ⟨p, k', A4, n4, c4, l4, rfl, hr4, hL4, hE4, hn4, hok4, hu4⟩
    obtain ⟨rfl, rfl⟩ := pg_enc HP.out HF.out hr4.out
    have HU4 := Lib.hid (HU3.out.trans hu4.out)
    have HN4 := Lib.hid ((hu4.out.block _ (lt_of_blk HN3.out)).trans HN3.out)
    have hn4' : n4 ≤ 140737488351232 := by have := hn4.out; omega
    have HEQ := Lib.hid (show samePB (ChB.pkt l f t g) (ChB.pkt l4 f t g) = true from samePB_eq (by unfold ChB.pkt; rw [hE4.out]; rfl))
    clear hu4 hr4 HIC hok4
    show _
    unfold pkV pkC ChB.pkt
    simp only
    go_upto_region 6 with (fail)
    have HB5 := Lib.hid (new_at w4 (.cells #[.int .u16 f, .int .u16 t, .int .u32 g, .slice A4 n4 c4] 27))
    have HUa := Lib.hid (up_alloc w4 (.cells #[.int .u16 f, .int .u16 t, .int .u32 g, .slice A4 n4 c4] 27))
    generalize w4.alloc (.cells #[.int .u16 f, .int .u16 t, .int .u32 g, .slice A4 n4 c4] 27) = w5 at HB5 HUa ⊢
    generalize w4.heap.size = z5 at HB5 ⊢
    have HU5 := Lib.hid (HU4.out.trans HUa.out)
    have HN5 := Lib.hid ((HUa.out.block _ (lt_of_blk HN4.out)).trans HN4.out)
    have HL5 := Lib.hid (hL4.out.up HUa.out)
    clear HUa HU4 HN4 hL4
    have x0 : w5.cell? ⟨z, 0, none⟩ = some (.int .u16 f) := cell_of HN5.out rfl
    have x1 : w5.cell? ⟨z, 1, none⟩ = some (.int .u16 t) := cell_of HN5.out rfl
    have x2 : w5.cell? ⟨z, 2, none⟩ = some (.int .u32 g) := cell_of HN5.out rfl
    have x3 : w5.cell? ⟨z, 3, none⟩ = some (.slice A n cap) := cell_of HN5.out rfl
    have y0 : w5.cell? ⟨z5, 0, none⟩ = some (.int .u16 f) := cell_of HB5.out rfl
    have y1 : w5.cell? ⟨z5, 1, none⟩ = some (.int .u16 t) := cell_of HB5.out rfl
    have y2 : w5.cell? ⟨z5, 2, none⟩ = some (.int .u32 g) := cell_of HB5.out rfl
    have y3 : w5.cell? ⟨z5, 3, none⟩ = some (.slice A4 n4 c4) := cell_of HB5.out rfl
    go_wp2_with fail
    refine (samePk l l4 A A4 n cap n4 c4 f t g f t g w5 (H.out.up HU5.out) HL5.out.inL hn hn4').mono ?_
    rintro e wb ⟨rfl, hub⟩
    rw [HEQ.out]
    have HUb := Lib.hid (HU5.out.trans hub.out)
    clear x0 x1 x2 x3 y0 y1 y2 y3 hub HU5 HN5 HL5 HB5
    go_wp2_with (at_builtin; refine wpList_appendI rfl (.tmp 37) (.tmp 38) 22 rfl .u8 wb.heap.size 5 1 Try.underlying22 info5 (some ⟨wb.heap.size, 0, none⟩) 0 0 [] rfl (ownI_new _ _ _) B m c xs rfl HI.out.len ((HI.out.up HUb.out).cells.alloc _) (by omega) (by omega) (by simp) ((Below.refl _ _).alloc (Nat.le_refl _) _) ?_; intro A6 N6 c6 w6 HN6 HW6 HB6 hsz6)
    have HO6 := Lib.hid (show OwnI .u8 5 wb.heap.size w6 A6 N6 c6 xs by have := HW6.out; rw [List.nil_append] at this; exact this)
    have U6 := Lib.hid (HUb.out.trans HB6.out)
    have HI6 := Lib.hid (own_inB HO6.out HI.out.byt)
    have hN6 : N6 ≤ 140737488351232 := by have := HN6.out; omega
    clear HW6 HB6 hsz6 HN6 HO6
    refine (pget_any A6 N6 c6 w6 HI6.out hN6).mono ?_
    rintro e w7 ⟨q, k2, A7, n7, c7, l7, rfl, hr7, hL7, hE7, hn7, hok7, hu7⟩
    have HU7 := Lib.hid (U6.out.trans hu7.out)
    have HR7 := Lib.hid hr7.out
    have hn7' : n7 ≤ 140737488351232 := by have := hn7.out; omega
    have HPQ := Lib.hid (show ChB.pkt l7 q.src q.dst q.tag = q by unfold ChB.pkt; rw [hE7.out])
    clear hu7 hr7 HI6 U6
    unfold pkV pkC
    go_upto_region 9 with (fail)
    have HB8 := Lib.hid (new_at w7 (.cells #[.int .u16 q.src, .int .u16 q.dst, .int .u32 q.tag, .slice A7 n7 c7] 27))
    have HUa := Lib.hid (up_alloc w7 (.cells #[.int .u16 q.src, .int .u16 q.dst, .int .u32 q.tag, .slice A7 n7 c7] 27))
    generalize w7.alloc (.cells #[.int .u16 q.src, .int .u16 q.dst, .int .u32 q.tag, .slice A7 n7 c7] 27) = w8 at HB8 HUa ⊢
    generalize w7.heap.size = zz at HB8 ⊢
    have HL8 := Lib.hid (hL7.out.up HUa.out)
    have HU8 := Lib.hid (HU7.out.trans HUa.out)
    clear hL7 HUa HU7
    have y0 : w8.cell? ⟨zz, 0, none⟩ = some (.int .u16 q.src) := cell_of HB8.out rfl
    have y1 : w8.cell? ⟨zz, 1, none⟩ = some (.int .u16 q.dst) := cell_of HB8.out rfl
    have y2 : w8.cell? ⟨zz, 2, none⟩ = some (.int .u32 q.tag) := cell_of HB8.out rfl
    have y3 : w8.cell? ⟨zz, 3, none⟩ = some (.slice A7 n7 c7) := cell_of HB8.out rfl
    by_cases hk2 : k2 = 0
    · subst hk2
      have HBK := Lib.hid (pg_back HI.out.byt HR7.out)
      go_wp2_with fail
      refine (pput_any A7 n7 c7 l7 q.src q.dst q.tag w8 HL8.out.inL hn7' (by rw [HPQ.out]; exact hok7.out)).mono ?_
      rintro e w9 ⟨ys, k3, A9, N9, c9, rfl, hr9, hN9, hO9, hu9⟩
      rw [HPQ.out] at hr9
      have hk3 : k3 = 0 ∧ ys = xs := by
        rcases hr9.out with ⟨h1, h2, -⟩ | ⟨-, -, h3, -⟩
        · exact ⟨h1, h2.trans HBK.out.2⟩
        · exact absurd HBK.out.1 h3
      obtain ⟨rfl, rfl⟩ := hk3
      have HU9 := Lib.hid (HU8.out.trans hu9.out)
      have h1 := conv_up (own_inB hO9.out HI.out.byt) (Up.refl w9)
      have h2 := conv_up HI.out HU9.out
      clear hr9 hN9 hO9 hu9 y0 y1 y2 y3
      go_wp2_with fail
      go_ret
      exact ⟨by simp, HU9⟩
    · have hd : (k2 == 0) = false := by rw [beq_eq_false_iff_ne]; exact hk2
      have hd' : (k2 != 0) = true := by simp [hk2]
      have hz := pg_err HR7.out hk2
      have HZ := Lib.hid hz
      clear hk2 hz
      have HEQ := Lib.hid (show samePB (ChB.pkt l7 q.src q.dst q.tag) (ChB.pkt [] 0 0 0) = true from samePB_eq (by rw [HPQ.out, HZ.out]; rfl))
      go_wp2_with fail
      refine (samePk l7 [] A7 none n7 c7 0 0 q.src q.dst q.tag 0 0 0 w8 HL8.out.inL (inL_nil w8) hn7' (by omega)).mono ?_
      rintro e w9 ⟨rfl, hu9⟩
      rw [HEQ.out]
      have HU9 := Lib.hid (HU8.out.trans hu9.out)
      clear y0 y1 y2 y3
      go_wp2_with fail
      go_ret
      exact ⟨by simp, HU9⟩
  · have hd : (k == 0) = false := by rw [beq_eq_false_iff_ne]; omega
    clear hk hr
    go_wp2_with (at_builtin; refine wpList_appendI rfl (.tmp 37) (.tmp 38) 22 rfl .u8 w3.heap.size 5 1 Try.underlying22 info5 (some ⟨w3.heap.size, 0, none⟩) 0 0 [] rfl (ownI_new _ _ _) B m c xs rfl HI.out.len ((HI.out.up HU3.out).cells.alloc _) (by omega) (by omega) (by simp) ((Below.refl _ _).alloc (Nat.le_refl _) _) ?_; intro A6 N6 c6 w6 HN6 HW6 HB6 hsz6)
    have HO6 := Lib.hid (show OwnI .u8 5 w3.heap.size w6 A6 N6 c6 xs by have := HW6.out; rw [List.nil_append] at this; exact this)
    have U6 := Lib.hid (HU3.out.trans HB6.out)
    have HI6 := Lib.hid (own_inB HO6.out HI.out.byt)
    have hN6 : N6 ≤ 140737488351232 := by have := HN6.out; omega
    clear HW6 HB6 hsz6 HN6 HO6
    refine (pget_any A6 N6 c6 w6 HI6.out hN6).mono ?_
    rintro e w7 ⟨q, k2, A7, n7, c7, l7, rfl, hr7, hL7, hE7, hn7, hok7, hu7⟩
    have HU7 := Lib.hid (U6.out.trans hu7.out)
    have HR7 := Lib.hid hr7.out
    have hn7' : n7 ≤ 140737488351232 := by have := hn7.out; omega
    have HPQ := Lib.hid (show ChB.pkt l7 q.src q.dst q.tag = q by unfold ChB.pkt; rw [hE7.out])
    clear hu7 hr7 HI6 U6
    unfold pkV pkC
    go_upto_region 9 with (fail)
    have HB8 := Lib.hid (new_at w7 (.cells #[.int .u16 q.src, .int .u16 q.dst, .int .u32 q.tag, .slice A7 n7 c7] 27))
    have HUa := Lib.hid (up_alloc w7 (.cells #[.int .u16 q.src, .int .u16 q.dst, .int .u32 q.tag, .slice A7 n7 c7] 27))
    generalize w7.alloc (.cells #[.int .u16 q.src, .int .u16 q.dst, .int .u32 q.tag, .slice A7 n7 c7] 27) = w8 at HB8 HUa ⊢
    generalize w7.heap.size = zz at HB8 ⊢
    have HL8 := Lib.hid (hL7.out.up HUa.out)
    have HU8 := Lib.hid (HU7.out.trans HUa.out)
    clear hL7 HUa HU7
    have y0 : w8.cell? ⟨zz, 0, none⟩ = some (.int .u16 q.src) := cell_of HB8.out rfl
    have y1 : w8.cell? ⟨zz, 1, none⟩ = some (.int .u16 q.dst) := cell_of HB8.out rfl
    have y2 : w8.cell? ⟨zz, 2, none⟩ = some (.int .u32 q.tag) := cell_of HB8.out rfl
    have y3 : w8.cell? ⟨zz, 3, none⟩ = some (.slice A7 n7 c7) := cell_of HB8.out rfl
    by_cases hk2 : k2 = 0
    · subst hk2
      have HBK := Lib.hid (pg_back HI.out.byt HR7.out)
      go_wp2_with fail
      refine (pput_any A7 n7 c7 l7 q.src q.dst q.tag w8 HL8.out.inL hn7' (by rw [HPQ.out]; exact hok7.out)).mono ?_
      rintro e w9 ⟨ys, k3, A9, N9, c9, rfl, hr9, hN9, hO9, hu9⟩
      rw [HPQ.out] at hr9
      have hk3 : k3 = 0 ∧ ys = xs := by
        rcases hr9.out with ⟨h1, h2, -⟩ | ⟨-, -, h3, -⟩
        · exact ⟨h1, h2.trans HBK.out.2⟩
        · exact absurd HBK.out.1 h3
      obtain ⟨rfl, rfl⟩ := hk3
      have HU9 := Lib.hid (HU8.out.trans hu9.out)
      have h1 := conv_up (own_inB hO9.out HI.out.byt) (Up.refl w9)
      have h2 := conv_up HI.out HU9.out
      clear hr9 hN9 hO9 hu9 y0 y1 y2 y3
      go_wp2_with fail
      go_ret
      exact ⟨by simp, HU9⟩
    · have hd : (k2 == 0) = false := by rw [beq_eq_false_iff_ne]; exact hk2
      have hd' : (k2 != 0) = true := by simp [hk2]
      have hz := pg_err HR7.out hk2
      have HZ := Lib.hid hz
      clear hk2 hz
      have HEQ := Lib.hid (show samePB (ChB.pkt l7 q.src q.dst q.tag) (ChB.pkt [] 0 0 0) = true from samePB_eq (by rw [HPQ.out, HZ.out]; rfl))
      go_wp2_with fail
      refine (samePk l7 [] A7 none n7 c7 0 0 q.src q.dst q.tag 0 0 0 w8 HL8.out.inL (inL_nil w8) hn7' (by omega)).mono ?_
      rintro e w9 ⟨rfl, hu9⟩
      rw [HEQ.out]
      have HU9 := Lib.hid (HU8.out.trans hu9.out)
      clear y0 y1 y2 y3
      go_wp2_with fail
      go_ret
      exact ⟨by simp, HU9⟩
end Go.Proofs.Ytjdcglioppbfhaa
