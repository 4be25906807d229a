import Derived.Test.YtjdcglioppbfhaaCk22
import Derived.Test.YtjdcglioppbfhaaCk31
import Derived.Test.YtjdcglioppbfhaaCk32
import Derived.Test.YtjdcglioppbfhaaCk53
namespace Go.Proofs.Ytjdcglioppbfhaa
open Go Go.RowKit
set_option linter.unusedVariables false
set_option linter.unusedSimpArgs false
/-! packet.Get. -/
namespace Pk
def zero : Pkt := ⟨0, 0, 0, []⟩
/-- What these bytes say ahead of the chunks. -/
def at_ (xs : List Int) (cs : List Ck.Chk) : Pkt := ⟨nmA xs 0 2, nmA xs 2 2, nmA xs 4 4, cs⟩
end Pk
def PGRes (xs : List Int) (p : Pk.Pkt) (k : Int) : Prop :=
  (4096 < xs.length ∧ p = Pk.zero ∧ k = 4) ∨ (xs.length < 12 ∧ p = Pk.zero ∧ k = 3) ∨
  (12 ≤ xs.length ∧ xs.length ≤ 4096 ∧ xs ≠ Pk.sealP xs ∧ p = Pk.zero ∧ k = 5) ∨
  (12 ≤ xs.length ∧ xs.length ≤ 4096 ∧ xs = Pk.sealP xs ∧ ∃ cs k', GetRes (xs.drop 12) cs k' ∧
    ((k' ≠ 0 ∧ p = Pk.zero ∧ k = k') ∨ (k' = 0 ∧ Pk.soundB (Pk.at_ xs cs) = true ∧ p = Pk.at_ xs cs ∧ k = 0) ∨ (k' = 0 ∧ Pk.soundB (Pk.at_ xs cs) = false ∧ p = Pk.zero ∧ k = 2)))
theorem pgRes_inj {xs : List Int} {p q : Pk.Pkt} {k l : Int} (a : PGRes xs p k) (b : PGRes xs q l) : p = q ∧ k = l := by
  rcases a with ⟨a1, a2, a3⟩ | ⟨a1, a2, a3⟩ | ⟨a1, a0, a2, a3, a4⟩ | ⟨a1, a0, a2, cs, k', ar, a5⟩ <;> rcases b with ⟨b1, b2, b3⟩ | ⟨b1, b2, b3⟩ | ⟨b1, b0, b2, b3, b4⟩ | ⟨b1, b0, b2, ds, l', br, b5⟩
  · exact ⟨a2.trans b2.symm, a3.trans b3.symm⟩
  · exfalso; omega
  · exfalso; omega
  · exfalso; omega
  · exfalso; omega
  · exact ⟨a2.trans b2.symm, a3.trans b3.symm⟩
  · exfalso; omega
  · exfalso; omega
  · exfalso; omega
  · exfalso; omega
  · exact ⟨a3.trans b3.symm, a4.trans b4.symm⟩
  · exact absurd b2 a2
  · exfalso; omega
  · exfalso; omega
  · exact absurd a2 b2
  obtain ⟨rfl, rfl⟩ := getRes_inj ar br
  rcases a5 with ⟨c1, c2, c3⟩ | ⟨c1, c2, c3, c4⟩ | ⟨c1, c2, c3, c4⟩ <;> rcases b5 with ⟨d1, d2, d3⟩ | ⟨d1, d2, d3, d4⟩ | ⟨d1, d2, d3, d4⟩
  · exact ⟨c2.trans d2.symm, c3.trans d3.symm⟩
  · exact absurd d1 c1
  · exact absurd d1 c1
  · exact absurd c1 d1
  · exact ⟨c3.trans d3.symm, c4.trans d4.symm⟩
  · rw [c2] at d2; cases d2
  · exact absurd c1 d1
  · rw [c2] at d2; cases d2
  · exact ⟨c3.trans d3.symm, c4.trans d4.symm⟩
def PGPost (xs : List Int) (w : World) (e : Ending) (w' : World) : Prop := ∃ p k A n c l, e = .returned (.tuple #[pkV p.src p.dst p.tag (.slice A n c), .int .i64 k]) ∧ Hid (PGRes xs p k) ∧ Hid (GL w.heap.size No w' A n c l) ∧ Hid (l.map ChB.pure = p.chs) ∧ Hid (n ≤ 32) ∧ Hid (Pk.PktOk p) ∧ Hid (Up w w')
theorem pktOk_zero : Pk.PktOk Pk.zero := ⟨by decide, by decide, by decide⟩
theorem PGPost.no {xs : List Int} {k : Int} {w w' : World} {e : Ending} (h : e = .returned (.tuple #[pkV 0 0 0 (.slice none 0 0), .int .i64 k])) (hr : PGRes xs Pk.zero k) (hu : Up w w') : PGPost xs w e w' :=
  ⟨Pk.zero, k, none, 0, 0, [], h, Lib.hid hr, Lib.hid (gl_nil _ _ _), Lib.hid rfl, Lib.hid (by omega), Lib.hid pktOk_zero, Lib.hid hu⟩
theorem inB_drop {w : World} {g o m c k : Nat} {xs : List Int} {A' : Option Addr} (h : InB w (some ⟨g, o, none⟩) m c xs) (hk : k ≤ m) (hA : A' = some ⟨g, o + k, none⟩ ∨ c = k) : InB w A' (m - k) (c - k) (xs.drop k) := by
  have hcap := h.cap
  have hlen := h.len
  refine ⟨fun hne => ?_, h.byt.drop k, by omega, by simp; omega⟩
  have hne' : xs.drop k ≠ [] := ints_ne hne
  rcases hA with rfl | hc
  · obtain ⟨b, o', e, hlt, hcc⟩ := h.cells (by intro e; rw [ints, List.map_eq_nil_iff] at e; rw [e] at hne'; simp at hne')
    injection e with e
    injection e with e1 e2
    subst e1 e2
    refine ⟨g, o + k, rfl, hlt, fun j u hu => ?_⟩
    have := hcc (k + j) u (by simpa [ints] using hu)
    rwa [show o + k + j = o + (k + j) by omega]
  · exact absurd (List.eq_nil_of_length_eq_zero (show (xs.drop k).length = 0 by simp; omega)) hne'
theorem nm_lt {xs : List Int} (hb : Byt xs) (a s : Nat) (B : Int) (hB : (256 : Int) ^ s = B) (h : a + s ≤ xs.length) : 0 ≤ nmA xs a s ∧ nmA xs a s < B := by
  rw [← hB]; exact nmA_bd hb h
section
variable {xs : List Int}
set_option maxRecDepth 100000 in
theorem pget_large (A : Option Addr) (m c : Nat) (w : World) (hm : xs.length = m) (hn : 4096 < m) (hn2 : m ≤ 140737488351232) : Calls Try.prog 7 #[.slice A m c] w (PGPost xs w) := by
  have HM := Lib.hid hm
  clear hm
  have d1 : decide ((4096 : Int) < (m : Int)) = true := by simp; omega
  have HQ := Lib.hid (new_at w (.cells #[.int .u16 0, .int .u16 0, .int .u32 0, .slice none 0 0] 27))
  have HU := Lib.hid (up_alloc w (.cells #[.int .u16 0, .int .u16 0, .int .u32 0, .slice none 0 0] 27))
  go_enter Try.func7, Try.ntmps7
  go_upto_region 1 with (fail)
  generalize w.alloc (.cells #[.int .u16 0, .int .u16 0, .int .u32 0, .slice none 0 0] 27) = wa at HQ HU ⊢
  have e0 : wa.cell? ⟨w.heap.size, 0, none⟩ = some (.int .u16 0) := cell_of HQ.out rfl
  have e1 : wa.cell? ⟨w.heap.size, 1, none⟩ = some (.int .u16 0) := cell_of HQ.out rfl
  have e2 : wa.cell? ⟨w.heap.size, 2, none⟩ = some (.int .u32 0) := cell_of HQ.out rfl
  have e3 : wa.cell? ⟨w.heap.size, 3, none⟩ = some (.slice none 0 0) := cell_of HQ.out rfl
  have f0 := frozen_at (j := 0) HQ.out
  have f1 := frozen_at (j := 1) HQ.out
  have f2 := frozen_at (j := 2) HQ.out
  have f3 := frozen_at (j := 3) HQ.out
  go_wp2_with fail
  have hs := set4 (a := .int .u16 0) (b := .int .u16 0) (c := .int .u32 0) (d := .slice none 0 0) HQ.out rfl
  refine bodyPost_ret (results_row_tmp (fn := Try.f7) (p := 2) (u := 3) (ty := 27) rfl _ _ w.heap.size 27 _ (0, 0) _ rfl hs.1 Try.underlying27 rfl rfl) rfl ?_
  exact PGPost.no rfl (.inl ⟨by rw [HM.out]; exact hn, rfl, rfl⟩) (Below.out HU.out hs.2 (fun k hk => by rw [hk]; exact Nat.le_refl _) HU.out.size)
set_option maxRecDepth 100000 in
theorem pget_short (A : Option Addr) (m c : Nat) (w : World) (hm : xs.length = m) (hn : m < 12) : Calls Try.prog 7 #[.slice A m c] w (PGPost xs w) := by
  have HM := Lib.hid hm
  clear hm
  have d1 : decide ((4096 : Int) < (m : Int)) = false := by simp; omega
  have d2 : decide ((m : Int) < (12 : Int)) = true := by simp; omega
  have HQ := Lib.hid (new_at w (.cells #[.int .u16 0, .int .u16 0, .int .u32 0, .slice none 0 0] 27))
  have HU := Lib.hid (up_alloc w (.cells #[.int .u16 0, .int .u16 0, .int .u32 0, .slice none 0 0] 27))
  go_enter Try.func7, Try.ntmps7
  go_upto_region 1 with (fail)
  generalize w.alloc (.cells #[.int .u16 0, .int .u16 0, .int .u32 0, .slice none 0 0] 27) = wa at HQ HU ⊢
  have e0 : wa.cell? ⟨w.heap.size, 0, none⟩ = some (.int .u16 0) := cell_of HQ.out rfl
  have e1 : wa.cell? ⟨w.heap.size, 1, none⟩ = some (.int .u16 0) := cell_of HQ.out rfl
  have e2 : wa.cell? ⟨w.heap.size, 2, none⟩ = some (.int .u32 0) := cell_of HQ.out rfl
  have e3 : wa.cell? ⟨w.heap.size, 3, none⟩ = some (.slice none 0 0) := cell_of HQ.out rfl
  have f0 := frozen_at (j := 0) HQ.out
  have f1 := frozen_at (j := 1) HQ.out
  have f2 := frozen_at (j := 2) HQ.out
  have f3 := frozen_at (j := 3) HQ.out
  go_wp2_with fail
  have hs := set4 (a := .int .u16 0) (b := .int .u16 0) (c := .int .u32 0) (d := .slice none 0 0) HQ.out rfl
  refine bodyPost_ret (results_row_tmp (fn := Try.f7) (p := 2) (u := 3) (ty := 27) rfl _ _ w.heap.size 27 _ (0, 0) _ rfl hs.1 Try.underlying27 rfl rfl) rfl ?_
  exact PGPost.no rfl (.inr (.inl ⟨by rw [HM.out]; exact hn, rfl, rfl⟩)) (Below.out HU.out hs.2 (fun k hk => by rw [hk]; exact Nat.le_refl _) HU.out.size)
set_option maxRecDepth 100000 in
set_option maxHeartbeats 1000000 in
theorem pget_sum (ga go m c : Nat) (w : World) (hin : InB w (some ⟨ga, go, none⟩) m c xs) (h12 : 12 ≤ m) (hn : m ≤ 4096) (hne : xs ≠ Pk.sealP xs) : Calls Try.prog 7 #[.slice (some ⟨ga, go, none⟩) m c] w (PGPost xs w) := by
  have HNE := Lib.hid hne
  clear hne
  have HI := Lib.hid hin
  have HM := Lib.hid hin.len
  have hcap := hin.cap
  have HBY := Lib.hid hin.byt
  clear hin
  have d1 : decide ((4096 : Int) < (m : Int)) = false := by simp; omega
  have d2 : decide ((m : Int) < (12 : Int)) = false := by simp; omega
  have HQ := Lib.hid (new_at w (.cells #[.int .u16 0, .int .u16 0, .int .u32 0, .slice none 0 0] 27))
  have HU := Lib.hid (up_alloc w (.cells #[.int .u16 0, .int .u16 0, .int .u32 0, .slice none 0 0] 27))
  go_enter Try.func7, Try.ntmps7
  go_upto_region 1 with (fail)
  generalize w.alloc (.cells #[.int .u16 0, .int .u16 0, .int .u32 0, .slice none 0 0] 27) = wa at HQ HU ⊢
  generalize hqq : w.heap.size = q at HQ ⊢
  have HQQ := Lib.hid hqq
  clear hqq
  go_wp2_with fail
  refine (sealed_any ⟨ga, go, none⟩ m c xs wa (HI.out.up HU.out) (by omega) (by omega)).mono ?_
  rintro e w1 ⟨A1, c1, rfl, hO1, hu1⟩
  have HU1 := Lib.hid (HU.out.trans hu1.out)
  have HQ1 := Lib.hid ((hu1.out.block _ (lt_of_blk HQ.out)).trans HQ.out)
  have HI1 := Lib.hid (own_inB hO1.out (byt_sealP HBY.out))
  clear hO1 hu1
  go_wp2_with fail
  refine (equal_any (some ⟨ga, go, none⟩) A1 m c m c1 xs (Pk.sealP xs) w1 (HI.out.up HU1.out) HI1.out).mono ?_
  rintro e w1' ⟨rfl, rfl⟩
  rw [decide_eq_false HNE.out]
  have e0 : w1.cell? ⟨q, 0, none⟩ = some (.int .u16 0) := cell_of HQ1.out rfl
  have e1 : w1.cell? ⟨q, 1, none⟩ = some (.int .u16 0) := cell_of HQ1.out rfl
  have e2 : w1.cell? ⟨q, 2, none⟩ = some (.int .u32 0) := cell_of HQ1.out rfl
  have e3 : w1.cell? ⟨q, 3, none⟩ = some (.slice none 0 0) := cell_of HQ1.out rfl
  have f0 := frozen_at (j := 0) HQ1.out
  have f1 := frozen_at (j := 1) HQ1.out
  have f2 := frozen_at (j := 2) HQ1.out
  have f3 := frozen_at (j := 3) HQ1.out
  go_wp2_with fail
  have hs := set4 (a := .int .u16 0) (b := .int .u16 0) (c := .int .u32 0) (d := .slice none 0 0) HQ1.out rfl
  refine bodyPost_ret (results_row_tmp (fn := Try.f7) (p := 2) (u := 3) (ty := 27) rfl _ _ q 27 _ (0, 0) _ rfl hs.1 Try.underlying27 rfl rfl) rfl ?_
  exact PGPost.no rfl (.inr (.inr (.inl ⟨by rw [HM.out]; exact h12, by rw [HM.out]; exact hn, HNE.out, rfl, rfl⟩))) (Below.out HU1.out hs.2 (fun k hk => by rw [hk, ← HQQ.out]; exact Nat.le_refl _) HU1.out.size)
set_option maxRecDepth 100000 in
set_option maxHeartbeats 1000000 in
theorem pget_cut (ga go m c : Nat) (w : World) (hin : InB w (some ⟨ga, go, none⟩) m c xs) (h12 : 12 ≤ m) (hn : m ≤ 4096) (heq : xs = Pk.sealP xs) (hc : c ≠ 12) : Calls Try.prog 7 #[.slice (some ⟨ga, go, none⟩) m c] w (PGPost xs w) := by
  have HEQ := Lib.hid heq
  clear heq
  have HI := Lib.hid hin
  have HM := Lib.hid hin.len
  have hcap := hin.cap
  have HBY := Lib.hid hin.byt
  clear hin
  have d1 : decide ((4096 : Int) < (m : Int)) = false := by simp; omega
  have d2 : decide ((m : Int) < (12 : Int)) = false := by simp; omega
  have HQ := Lib.hid (new_at w (.cells #[.int .u16 0, .int .u16 0, .int .u32 0, .slice none 0 0] 27))
  have HU := Lib.hid (up_alloc w (.cells #[.int .u16 0, .int .u16 0, .int .u32 0, .slice none 0 0] 27))
  go_enter Try.func7, Try.ntmps7
  go_upto_region 1 with (fail)
  generalize w.alloc (.cells #[.int .u16 0, .int .u16 0, .int .u32 0, .slice none 0 0] 27) = wa at HQ HU ⊢
  generalize hqq : w.heap.size = q at HQ ⊢
  have HQQ := Lib.hid hqq
  clear hqq
  go_wp2_with fail
  refine (sealed_any ⟨ga, go, none⟩ m c xs wa (HI.out.up HU.out) (by omega) (by omega)).mono ?_
  rintro e w1 ⟨A1, c1, rfl, hO1, hu1⟩
  have HU1 := Lib.hid (HU.out.trans hu1.out)
  have HQ1 := Lib.hid ((hu1.out.block _ (lt_of_blk HQ.out)).trans HQ.out)
  have HI1 := Lib.hid (own_inB hO1.out (byt_sealP HBY.out))
  clear hO1 hu1
  go_wp2_with fail
  refine (equal_any (some ⟨ga, go, none⟩) A1 m c m c1 xs (Pk.sealP xs) w1 (HI.out.up HU1.out) HI1.out).mono ?_
  rintro e w1' ⟨rfl, rfl⟩
  rw [decide_eq_true HEQ.out]
  go_wp2_with fail
  refine (get_any' (some ⟨ga, go + 12, none⟩) (m - 12) (c - 12) (xs.drop 12) w1 (inB_drop (HI.out.up HU1.out) h12 (.inl rfl)) (by omega)).mono ?_
  rintro e w2 ⟨l, k, A2, n2, c2, rfl, hr, hL, hb, hn2, hu2⟩
  have HU2 := Lib.hid (HU1.out.trans hu2.out)
  have HQ2 := Lib.hid ((hu2.out.block _ (lt_of_blk HQ1.out)).trans HQ1.out)
  have HI2 := Lib.hid (HI.out.up HU2.out)
  have HLT1 := Lib.hid (lt_of_blk HQ1.out)
  clear hb hu2 HI1
  by_cases hk : k = 0
  · subst hk
    obtain ⟨v0, hv0⟩ : ∃ v, v = num 0 ((xs.drop 0).take 2) := ⟨_, rfl⟩
    obtain ⟨v1, hv1⟩ : ∃ v, v = num 0 ((xs.drop 2).take 2) := ⟨_, rfl⟩
    obtain ⟨v2, hv2⟩ : ∃ v, v = num 0 ((xs.drop 4).take 4) := ⟨_, rfl⟩
    have b0 := nm_lt HBY.out 0 2 65536 (by decide) (by rw [HM.out]; omega)
    have b1 := nm_lt HBY.out 2 2 65536 (by decide) (by rw [HM.out]; omega)
    have b2 := nm_lt HBY.out 4 4 4294967296 (by decide) (by rw [HM.out]; omega)
    unfold nmA at b0 b1 b2
    rw [← hv0] at b0
    rw [← hv1] at b1
    rw [← hv2] at b2
    have HV0 := Lib.hid hv0
    have HV1 := Lib.hid hv1
    have HV2 := Lib.hid hv2
    have HAT := Lib.hid (show Pk.at_ xs (l.map ChB.pure) = ChB.pkt l v0 v1 v2 by unfold Pk.at_ ChB.pkt nmA; rw [hv0, hv1, hv2])
    have HOK := Lib.hid (show Pk.PktOk (ChB.pkt l v0 v1 v2) from ⟨b0, b1, b2⟩)
    obtain ⟨b00, b01⟩ := b0
    obtain ⟨b10, b11⟩ := b1
    obtain ⟨b20, b21⟩ := b2
    clear hv0 hv1 hv2
    have hn2' : n2 ≤ 140737488351232 := by have := hn2.out; omega
    go_wp2_with fail
    refine (num_02 (some ⟨ga, go, none⟩) m c xs w2 HI2.out (by omega) h12).mono ?_
    rintro e w3 ⟨rfl, rfl⟩
    rw [← HV0.out]
    go_wp2_with fail
    refine (num_24 (some ⟨ga, go, none⟩) m c xs w2 HI2.out (by omega) h12).mono ?_
    rintro e w3 ⟨rfl, rfl⟩
    rw [← HV1.out]
    go_wp2_with fail
    refine (num_48 (some ⟨ga, go, none⟩) m c xs w2 HI2.out (by omega) h12).mono ?_
    rintro e w3 ⟨rfl, rfl⟩
    rw [← HV2.out]
    go_upto_region 11 with (fail)
    have HB3 := Lib.hid (new_at w2 (.cells #[.int .u16 v0, .int .u16 v1, .int .u32 v2, .slice A2 n2 c2] 27))
    have HUa := Lib.hid (up_alloc w2 (.cells #[.int .u16 v0, .int .u16 v1, .int .u32 v2, .slice A2 n2 c2] 27))
    generalize w2.alloc (.cells #[.int .u16 v0, .int .u16 v1, .int .u32 v2, .slice A2 n2 c2] 27) = w3 at HB3 HUa ⊢
    have HLT := Lib.hid (lt_of_blk HQ2.out)
    generalize w2.heap.size = z at HB3 HLT ⊢
    have HU3 := Lib.hid (HU2.out.trans HUa.out)
    have HQ3 := Lib.hid ((HUa.out.block _ (lt_of_blk HQ2.out)).trans HQ2.out)
    have HL3 := Lib.hid (hL.out.up HUa.out)
    clear HUa hL
    have z0 : w3.cell? ⟨z, 0, none⟩ = some (.int .u16 v0) := cell_of HB3.out rfl
    have z1 : w3.cell? ⟨z, 1, none⟩ = some (.int .u16 v1) := cell_of HB3.out rfl
    have z2 : w3.cell? ⟨z, 2, none⟩ = some (.int .u32 v2) := cell_of HB3.out rfl
    have z3 : w3.cell? ⟨z, 3, none⟩ = some (.slice A2 n2 c2) := cell_of HB3.out rfl
    go_wp2_with fail
    refine (sound_any A2 n2 c2 l v0 v1 v2 w3 HL3.out.inL hn2').mono ?_
    rintro e w4 ⟨rfl, hu4⟩
    have HU4 := Lib.hid (HU3.out.trans hu4.out)
    have HQ4 := Lib.hid ((hu4.out.block _ (lt_of_blk HQ3.out)).trans HQ3.out)
    have HB4 := Lib.hid ((hu4.out.block _ (lt_of_blk HB3.out)).trans HB3.out)
    have HL4 := Lib.hid (HL3.out.up hu4.out)
    clear hu4 z0 z1 z2 z3
    cases hso : Pk.soundB (ChB.pkt l v0 v1 v2)
    · have HSO := Lib.hid hso
      clear hso
      have e0 : w4.cell? ⟨q, 0, none⟩ = some (.int .u16 0) := cell_of HQ4.out rfl
      have e1 : w4.cell? ⟨q, 1, none⟩ = some (.int .u16 0) := cell_of HQ4.out rfl
      have e2 : w4.cell? ⟨q, 2, none⟩ = some (.int .u32 0) := cell_of HQ4.out rfl
      have e3 : w4.cell? ⟨q, 3, none⟩ = some (.slice none 0 0) := cell_of HQ4.out rfl
      have f0 := frozen_at (j := 0) HQ4.out
      have f1 := frozen_at (j := 1) HQ4.out
      have f2 := frozen_at (j := 2) HQ4.out
      have f3 := frozen_at (j := 3) HQ4.out
      go_wp2_with fail
      have hs := set4 (a := .int .u16 0) (b := .int .u16 0) (c := .int .u32 0) (d := .slice none 0 0) HQ4.out rfl
      refine bodyPost_ret (results_row_tmp (fn := Try.f7) (p := 2) (u := 3) (ty := 27) rfl _ _ q 27 _ (0, 0) _ rfl hs.1 Try.underlying27 rfl rfl) rfl ?_
      exact PGPost.no rfl (.inr (.inr (.inr ⟨by rw [HM.out]; exact h12, by rw [HM.out]; exact hn, HEQ.out, _, _, hr.out, .inr (.inr ⟨rfl, by rw [HAT.out]; exact HSO.out, rfl, rfl⟩)⟩))) (Below.out HU4.out hs.2 (fun k hk => by rw [hk, ← HQQ.out]; exact Nat.le_refl _) HU4.out.size)
    · have HSO := Lib.hid hso
      clear hso
      have z0 : w4.cell? ⟨z, 0, none⟩ = some (.int .u16 v0) := cell_of HB4.out rfl
      have z1 : w4.cell? ⟨z, 1, none⟩ = some (.int .u16 v1) := cell_of HB4.out rfl
      have z2 : w4.cell? ⟨z, 2, none⟩ = some (.int .u32 v2) := cell_of HB4.out rfl
      have z3 : w4.cell? ⟨z, 3, none⟩ = some (.slice A2 n2 c2) := cell_of HB4.out rfl
      have e0 : w4.cell? ⟨q, 0, none⟩ = some (.int .u16 0) := cell_of HQ4.out rfl
      have e1 : w4.cell? ⟨q, 1, none⟩ = some (.int .u16 0) := cell_of HQ4.out rfl
      have e2 : w4.cell? ⟨q, 2, none⟩ = some (.int .u32 0) := cell_of HQ4.out rfl
      have e3 : w4.cell? ⟨q, 3, none⟩ = some (.slice none 0 0) := cell_of HQ4.out rfl
      have f0 := frozen_at (j := 0) HQ4.out
      have f1 := frozen_at (j := 1) HQ4.out
      have f2 := frozen_at (j := 2) HQ4.out
      have f3 := frozen_at (j := 3) HQ4.out
      go_wp2_with fail
      have hs := set4 (a := .int .u16 v0) (b := .int .u16 v1) (c := .int .u32 v2) (d := .slice A2 n2 c2) HQ4.out rfl
      refine bodyPost_ret (results_row_tmp (fn := Try.f7) (p := 2) (u := 3) (ty := 27) rfl _ _ q 27 _ (0, 0) _ rfl hs.1 Try.underlying27 rfl rfl) rfl ?_
      exact ⟨ChB.pkt l v0 v1 v2, 0, A2, n2, c2, l, rfl, Lib.hid (.inr (.inr (.inr ⟨by rw [HM.out]; exact h12, by rw [HM.out]; exact hn, HEQ.out, _, _, hr.out, .inr (.inl ⟨rfl, by rw [HAT.out]; exact HSO.out, HAT.out.symm, rfl⟩)⟩))), Lib.hid ((HL4.out.outS hs.2 (fun k hk => by rw [hk]; exact HLT1.out)).weak (by rw [HQQ.out]; exact Nat.le_of_lt HLT1.out)), Lib.hid rfl, hn2, HOK, Lib.hid (Below.out HU4.out hs.2 (fun k hk => by rw [hk, ← HQQ.out]; exact Nat.le_refl _) HU4.out.size)⟩
  · have hd : (k == 0) = false := by rw [beq_eq_false_iff_ne]; exact hk
    have hd' : (k != 0) = true := by simp [hk]
    have HK := Lib.hid hk
    clear hk
    have HRR := Lib.hid hr.out
    clear hr
    have e0 : w2.cell? ⟨q, 0, none⟩ = some (.int .u16 0) := cell_of HQ2.out rfl
    have e1 : w2.cell? ⟨q, 1, none⟩ = some (.int .u16 0) := cell_of HQ2.out rfl
    have e2 : w2.cell? ⟨q, 2, none⟩ = some (.int .u32 0) := cell_of HQ2.out rfl
    have e3 : w2.cell? ⟨q, 3, none⟩ = some (.slice none 0 0) := cell_of HQ2.out rfl
    have f0 := frozen_at (j := 0) HQ2.out
    have f1 := frozen_at (j := 1) HQ2.out
    have f2 := frozen_at (j := 2) HQ2.out
    have f3 := frozen_at (j := 3) HQ2.out
    go_wp2_with fail
    have hs := set4 (a := .int .u16 0) (b := .int .u16 0) (c := .int .u32 0) (d := .slice none 0 0) HQ2.out rfl
    refine bodyPost_ret (results_row_tmp (fn := Try.f7) (p := 2) (u := 3) (ty := 27) rfl _ _ q 27 _ (0, 0) _ rfl hs.1 Try.underlying27 rfl rfl) rfl ?_
    exact PGPost.no rfl (.inr (.inr (.inr ⟨by rw [HM.out]; exact h12, by rw [HM.out]; exact hn, HEQ.out, _, _, HRR.out, .inl ⟨HK.out, rfl, rfl⟩⟩))) (Below.out HU2.out hs.2 (fun k hk => by rw [hk, ← HQQ.out]; exact Nat.le_refl _) HU2.out.size)
set_option maxRecDepth 100000 in
set_option maxHeartbeats 1000000 in
theorem pget_cap (ga go m c : Nat) (w : World) (hin : InB w (some ⟨ga, go, none⟩) m c xs) (h12 : 12 ≤ m) (hn : m ≤ 4096) (heq : xs = Pk.sealP xs) (hc : c = 12) : Calls Try.prog 7 #[.slice (some ⟨ga, go, none⟩) m c] w (PGPost xs w) := by
  obtain rfl : m = 12 := by have := hin.cap; omega
  subst hc
  have HEQ := Lib.hid heq
  clear heq
  have HI := Lib.hid hin
  have HM := Lib.hid hin.len
  have HBY := Lib.hid hin.byt
  clear hin
  have d1 : decide ((4096 : Int) < (12 : Int)) = false := by decide
  have d2 : decide ((12 : Int) < (12 : Int)) = false := by decide
  have HQ := Lib.hid (new_at w (.cells #[.int .u16 0, .int .u16 0, .int .u32 0, .slice none 0 0] 27))
  have HU := Lib.hid (up_alloc w (.cells #[.int .u16 0, .int .u16 0, .int .u32 0, .slice none 0 0] 27))
  go_enter Try.func7, Try.ntmps7
  go_upto_region 1 with (fail)
  generalize w.alloc (.cells #[.int .u16 0, .int .u16 0, .int .u32 0, .slice none 0 0] 27) = wa at HQ HU ⊢
  generalize hqq : w.heap.size = q at HQ ⊢
  have HQQ := Lib.hid hqq
  clear hqq
  go_wp2_with fail
  refine (sealed_any ⟨ga, go, none⟩ 12 12 xs wa (HI.out.up HU.out) (by omega) (by omega)).mono ?_
  rintro e w1 ⟨A1, c1, rfl, hO1, hu1⟩
  have HU1 := Lib.hid (HU.out.trans hu1.out)
  have HQ1 := Lib.hid ((hu1.out.block _ (lt_of_blk HQ.out)).trans HQ.out)
  have HI1 := Lib.hid (own_inB hO1.out (byt_sealP HBY.out))
  clear hO1 hu1
  go_wp2_with fail
  refine (equal_any (some ⟨ga, go, none⟩) A1 12 12 12 c1 xs (Pk.sealP xs) w1 (HI.out.up HU1.out) HI1.out).mono ?_
  rintro e w1' ⟨rfl, rfl⟩
  rw [decide_eq_true HEQ.out]
  go_wp2_with fail
  refine (get_any' (some ⟨ga, go, none⟩) (12 - 12) (12 - 12) (xs.drop 12) w1 (inB_drop (HI.out.up HU1.out) h12 (.inr rfl)) (by omega)).mono ?_
  rintro e w2 ⟨l, k, A2, n2, c2, rfl, hr, hL, hb, hn2, hu2⟩
  have HU2 := Lib.hid (HU1.out.trans hu2.out)
  have HQ2 := Lib.hid ((hu2.out.block _ (lt_of_blk HQ1.out)).trans HQ1.out)
  have HI2 := Lib.hid (HI.out.up HU2.out)
  have HLT1 := Lib.hid (lt_of_blk HQ1.out)
  clear hb hu2 HI1
  by_cases hk : k = 0
  · subst hk
    obtain ⟨v0, hv0⟩ : ∃ v, v = num 0 ((xs.drop 0).take 2) := ⟨_, rfl⟩
    obtain ⟨v1, hv1⟩ : ∃ v, v = num 0 ((xs.drop 2).take 2) := ⟨_, rfl⟩
    obtain ⟨v2, hv2⟩ : ∃ v, v = num 0 ((xs.drop 4).take 4) := ⟨_, rfl⟩
    have b0 := nm_lt HBY.out 0 2 65536 (by decide) (by rw [HM.out]; omega)
    have b1 := nm_lt HBY.out 2 2 65536 (by decide) (by rw [HM.out]; omega)
    have b2 := nm_lt HBY.out 4 4 4294967296 (by decide) (by rw [HM.out]; omega)
    unfold nmA at b0 b1 b2
    rw [← hv0] at b0
    rw [← hv1] at b1
    rw [← hv2] at b2
    have HV0 := Lib.hid hv0
    have HV1 := Lib.hid hv1
    have HV2 := Lib.hid hv2
    have HAT := Lib.hid (show Pk.at_ xs (l.map ChB.pure) = ChB.pkt l v0 v1 v2 by unfold Pk.at_ ChB.pkt nmA; rw [hv0, hv1, hv2])
    have HOK := Lib.hid (show Pk.PktOk (ChB.pkt l v0 v1 v2) from ⟨b0, b1, b2⟩)
    obtain ⟨b00, b01⟩ := b0
    obtain ⟨b10, b11⟩ := b1
    obtain ⟨b20, b21⟩ := b2
    clear hv0 hv1 hv2
    have hn2' : n2 ≤ 140737488351232 := by have := hn2.out; omega
    go_wp2_with fail
    refine (num_02 (some ⟨ga, go, none⟩) 12 12 xs w2 HI2.out (by omega) h12).mono ?_
    rintro e w3 ⟨rfl, rfl⟩
    rw [← HV0.out]
    go_wp2_with fail
    refine (num_24 (some ⟨ga, go, none⟩) 12 12 xs w2 HI2.out (by omega) h12).mono ?_
    rintro e w3 ⟨rfl, rfl⟩
    rw [← HV1.out]
    go_wp2_with fail
    refine (num_48 (some ⟨ga, go, none⟩) 12 12 xs w2 HI2.out (by omega) h12).mono ?_
    rintro e w3 ⟨rfl, rfl⟩
    rw [← HV2.out]
    go_upto_region 11 with (fail)
    have HB3 := Lib.hid (new_at w2 (.cells #[.int .u16 v0, .int .u16 v1, .int .u32 v2, .slice A2 n2 c2] 27))
    have HUa := Lib.hid (up_alloc w2 (.cells #[.int .u16 v0, .int .u16 v1, .int .u32 v2, .slice A2 n2 c2] 27))
    generalize w2.alloc (.cells #[.int .u16 v0, .int .u16 v1, .int .u32 v2, .slice A2 n2 c2] 27) = w3 at HB3 HUa ⊢
    have HLT := Lib.hid (lt_of_blk HQ2.out)
    generalize w2.heap.size = z at HB3 HLT ⊢
    have HU3 := Lib.hid (HU2.out.trans HUa.out)
    have HQ3 := Lib.hid ((HUa.out.block _ (lt_of_blk HQ2.out)).trans HQ2.out)
    have HL3 := Lib.hid (hL.out.up HUa.out)
    clear HUa hL
    have z0 : w3.cell? ⟨z, 0, none⟩ = some (.int .u16 v0) := cell_of HB3.out rfl
    have z1 : w3.cell? ⟨z, 1, none⟩ = some (.int .u16 v1) := cell_of HB3.out rfl
    have z2 : w3.cell? ⟨z, 2, none⟩ = some (.int .u32 v2) := cell_of HB3.out rfl
    have z3 : w3.cell? ⟨z, 3, none⟩ = some (.slice A2 n2 c2) := cell_of HB3.out rfl
    go_wp2_with fail
    refine (sound_any A2 n2 c2 l v0 v1 v2 w3 HL3.out.inL hn2').mono ?_
    rintro e w4 ⟨rfl, hu4⟩
    have HU4 := Lib.hid (HU3.out.trans hu4.out)
    have HQ4 := Lib.hid ((hu4.out.block _ (lt_of_blk HQ3.out)).trans HQ3.out)
    have HB4 := Lib.hid ((hu4.out.block _ (lt_of_blk HB3.out)).trans HB3.out)
    have HL4 := Lib.hid (HL3.out.up hu4.out)
    clear hu4 z0 z1 z2 z3
    cases hso : Pk.soundB (ChB.pkt l v0 v1 v2)
    · have HSO := Lib.hid hso
      clear hso
      have e0 : w4.cell? ⟨q, 0, none⟩ = some (.int .u16 0) := cell_of HQ4.out rfl
      have e1 : w4.cell? ⟨q, 1, none⟩ = some (.int .u16 0) := cell_of HQ4.out rfl
      have e2 : w4.cell? ⟨q, 2, none⟩ = some (.int .u32 0) := cell_of HQ4.out rfl
      have e3 : w4.cell? ⟨q, 3, none⟩ = some (.slice none 0 0) := cell_of HQ4.out rfl
      have f0 := frozen_at (j := 0) HQ4.out
      have f1 := frozen_at (j := 1) HQ4.out
      have f2 := frozen_at (j := 2) HQ4.out
      have f3 := frozen_at (j := 3) HQ4.out
      go_wp2_with fail
      have hs := set4 (a := .int .u16 0) (b := .int .u16 0) (c := .int .u32 0) (d := .slice none 0 0) HQ4.out rfl
      refine bodyPost_ret (results_row_tmp (fn := Try.f7) (p := 2) (u := 3) (ty := 27) rfl _ _ q 27 _ (0, 0) _ rfl hs.1 Try.underlying27 rfl rfl) rfl ?_
      exact PGPost.no rfl (.inr (.inr (.inr ⟨by rw [HM.out]; exact h12, by rw [HM.out]; exact hn, HEQ.out, _, _, hr.out, .inr (.inr ⟨rfl, by rw [HAT.out]; exact HSO.out, rfl, rfl⟩)⟩))) (Below.out HU4.out hs.2 (fun k hk => by rw [hk, ← HQQ.out]; exact Nat.le_refl _) HU4.out.size)
    · have HSO := Lib.hid hso
      clear hso
      have z0 : w4.cell? ⟨z, 0, none⟩ = some (.int .u16 v0) := cell_of HB4.out rfl
      have z1 : w4.cell? ⟨z, 1, none⟩ = some (.int .u16 v1) := cell_of HB4.out rfl
      have z2 : w4.cell? ⟨z, 2, none⟩ = some (.int .u32 v2) := cell_of HB4.out rfl
      have z3 : w4.cell? ⟨z, 3, none⟩ = some (.slice A2 n2 c2) := cell_of HB4.out rfl
      have e0 : w4.cell? ⟨q, 0, none⟩ = some (.int .u16 0) := cell_of HQ4.out rfl
      have e1 : w4.cell? ⟨q, 1, none⟩ = some (.int .u16 0) := cell_of HQ4.out rfl
      have e2 : w4.cell? ⟨q, 2, none⟩ = some (.int .u32 0) := cell_of HQ4.out rfl
      have e3 : w4.cell? ⟨q, 3, none⟩ = some (.slice none 0 0) := cell_of HQ4.out rfl
      have f0 := frozen_at (j := 0) HQ4.out
      have f1 := frozen_at (j := 1) HQ4.out
      have f2 := frozen_at (j := 2) HQ4.out
      have f3 := frozen_at (j := 3) HQ4.out
      go_wp2_with fail
      have hs := set4 (a := .int .u16 v0) (b := .int .u16 v1) (c := .int .u32 v2) (d := .slice A2 n2 c2) HQ4.out rfl
      refine bodyPost_ret (results_row_tmp (fn := Try.f7) (p := 2) (u := 3) (ty := 27) rfl _ _ q 27 _ (0, 0) _ rfl hs.1 Try.underlying27 rfl rfl) rfl ?_
      exact ⟨ChB.pkt l v0 v1 v2, 0, A2, n2, c2, l, rfl, Lib.hid (.inr (.inr (.inr ⟨by rw [HM.out]; exact h12, by rw [HM.out]; exact hn, HEQ.out, _, _, hr.out, .inr (.inl ⟨rfl, by rw [HAT.out]; exact HSO.out, HAT.out.symm, rfl⟩)⟩))), Lib.hid ((HL4.out.outS hs.2 (fun k hk => by rw [hk]; exact HLT1.out)).weak (by rw [HQQ.out]; exact Nat.le_of_lt HLT1.out)), Lib.hid rfl, hn2, HOK, Lib.hid (Below.out HU4.out hs.2 (fun k hk => by rw [hk, ← HQQ.out]; exact Nat.le_refl _) HU4.out.size)⟩
  · have hd : (k == 0) = false := by rw [beq_eq_false_iff_ne]; exact hk
    have hd' : (k != 0) = true := by simp [hk]
    have HK := Lib.hid hk
    clear hk
    have HRR := Lib.hid hr.out
    clear hr
    have e0 : w2.cell? ⟨q, 0, none⟩ = some (.int .u16 0) := cell_of HQ2.out rfl
    have e1 : w2.cell? ⟨q, 1, none⟩ = some (.int .u16 0) := cell_of HQ2.out rfl
    have e2 : w2.cell? ⟨q, 2, none⟩ = some (.int .u32 0) := cell_of HQ2.out rfl
    have e3 : w2.cell? ⟨q, 3, none⟩ = some (.slice none 0 0) := cell_of HQ2.out rfl
    have f0 := frozen_at (j := 0) HQ2.out
    have f1 := frozen_at (j := 1) HQ2.out
    have f2 := frozen_at (j := 2) HQ2.out
    have f3 := frozen_at (j := 3) HQ2.out
    go_wp2_with fail
    have hs := set4 (a := .int .u16 0) (b := .int .u16 0) (c := .int .u32 0) (d := .slice none 0 0) HQ2.out rfl
    refine bodyPost_ret (results_row_tmp (fn := Try.f7) (p := 2) (u := 3) (ty := 27) rfl _ _ q 27 _ (0, 0) _ rfl hs.1 Try.underlying27 rfl rfl) rfl ?_
    exact PGPost.no rfl (.inr (.inr (.inr ⟨by rw [HM.out]; exact h12, by rw [HM.out]; exact hn, HEQ.out, _, _, HRR.out, .inl ⟨HK.out, rfl, rfl⟩⟩))) (Below.out HU2.out hs.2 (fun k hk => by rw [hk, ← HQQ.out]; exact Nat.le_refl _) HU2.out.size)
theorem pget_any (A : Option Addr) (m c : Nat) (w : World) (hin : InB w A m c xs) (hm : m ≤ 140737488351232) : Calls Try.prog 7 #[.slice A m c] w (PGPost xs w) := by
  by_cases h1 : 4096 < m
  · exact pget_large A m c w hin.len h1 hm
  by_cases h2 : m < 12
  · exact pget_short A m c w hin.len h2
  obtain ⟨ga, go, rfl, -, -⟩ := hin.cells (by intro e; have := congrArg List.length e; rw [ints_length, hin.len] at this; simp at this; omega)
  by_cases h3 : xs = Pk.sealP xs
  · by_cases h4 : c = 12
    · exact pget_cap ga go m c w hin (by omega) (by omega) h3 h4
    · exact pget_cut ga go m c w hin (by omega) (by omega) h3 h4
  · exact pget_sum ga go m c w hin (by omega) (by omega) h3
end
end Go.Proofs.Ytjdcglioppbfhaa
