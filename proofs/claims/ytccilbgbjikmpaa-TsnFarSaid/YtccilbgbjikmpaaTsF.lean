import Derived.Test.YtccilbgbjikmpaaTsL1
namespace Go.Proofs.Ytccilbgbjikmpaa
open Go Go.RowKit
set_option linter.unusedVariables false
set_option linter.unusedSimpArgs false
/-! The law TsnFar. -/
def FarAt (w : World) (pb C1 : Nat) (A1 : List Nat) (n0 s k : Nat) (wr : World) : Prop := ∃ dd, IsT w.heap.size wr pb C1 A1 dd ∧ dd.length = min 64 (n0 + s * k) ∧ Up w wr
theorem dupAdd_len (d : List Int) (x : Int) (h : d.length ≤ 64) : (dupAdd d x).length = min 64 (d.length + 1) := by
  unfold dupAdd
  split
  · simp; omega
  · omega
theorem IsT.bd {B : Nat} {w : World} {pb C : Nat} {A : List Nat} {d : List Int} (h : IsT B w pb C A d) : d.length ≤ 64 := by obtain ⟨_, _, _, h1, _⟩ := h; exact h1.bd
theorem one_len {A : List Nat} (hn : A.Nodup) {x : Nat} (h : ∀ y ∈ A, y = x) : A.length ≤ 1 := by
  match A, hn, h with
  | [], _, _ => simp
  | [_], _, _ => simp
  | a :: b :: l, hn, h =>
    have h1 := h a (by simp)
    have h2 := h b (by simp)
    rw [List.nodup_cons] at hn
    exact absurd (by rw [h1, h2]; simp) hn.1
set_option maxRecDepth 100000 in
set_option maxHeartbeats 4000000 in
theorem far_a (f d a : Int) (w : World) (hf : 0 ≤ f ∧ f < 4294967296) (hd : 0 ≤ d ∧ d < 4294967296) (ha : 0 ≤ a ∧ a < 256) (h5 : d < 512) :
    Calls Try.prog 5 #[.int .u32 f, .int .u32 d, .int .u8 a] w (RetB true w) := by
  obtain ⟨hf0, hf1⟩ := hf
  obtain ⟨hd0, hd1⟩ := hd
  obtain ⟨ha0, ha1⟩ := ha
  obtain ⟨q, hq⟩ : ∃ q : Nat, a % 90 = (q : Int) := ⟨(a % 90).toNat, by omega⟩
  have hq9 : q < 90 := by omega
  obtain ⟨F, hF⟩ : ∃ F : Nat, F = f.toNat + 4294967296 := ⟨_, rfl⟩
  obtain ⟨x, hx⟩ : ∃ x, x = key (F + d.toNat) := ⟨_, rfl⟩
  have hxw : IntKind.u32.wrap (f + d) = x := by rw [hx, IntKind.wrap_u32']; unfold key; omega
  have hxb := key_bd (F + d.toNat)
  rw [← hx] at hxb
  have HF := Lib.hid hF
  have HX := Lib.hid hx
  have HXB := Lib.hid hxb
  have e1 : decide (d < 512) = true := by simp; omega
  clear hx hF hxb
  go_enter Try.func5, Try.ntmps5
  go_wp2_with fail
  refine (new_t f w hf0 hf1).mono ?_
  rintro e w1 ⟨pb, rfl, hT, hu⟩
  rw [show f.toNat + 4294967295 = F - 1 by have := HF.out; omega] at hT
  have HT := Lib.hid hT
  have HU := Lib.hid hu
  clear hT hu
  go_wp2_with fail
  refine (answers_ok w1).mono ?_
  rintro e w2 ⟨rfl, hu⟩
  have HT2 := Lib.hid (HT.out.up hu.out)
  have HU2 := Lib.hid (show Up w w2 from HU.out.trans hu.out)
  clear hu HT HU
  go_wp2_with fail
  refine (got_t w.heap.size pb (F - 1) [] [] x w2 HT2.out HXB.out HU2.out.size).mono ?_
  rintro e w3 ⟨r, C1, A1, d1, rfl, hg, hT, hb⟩
  have HU3 := Lib.hid (show Up w w3 from Below.trans HU2.out hb)
  obtain ⟨rfl, hinv, rfl⟩ := GotR.fresh (F := F) (R := []) (X := F + d.toNat) (by
    have h0 := Ts.Inv.start (C := F - 1)
    rwa [show F - 1 + 1 = F by have := HF.out; omega] at h0) (by simp) (by omega) (by omega) (by rw [← HX.out]; exact hg)
  have HT3S := hT
  have hc : C1 ≤ F + d.toNat := by
    rcases Nat.lt_or_ge C1 F with h | h
    · omega
    · have := hinv.dn C1 h (Nat.le_refl _); simp at this; omega
  have hrep : ∀ dd r4 C4 A4 d4, dd.length ≤ 64 → GotR C1 A1 dd x r4 C4 A4 d4 → r4 = 9 ∧ C4 = C1 ∧ A4 = A1 ∧ d4.length = min 64 (dd.length + 1) := fun dd r4 C4 A4 d4 hl h => by
    rw [HX.out] at h
    obtain ⟨h1, h2, h3, h4⟩ := GotR.again hinv hT.ok (by simp) (by omega) h
    exact ⟨h1, h2, h3, by rw [h4, dupAdd_len _ _ hl]⟩
  have ha64 : A1.length ≤ 64 := Nat.le_trans (one_len hT.ok.nd (x := F + d.toNat) (fun y hy => by have := ((hinv.up y).1 hy).1; simpa using this)) (by omega)
  have HL3 : ([] : List Int).length = min 64 (0 + 1 * 0) := rfl
  have HU3S := HU3.out
  clear hinv hc
  have HREP := Lib.hid hrep
  have HA64 := Lib.hid ha64
  have HT3 := Lib.hid hT
  clear hg hT hb hrep ha64 HT2 HU2
  go_wp2_with fail

  go_loopw [10] (fun i wr => ∃ k : Nat, k ≤ q ∧ i = .int .i64 (k : Int) ∧ Hid (FarAt w pb C1 A1 0 1 k wr)) (fun i _ => q - (intOf i).toNat)
  case atStart => exact ⟨0, Nat.zero_le _, rfl, Lib.hid ⟨_, HT3S, HL3, HU3S⟩⟩
  case round =>
    obtain ⟨k, hk, rfl, hfar⟩ := hrel
    by_cases hlt : k < q
    · have hkq : (k : Int) < (q : Int) := by omega
      obtain ⟨dd, h1, h2, h3⟩ := hfar.out
      have H1 := Lib.hid h1
      have H2 := Lib.hid h2
      have H3 := Lib.hid h3
      clear h1 h2 h3 hfar
      go_wp2_with fail
      refine (got_t w.heap.size pb C1 A1 dd x wr H1.out HXB.out H3.out.size).mono ?_
      rintro e w4 ⟨r4, C4, A4, d4, rfl, hg, hT, hb⟩
      obtain ⟨rfl, rfl, rfl, hl4⟩ := HREP.out dd r4 C4 A4 d4 H1.out.bd hg
      have HN := Lib.hid (show FarAt w pb C4 A4 0 1 (k + 1) w4 from ⟨d4, hT, by rw [hl4, H2.out]; omega, Below.trans H3.out hb⟩)
      clear hg hT hb hl4
      go_wp2_with fail
      go_roundw
      case rel => exact ⟨k + 1, by omega, by go_num, HN⟩
      case measure => simp [intOf]; omega
    · obtain rfl : k = q := by omega
      obtain ⟨dd, h1, h2, h3⟩ := hfar.out
      have H1 := Lib.hid h1
      have H2 := Lib.hid h2
      have H3 := Lib.hid h3
      clear h1 h2 h3 hfar HREP
      go_wp2_with fail
      refine (tell_t w.heap.size pb C1 A1 dd 0 wr H1.out HA64.out).mono ?_
      rintro e w5 ⟨L, G, n, m, P, cP, D, c, rfl, y1, y2, y3, y4, y5, y6, y7, y8, y9, y10, y11, y12, y13⟩
      have hm := y2.trans H2.out
      have HM := Lib.hid hm
      have HU5 := Lib.hid (show Up w w5 from H3.out.out_ y8 (fun k hk => by rw [hk]; exact y10))
      clear hm y1 y2 y3 y4 y5 y6 y7 y8 y9 y10 y11 y12 y13
      unfold heV
      go_wp2_with fail
      all_goals
        go_ret
        exact ⟨by have hh := HM.out; simp; omega, Lib.hid (HU5.out.trans (up_alloc _ _))⟩
set_option maxRecDepth 100000 in
set_option maxHeartbeats 4000000 in
theorem far_b1 (f d a : Int) (w : World) (hf : 0 ≤ f ∧ f < 4294967296) (hd : 0 ≤ d ∧ d < 4294967296) (ha : 0 ≤ a ∧ a < 256) (h5 : d = 4294967295) :
    Calls Try.prog 5 #[.int .u32 f, .int .u32 d, .int .u8 a] w (RetB true w) := by
  obtain ⟨hf0, hf1⟩ := hf
  obtain ⟨hd0, hd1⟩ := hd
  obtain ⟨ha0, ha1⟩ := ha
  obtain ⟨q, hq⟩ : ∃ q : Nat, a % 90 = (q : Int) := ⟨(a % 90).toNat, by omega⟩
  have hq9 : q < 90 := by omega
  obtain ⟨F, hF⟩ : ∃ F : Nat, F = f.toNat + 4294967296 := ⟨_, rfl⟩
  obtain ⟨x, hx⟩ : ∃ x, x = key (F + d.toNat) := ⟨_, rfl⟩
  have hxw : IntKind.u32.wrap (f + d) = x := by rw [hx, IntKind.wrap_u32']; unfold key; omega
  have hxb := key_bd (F + d.toNat)
  rw [← hx] at hxb
  have HF := Lib.hid hF
  have HX := Lib.hid hx
  have HXB := Lib.hid hxb
  have e1 : decide (d < 512) = false := by simp; omega
  have HDI := Lib.hid (show dist (F - 1) x = 0 ∨ 2147483648 ≤ dist (F - 1) x by rw [hx]; unfold dist key; omega)
  have e2 : (d == 4294967295) = true := by simp [h5]
  clear h5
  clear hx hF hxb
  go_enter Try.func5, Try.ntmps5
  go_wp2_with fail
  refine (new_t f w hf0 hf1).mono ?_
  rintro e w1 ⟨pb, rfl, hT, hu⟩
  rw [show f.toNat + 4294967295 = F - 1 by have := HF.out; omega] at hT
  have HT := Lib.hid hT
  have HU := Lib.hid hu
  clear hT hu
  go_wp2_with fail
  refine (answers_ok w1).mono ?_
  rintro e w2 ⟨rfl, hu⟩
  have HT2 := Lib.hid (HT.out.up hu.out)
  have HU2 := Lib.hid (show Up w w2 from HU.out.trans hu.out)
  clear hu HT HU
  go_wp2_with fail
  refine (got_t w.heap.size pb (F - 1) [] [] x w2 HT2.out HXB.out HU2.out.size).mono ?_
  rintro e w3 ⟨r, C1, A1, d1, rfl, hg, hT, hb⟩
  have HU3 := Lib.hid (show Up w w3 from Below.trans HU2.out hb)
  obtain ⟨_, rfl, rfl, rfl, rfl⟩ : (dist (F - 1) x = 0 ∨ 2147483648 ≤ dist (F - 1) x ∨ F - 1 + dist (F - 1) x ∈ []) ∧ r = 9 ∧ C1 = F - 1 ∧ A1 = [] ∧ d1 = dupAdd [] x := by
    rcases hg with h | ⟨h, _⟩ | ⟨h, _⟩
    · exact h
    · have := HDI.out; omega
    · have := HDI.out; omega
  have HT3S := hT
  have hrep : ∀ dd r4 C4 A4 d4, dd.length ≤ 64 → GotR (F - 1) [] dd x r4 C4 A4 d4 → r4 = 9 ∧ C4 = F - 1 ∧ A4 = [] ∧ d4.length = min 64 (dd.length + 1) := fun dd r4 C4 A4 d4 hl h => by
    rcases h with ⟨_, h1, h2, h3, h4⟩ | ⟨h, _⟩ | ⟨h, _⟩
    · exact ⟨h1, h2, h3, by rw [h4, dupAdd_len _ _ hl]⟩
    · have := HDI.out; omega
    · have := HDI.out; omega
  have ha64 : ([] : List Nat).length ≤ 64 := by simp
  have HL3 : (dupAdd [] x).length = min 64 (1 + 1 * 0) := rfl
  have HU3S := HU3.out
  have HREP := Lib.hid hrep
  have HA64 := Lib.hid ha64
  have HT3 := Lib.hid hT
  clear hg hT hb hrep ha64 HT2 HU2
  go_wp2_with fail

  go_loopw [10] (fun i wr => ∃ k : Nat, k ≤ q ∧ i = .int .i64 (k : Int) ∧ Hid (FarAt w pb (F - 1) [] 1 1 k wr)) (fun i _ => q - (intOf i).toNat)
  case atStart => exact ⟨0, Nat.zero_le _, rfl, Lib.hid ⟨_, HT3S, HL3, HU3S⟩⟩
  case round =>
    obtain ⟨k, hk, rfl, hfar⟩ := hrel
    by_cases hlt : k < q
    · have hkq : (k : Int) < (q : Int) := by omega
      obtain ⟨dd, h1, h2, h3⟩ := hfar.out
      have H1 := Lib.hid h1
      have H2 := Lib.hid h2
      have H3 := Lib.hid h3
      clear h1 h2 h3 hfar
      go_wp2_with fail
      refine (got_t w.heap.size pb (F - 1) [] dd x wr H1.out HXB.out H3.out.size).mono ?_
      rintro e w4 ⟨r4, C4, A4, d4, rfl, hg, hT, hb⟩
      obtain ⟨rfl, rfl, rfl, hl4⟩ := HREP.out dd r4 C4 A4 d4 H1.out.bd hg
      have HN := Lib.hid (show FarAt w pb (F - 1) [] 1 1 (k + 1) w4 from ⟨d4, hT, by rw [hl4, H2.out]; omega, Below.trans H3.out hb⟩)
      clear hg hT hb hl4
      go_wp2_with fail
      go_roundw
      case rel => exact ⟨k + 1, by omega, by go_num, HN⟩
      case measure => simp [intOf]; omega
    · obtain rfl : k = q := by omega
      obtain ⟨dd, h1, h2, h3⟩ := hfar.out
      have H1 := Lib.hid h1
      have H2 := Lib.hid h2
      have H3 := Lib.hid h3
      clear h1 h2 h3 hfar HREP
      go_wp2_with fail
      refine (tell_t w.heap.size pb (F - 1) [] dd 0 wr H1.out HA64.out).mono ?_
      rintro e w5 ⟨L, G, n, m, P, cP, D, c, rfl, y1, y2, y3, y4, y5, y6, y7, y8, y9, y10, y11, y12, y13⟩
      have hm := y2.trans H2.out
      have HM := Lib.hid hm
      have HU5 := Lib.hid (show Up w w5 from H3.out.out_ y8 (fun k hk => by rw [hk]; exact y10))
      clear hm y1 y2 y3 y4 y5 y6 y7 y8 y9 y10 y11 y12 y13
      unfold heV
      go_wp2_with fail
      all_goals
        go_ret
        exact ⟨by have hh := HM.out; simp; omega, Lib.hid (HU5.out.trans (up_alloc _ _))⟩
set_option maxRecDepth 100000 in
set_option maxHeartbeats 4000000 in
theorem far_b2 (f d a : Int) (w : World) (hf : 0 ≤ f ∧ f < 4294967296) (hd : 0 ≤ d ∧ d < 4294967296) (ha : 0 ≤ a ∧ a < 256) (h5 : 2147483647 ≤ d) (h6 : d ≠ 4294967295) :
    Calls Try.prog 5 #[.int .u32 f, .int .u32 d, .int .u8 a] w (RetB true w) := by
  obtain ⟨hf0, hf1⟩ := hf
  obtain ⟨hd0, hd1⟩ := hd
  obtain ⟨ha0, ha1⟩ := ha
  obtain ⟨q, hq⟩ : ∃ q : Nat, a % 90 = (q : Int) := ⟨(a % 90).toNat, by omega⟩
  have hq9 : q < 90 := by omega
  obtain ⟨F, hF⟩ : ∃ F : Nat, F = f.toNat + 4294967296 := ⟨_, rfl⟩
  obtain ⟨x, hx⟩ : ∃ x, x = key (F + d.toNat) := ⟨_, rfl⟩
  have hxw : IntKind.u32.wrap (f + d) = x := by rw [hx, IntKind.wrap_u32']; unfold key; omega
  have hxb := key_bd (F + d.toNat)
  rw [← hx] at hxb
  have HF := Lib.hid hF
  have HX := Lib.hid hx
  have HXB := Lib.hid hxb
  have e1 : decide (d < 512) = false := by simp; omega
  have HDI := Lib.hid (show dist (F - 1) x = 0 ∨ 2147483648 ≤ dist (F - 1) x by rw [hx]; unfold dist key; omega)
  have e2 : (d == 4294967295) = false := by simp [h6]
  have e3 : decide (2147483647 ≤ d) = true := by simp; omega
  clear h6
  clear hx hF hxb
  go_enter Try.func5, Try.ntmps5
  go_wp2_with fail
  refine (new_t f w hf0 hf1).mono ?_
  rintro e w1 ⟨pb, rfl, hT, hu⟩
  rw [show f.toNat + 4294967295 = F - 1 by have := HF.out; omega] at hT
  have HT := Lib.hid hT
  have HU := Lib.hid hu
  clear hT hu
  go_wp2_with fail
  refine (answers_ok w1).mono ?_
  rintro e w2 ⟨rfl, hu⟩
  have HT2 := Lib.hid (HT.out.up hu.out)
  have HU2 := Lib.hid (show Up w w2 from HU.out.trans hu.out)
  clear hu HT HU
  go_wp2_with fail
  refine (got_t w.heap.size pb (F - 1) [] [] x w2 HT2.out HXB.out HU2.out.size).mono ?_
  rintro e w3 ⟨r, C1, A1, d1, rfl, hg, hT, hb⟩
  have HU3 := Lib.hid (show Up w w3 from Below.trans HU2.out hb)
  obtain ⟨_, rfl, rfl, rfl, rfl⟩ : (dist (F - 1) x = 0 ∨ 2147483648 ≤ dist (F - 1) x ∨ F - 1 + dist (F - 1) x ∈ []) ∧ r = 9 ∧ C1 = F - 1 ∧ A1 = [] ∧ d1 = dupAdd [] x := by
    rcases hg with h | ⟨h, _⟩ | ⟨h, _⟩
    · exact h
    · have := HDI.out; omega
    · have := HDI.out; omega
  have HT3S := hT
  have hrep : ∀ dd r4 C4 A4 d4, dd.length ≤ 64 → GotR (F - 1) [] dd x r4 C4 A4 d4 → r4 = 9 ∧ C4 = F - 1 ∧ A4 = [] ∧ d4.length = min 64 (dd.length + 1) := fun dd r4 C4 A4 d4 hl h => by
    rcases h with ⟨_, h1, h2, h3, h4⟩ | ⟨h, _⟩ | ⟨h, _⟩
    · exact ⟨h1, h2, h3, by rw [h4, dupAdd_len _ _ hl]⟩
    · have := HDI.out; omega
    · have := HDI.out; omega
  have ha64 : ([] : List Nat).length ≤ 64 := by simp
  have HL3 : (dupAdd [] x).length = min 64 (1 + 1 * 0) := rfl
  have HU3S := HU3.out
  have HREP := Lib.hid hrep
  have HA64 := Lib.hid ha64
  have HT3 := Lib.hid hT
  clear hg hT hb hrep ha64 HT2 HU2
  go_wp2_with fail

  go_loopw [10] (fun i wr => ∃ k : Nat, k ≤ q ∧ i = .int .i64 (k : Int) ∧ Hid (FarAt w pb (F - 1) [] 1 1 k wr)) (fun i _ => q - (intOf i).toNat)
  case atStart => exact ⟨0, Nat.zero_le _, rfl, Lib.hid ⟨_, HT3S, HL3, HU3S⟩⟩
  case round =>
    obtain ⟨k, hk, rfl, hfar⟩ := hrel
    by_cases hlt : k < q
    · have hkq : (k : Int) < (q : Int) := by omega
      obtain ⟨dd, h1, h2, h3⟩ := hfar.out
      have H1 := Lib.hid h1
      have H2 := Lib.hid h2
      have H3 := Lib.hid h3
      clear h1 h2 h3 hfar
      go_wp2_with fail
      refine (got_t w.heap.size pb (F - 1) [] dd x wr H1.out HXB.out H3.out.size).mono ?_
      rintro e w4 ⟨r4, C4, A4, d4, rfl, hg, hT, hb⟩
      obtain ⟨rfl, rfl, rfl, hl4⟩ := HREP.out dd r4 C4 A4 d4 H1.out.bd hg
      have HN := Lib.hid (show FarAt w pb (F - 1) [] 1 1 (k + 1) w4 from ⟨d4, hT, by rw [hl4, H2.out]; omega, Below.trans H3.out hb⟩)
      clear hg hT hb hl4
      go_wp2_with fail
      go_roundw
      case rel => exact ⟨k + 1, by omega, by go_num, HN⟩
      case measure => simp [intOf]; omega
    · obtain rfl : k = q := by omega
      obtain ⟨dd, h1, h2, h3⟩ := hfar.out
      have H1 := Lib.hid h1
      have H2 := Lib.hid h2
      have H3 := Lib.hid h3
      clear h1 h2 h3 hfar HREP
      go_wp2_with fail
      refine (tell_t w.heap.size pb (F - 1) [] dd 0 wr H1.out HA64.out).mono ?_
      rintro e w5 ⟨L, G, n, m, P, cP, D, c, rfl, y1, y2, y3, y4, y5, y6, y7, y8, y9, y10, y11, y12, y13⟩
      have hm := y2.trans H2.out
      have HM := Lib.hid hm
      have HU5 := Lib.hid (show Up w w5 from H3.out.out_ y8 (fun k hk => by rw [hk]; exact y10))
      clear hm y1 y2 y3 y4 y5 y6 y7 y8 y9 y10 y11 y12 y13
      unfold heV
      go_wp2_with fail
      all_goals
        go_ret
        exact ⟨by have hh := HM.out; simp; omega, Lib.hid (HU5.out.trans (up_alloc _ _))⟩
set_option maxRecDepth 100000 in
set_option maxHeartbeats 4000000 in
theorem far_c (f d a : Int) (w : World) (hf : 0 ≤ f ∧ f < 4294967296) (hd : 0 ≤ d ∧ d < 4294967296) (ha : 0 ≤ a ∧ a < 256) (h5 : 512 ≤ d) (h6 : d < 2147483647) :
    Calls Try.prog 5 #[.int .u32 f, .int .u32 d, .int .u8 a] w (RetB true w) := by
  obtain ⟨hf0, hf1⟩ := hf
  obtain ⟨hd0, hd1⟩ := hd
  obtain ⟨ha0, ha1⟩ := ha
  obtain ⟨q, hq⟩ : ∃ q : Nat, a % 90 = (q : Int) := ⟨(a % 90).toNat, by omega⟩
  have hq9 : q < 90 := by omega
  obtain ⟨F, hF⟩ : ∃ F : Nat, F = f.toNat + 4294967296 := ⟨_, rfl⟩
  obtain ⟨x, hx⟩ : ∃ x, x = key (F + d.toNat) := ⟨_, rfl⟩
  have hxw : IntKind.u32.wrap (f + d) = x := by rw [hx, IntKind.wrap_u32']; unfold key; omega
  have hxb := key_bd (F + d.toNat)
  rw [← hx] at hxb
  have HF := Lib.hid hF
  have HX := Lib.hid hx
  have HXB := Lib.hid hxb
  have e1 : decide (d < 512) = false := by simp; omega
  have e2 : (d == 4294967295) = false := by simp; omega
  have e3 : decide (2147483647 ≤ d) = false := by simp; omega
  have HDI := Lib.hid (show 512 < dist (F - 1) x ∧ dist (F - 1) x < 2147483648 by rw [hx]; unfold dist key; omega)
  clear hx hF hxb
  go_enter Try.func5, Try.ntmps5
  go_wp2_with fail
  refine (new_t f w hf0 hf1).mono ?_
  rintro e w1 ⟨pb, rfl, hT, hu⟩
  rw [show f.toNat + 4294967295 = F - 1 by have := HF.out; omega] at hT
  have HT := Lib.hid hT
  have HU := Lib.hid hu
  clear hT hu
  go_wp2_with fail
  refine (answers_ok w1).mono ?_
  rintro e w2 ⟨rfl, hu⟩
  have HT2 := Lib.hid (HT.out.up hu.out)
  have HU2 := Lib.hid (show Up w w2 from HU.out.trans hu.out)
  clear hu HT HU
  go_wp2_with fail
  refine (got_t w.heap.size pb (F - 1) [] [] x w2 HT2.out HXB.out HU2.out.size).mono ?_
  rintro e w3 ⟨r, C1, A1, d1, rfl, hg, hT, hb⟩
  have HU3 := Lib.hid (show Up w w3 from Below.trans HU2.out hb)
  obtain ⟨_, rfl, rfl, rfl, rfl⟩ : (512 < dist (F - 1) x ∧ dist (F - 1) x < 2147483648) ∧ r = 10 ∧ C1 = F - 1 ∧ A1 = [] ∧ d1 = [] := by
    rcases hg with ⟨h, _⟩ | h | ⟨h, _⟩
    · have := HDI.out
      rcases h with h | h | h
      · omega
      · omega
      · exact absurd h (by simp)
    · exact h
    · have := HDI.out; omega
  have HT3S := hT
  have hrep : ∀ dd r4 C4 A4 d4, dd.length ≤ 64 → GotR (F - 1) [] dd x r4 C4 A4 d4 → r4 = 10 ∧ C4 = F - 1 ∧ A4 = [] ∧ d4.length = dd.length := fun dd r4 C4 A4 d4 hl h => by
    rcases h with ⟨h, _⟩ | ⟨_, h1, h2, h3, h4⟩ | ⟨h, _⟩
    · have := HDI.out
      rcases h with h | h | h
      · omega
      · omega
      · exact absurd h (by simp)
    · exact ⟨h1, h2, h3, by rw [h4]⟩
    · have := HDI.out; omega
  have ha64 : ([] : List Nat).length ≤ 64 := by simp
  have HL3 : ([] : List Int).length = min 64 (0 + 0 * 0) := rfl
  have HU3S := HU3.out
  have HREP := Lib.hid hrep
  have HA64 := Lib.hid ha64
  have HT3 := Lib.hid hT
  clear hg hT hb hrep ha64 HT2 HU2
  go_wp2_with fail
  refine (ahead_t w.heap.size pb (F - 1) [] [] w3 HT3.out).mono ?_
  rintro e w6 ⟨L0, n, B, c, rfl, hn, hL, hrow, hu⟩
  have hn0 : n = 0 := by rw [hn, hL.1.length_eq]; rfl
  clear hn
  subst hn0
  have HT6 := Lib.hid (HT3.out.up hu)
  have HU6 := Lib.hid (show Up w w6 from HU3.out.trans hu)
  clear hL hrow hu
  go_wp2_with fail
  go_loopw [10] (fun i wr => ∃ k : Nat, k ≤ q ∧ i = .int .i64 (k : Int) ∧ Hid (FarAt w pb (F - 1) [] 0 0 k wr)) (fun i _ => q - (intOf i).toNat)
  case atStart => exact ⟨0, Nat.zero_le _, rfl, Lib.hid ⟨_, HT6.out, HL3, HU6.out⟩⟩
  case round =>
    obtain ⟨k, hk, rfl, hfar⟩ := hrel
    by_cases hlt : k < q
    · have hkq : (k : Int) < (q : Int) := by omega
      obtain ⟨dd, h1, h2, h3⟩ := hfar.out
      have H1 := Lib.hid h1
      have H2 := Lib.hid h2
      have H3 := Lib.hid h3
      clear h1 h2 h3 hfar
      go_wp2_with fail
      refine (got_t w.heap.size pb (F - 1) [] dd x wr H1.out HXB.out H3.out.size).mono ?_
      rintro e w4 ⟨r4, C4, A4, d4, rfl, hg, hT, hb⟩
      obtain ⟨rfl, rfl, rfl, hl4⟩ := HREP.out dd r4 C4 A4 d4 H1.out.bd hg
      have HN := Lib.hid (show FarAt w pb (F - 1) [] 0 0 (k + 1) w4 from ⟨d4, hT, by rw [hl4, H2.out]; omega, Below.trans H3.out hb⟩)
      clear hg hT hb hl4
      go_wp2_with fail
      go_roundw
      case rel => exact ⟨k + 1, by omega, by go_num, HN⟩
      case measure => simp [intOf]; omega
    · obtain rfl : k = q := by omega
      obtain ⟨dd, h1, h2, h3⟩ := hfar.out
      have H1 := Lib.hid h1
      have H2 := Lib.hid h2
      have H3 := Lib.hid h3
      clear h1 h2 h3 hfar HREP
      go_wp2_with fail
      refine (tell_t w.heap.size pb (F - 1) [] dd 0 wr H1.out HA64.out).mono ?_
      rintro e w5 ⟨L, G, n, m, P, cP, D, c, rfl, y1, y2, y3, y4, y5, y6, y7, y8, y9, y10, y11, y12, y13⟩
      have hm := y2.trans H2.out
      have HM := Lib.hid hm
      have HU5 := Lib.hid (show Up w w5 from H3.out.out_ y8 (fun k hk => by rw [hk]; exact y10))
      clear hm y1 y2 y3 y4 y5 y6 y7 y8 y9 y10 y11 y12 y13
      unfold heV
      go_wp2_with fail
      all_goals
        go_ret
        exact ⟨by have hh := HM.out; simp; omega, Lib.hid (HU5.out.trans (up_alloc _ _))⟩
theorem law_far (f d a : Int) (w : World) (hf : 0 ≤ f ∧ f < 4294967296) (hd : 0 ≤ d ∧ d < 4294967296) (ha : 0 ≤ a ∧ a < 256) : Calls Try.prog 5 #[.int .u32 f, .int .u32 d, .int .u8 a] w (RetB true w) := by
  by_cases h1 : d < 512
  · exact far_a f d a w hf hd ha h1
  · by_cases h2 : d = 4294967295
    · exact far_b1 f d a w hf hd ha h2
    · by_cases h3 : 2147483647 ≤ d
      · exact far_b2 f d a w hf hd ha h3 h2
      · exact far_c f d a w hf hd ha (by omega) (by omega)
end Go.Proofs.Ytccilbgbjikmpaa
