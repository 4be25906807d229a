import Derived.Test.YtjdcglioppbfhaaPk13
namespace Go.Proofs.Ytjdcglioppbfhaa
open Go Go.RowKit
set_option linter.unusedVariables false
set_option linter.unusedSimpArgs false
/-! The law PacketAlone. -/
theorem enc_one (k : Int) : (encL [⟨k, 0, []⟩]).length = 4 := by simp [encL, encC_length, padN]
theorem enc_two (k o : Int) : (encL [⟨k, 0, []⟩, ⟨o, 0, []⟩]).length = 8 := by simp [encL, encC_length, padN]
theorem sound_one (k g : Int) : Pk.soundB ⟨1, 2, g, [⟨k, 0, []⟩]⟩ = ((k == 1) == (g == 0)) := by
  simp only [Pk.soundB, Pk.badB, List.length_cons, List.length_nil, List.any_cons, List.any_nil]
  cases (k == 1) <;> cases (g == 0) <;> cases Pk.aloneB k <;> rfl
theorem alone_1 {k : Int} (h : (k == 1) = true) : Pk.aloneB k = true := by unfold Pk.aloneB; rw [h]; rfl
theorem sound_two (k o : Int) : Pk.soundB ⟨1, 2, 9, [⟨k, 0, []⟩, ⟨o, 0, []⟩]⟩ = (!Pk.aloneB k && !Pk.aloneB o) := by
  simp only [Pk.soundB, Pk.badB, List.length_cons, List.length_nil, List.any_cons, List.any_nil]
  cases h1 : (k == 1) <;> cases h2 : (o == 1)
  · cases Pk.aloneB k <;> cases Pk.aloneB o <;> rfl
  · rw [alone_1 h2]; cases Pk.aloneB k <;> rfl
  · rw [alone_1 h1]; cases Pk.aloneB o <;> rfl
  · rw [alone_1 h1, alone_1 h2]; rfl
/-- What Put answers where all has room. -/
theorem res_room {p : Pk.Pkt} {ys : List Int} {k : Int} (h : PkRes p ys k) (h1 : p.chs.length ≤ 32) (h2 : (encL p.chs).length + 12 ≤ 4096) : k = if Pk.soundB p = true then 0 else 2 := by
  rcases h with ⟨h3, -, h4⟩ | ⟨h3, -, h4, h5⟩
  · rw [if_pos h4.1]; exact h3
  · have h6 : ¬ Pk.soundB p = true := fun h => h4 ⟨h, h1, h2⟩
    rw [if_neg h6]
    exact h5.2 (by simpa using h6)
theorem in_two (w : World) (k o : Int) (hk : 0 ≤ k ∧ k < 256) (ho : 0 ≤ o ∧ o < 256) : InL (w.alloc (.cells #[.int .u8 k, .int .u8 0, .slice none 0 0, .int .u8 o, .int .u8 0, .slice none 0 0] 43)) (some ⟨w.heap.size, 0, none⟩) 2 2 [⟨k, 0, none, 0, 0, []⟩, ⟨o, 0, none, 0, 0, []⟩] :=
  ⟨fun _ => ⟨w.heap.size, 0, rfl, lt_of_blk (new_at w _), fun j u hu => cell_of (new_at w _) (by rw [Nat.zero_add]; simpa [rowc, chc] using hu)⟩, (fun x hx => by
    rcases List.mem_cons.1 hx with rfl | hx
    · exact ⟨inB_nil _, hk, ⟨Int.le_refl _, show (0 : Int) < 256 by decide⟩, Nat.zero_le _⟩
    · rw [List.mem_singleton] at hx; subst hx; exact ⟨inB_nil _, ho, ⟨Int.le_refl _, show (0 : Int) < 256 by decide⟩, Nat.zero_le _⟩), Nat.le_refl _, rfl⟩
set_option maxRecDepth 1000000 in
set_option maxHeartbeats 8000000 in
theorem law_alone (kind tag other : Int) (w : World) (hk : 0 ≤ kind ∧ kind < 256) (ht : 0 ≤ tag ∧ tag < 4294967296) (ho : 0 ≤ other ∧ other < 256) : Calls Try.prog 6 #[.int .u8 kind, .int .u32 tag, .int .u8 other] w (RetB true w) := by
  have HK := Lib.hid hk
  have HT := Lib.hid ht
  have HO := Lib.hid ho
  clear hk ht ho
  have HAL := Lib.hid (show Pk.aloneB kind = (kind == 1 || (kind == 2 || kind == 14)) from rfl)
  have HS1 := Lib.hid (sound_one kind tag)
  have HS2 := Lib.hid (sound_two kind other)
  cases hb1 : (kind == 1) <;> cases hb2 : (kind == 2) <;> cases hb3 : (kind == 14) <;> cases hbt : (tag == 0)
  all_goals
    rw [hb1, hb2, hb3] at HAL
    rw [hb1, hbt] at HS1
  all_goals first
  | (exfalso
     simp only [beq_iff_eq, beq_eq_false_iff_ne] at hb1 hb2 hb3
     omega)
  | skip
  all_goals
    go_enter Try.func6, Try.ntmps6
    go_wp2_with fail
    refine (answers_ok w).mono ?_
    rintro e w1 ⟨rfl, hu1⟩
    have HU1 := Lib.hid hu1.out
    clear hu1
    go_wp2_with fail
    refine (alone_any kind w1).mono ?_
    rintro e w2 ⟨rfl, rfl⟩
    rw [HAL.out]
    have HA1 := Lib.hid (in_one w1 kind HK.out)
    have HUa := Lib.hid (up_alloc w1 (.cells #[.int .u8 kind, .int .u8 0, .slice none 0 0] 43))
    go_wp2_with fail
    generalize w1.alloc (.cells #[.int .u8 kind, .int .u8 0, .slice none 0 0] 43) = w2 at HA1 HUa ⊢
    generalize w1.heap.size = q1 at HA1 ⊢
    have HUb := Lib.hid (up_alloc w2 (.cells #[.int .u16 1, .int .u16 2, .int .u32 tag, .slice (some ⟨q1, 0, none⟩) 1 1] 27))
    generalize w2.alloc (.cells #[.int .u16 1, .int .u16 2, .int .u32 tag, .slice (some ⟨q1, 0, none⟩) 1 1] 27) = w3 at HUb ⊢
    refine (pput_any (some ⟨q1, 0, none⟩) 1 1 [⟨kind, 0, none, 0, 0, []⟩] 1 2 tag w3 (HA1.out.up HUb.out) (by omega) ⟨by show (0 : Int) ≤ 1 ∧ (1 : Int) < 65536; decide, by show (0 : Int) ≤ 2 ∧ (2 : Int) < 65536; decide, HT.out⟩).mono ?_
    rintro e w4 ⟨ys, k, A4, N4, c4, rfl, hr, hN4, hO4, hu4⟩
    have HU4 := Lib.hid (((HU1.out.trans HUa.out).trans HUb.out).trans hu4.out)
    have hk : k = if Pk.soundB ⟨1, 2, tag, [⟨kind, 0, []⟩]⟩ = true then 0 else 2 := res_room hr.out (by show 1 ≤ 32; decide) (by show (encL [⟨kind, 0, []⟩]).length + 12 ≤ 4096; rw [enc_one]; decide)
    rw [HS1.out] at hk
    clear hr hN4 hO4 hu4 HUb HUa HA1 HU1
    first | (rw [if_pos (by decide)] at hk) | (rw [if_neg (by decide)] at hk)
    subst hk
    have HA2 := Lib.hid (in_two w4 kind other HK.out HO.out)
    have HUc := Lib.hid (up_alloc w4 (.cells #[.int .u8 kind, .int .u8 0, .slice none 0 0, .int .u8 other, .int .u8 0, .slice none 0 0] 43))
    go_wp2_with fail
    generalize w4.alloc (.cells #[.int .u8 kind, .int .u8 0, .slice none 0 0, .int .u8 other, .int .u8 0, .slice none 0 0] 43) = w5 at HA2 HUc ⊢
    generalize w4.heap.size = q4 at HA2 ⊢
    have HUd := Lib.hid (up_alloc w5 (.cells #[.int .u16 1, .int .u16 2, .int .u32 9, .slice (some ⟨q4, 0, none⟩) 2 2] 27))
    generalize w5.alloc (.cells #[.int .u16 1, .int .u16 2, .int .u32 9, .slice (some ⟨q4, 0, none⟩) 2 2] 27) = w6 at HUd ⊢
    refine (pput_any (some ⟨q4, 0, none⟩) 2 2 [⟨kind, 0, none, 0, 0, []⟩, ⟨other, 0, none, 0, 0, []⟩] 1 2 9 w6 (HA2.out.up HUd.out) (by omega) ⟨by show (0 : Int) ≤ 1 ∧ (1 : Int) < 65536; decide, by show (0 : Int) ≤ 2 ∧ (2 : Int) < 65536; decide, by show (0 : Int) ≤ 9 ∧ (9 : Int) < 4294967296; decide⟩).mono ?_
    rintro e w7 ⟨zs, j, A7, N7, c7, rfl, hr, hN7, hO7, hu7⟩
    have HU7 := Lib.hid (((HU4.out.trans HUc.out).trans HUd.out).trans hu7.out)
    have hj : j = if Pk.soundB ⟨1, 2, 9, [⟨kind, 0, []⟩, ⟨other, 0, []⟩]⟩ = true then 0 else 2 := res_room hr.out (by show 2 ≤ 32; decide) (by show (encL [⟨kind, 0, []⟩, ⟨other, 0, []⟩]).length + 12 ≤ 4096; rw [enc_two]; decide)
    rw [HS2.out, HAL.out] at hj
    clear hr hN7 hO7 hu7 HUd HUc HA2 HU4
    cases hbo : Pk.aloneB other
    all_goals
      rw [hbo] at hj
      first | (rw [if_pos (by decide)] at hj) | (rw [if_neg (by decide)] at hj)
      subst hj
      go_wp2_with fail
      refine (alone_any kind w7).mono ?_
      rintro e w8 ⟨rfl, rfl⟩
      rw [HAL.out]
      go_wp2_with fail
      first
        | (refine (alone_any other w7).mono ?_
           rintro e w8 ⟨rfl, rfl⟩
           rw [hbo]
           go_wp2_with fail
           go_ret
           exact ⟨rfl, HU7⟩)
        | (go_ret
           exact ⟨rfl, HU7⟩)
end Go.Proofs.Ytjdcglioppbfhaa
