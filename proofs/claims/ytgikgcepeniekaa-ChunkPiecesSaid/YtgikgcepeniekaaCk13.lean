import Derived.Test.YtgikgcepeniekaaCk7
import Derived.Test.YtgikgcepeniekaaStaged
import Derived.Test.YtgikgcepeniekaaCkS
namespace Go.Proofs.Ytgikgcepeniekaa
open Go Go.RowKit
set_option linter.unusedVariables false
set_option linter.unusedSimpArgs false
/-! A piece: its values, checkPiece and flags. -/
namespace Ck
structure Pc where
  tsn : Int
  str : Int
  seq : Int
  bg : Bool
  en : Bool
  un : Bool
  bs : List Int
structure PcOk (p : Pc) : Prop where
  tsn : 0 ≤ p.tsn ∧ p.tsn < 4294967296
  str : 0 ≤ p.str ∧ p.str < 65536
  seq : 0 ≤ p.seq ∧ p.seq < 65536
def chkP (p : Pc) : Int := if p.bs.length = 0 ∨ 8 ≤ p.str then 2 else if 256 < p.bs.length then 4 else 0
def flgB (a b c : Bool) : Int := (if a then 2 else 0) + (if b then 1 else 0) + (if c then 4 else 0)
def flg (p : Pc) : Int := flgB p.bg p.en p.un
end Ck
def pcV (p : Ck.Pc) (v : Value) : Value := .agg #[.int .u32 p.tsn, .int .u16 p.str, .int .u16 p.seq, .bool p.bg, .bool p.en, .bool p.un, v]
def RetU8 (k : Int) (w : World) (e : Ending) (w' : World) : Prop := e = .returned (.int .u8 k) ∧ Hid (Up w w')
set_option maxRecDepth 100000 in
theorem chkp_a (p : Ck.Pc) (A : Option Addr) (m c : Nat) (w : World) (h1 : m = 0) : Calls Try.prog 51 #[pcV p (.slice A m c)] w (RetI 2 w) := by
  obtain ⟨tsn, str, seq, bg, en, un, bs⟩ := p
  unfold pcV
  subst h1
  skip
  skip
  skip
  go_enter Try.func51, Try.ntmps51
  go_wp2_with fail
  go_ret
  exact ⟨rfl, Lib.hid (up_alloc _ _)⟩
set_option maxRecDepth 100000 in
theorem chkp_b (p : Ck.Pc) (A : Option Addr) (m c : Nat) (w : World) (h1 : 0 < m) (h2 : 8 ≤ p.str) : Calls Try.prog 51 #[pcV p (.slice A m c)] w (RetI 2 w) := by
  obtain ⟨tsn, str, seq, bg, en, un, bs⟩ := p
  unfold pcV

  have d1 : ((m : Int) == 0) = false := by rw [beq_eq_false_iff_ne]; omega
  simp only at h2
  have d2 : decide (8 ≤ str) = true := by simp; omega
  go_enter Try.func51, Try.ntmps51
  go_wp2_with fail
  go_ret
  exact ⟨rfl, Lib.hid (up_alloc _ _)⟩
set_option maxRecDepth 100000 in
theorem chkp_c (p : Ck.Pc) (A : Option Addr) (m c : Nat) (w : World) (h1 : 256 < m) (h2 : p.str < 8) : Calls Try.prog 51 #[pcV p (.slice A m c)] w (RetI 4 w) := by
  obtain ⟨tsn, str, seq, bg, en, un, bs⟩ := p
  unfold pcV

  have d1 : ((m : Int) == 0) = false := by rw [beq_eq_false_iff_ne]; omega
  simp only at h2
  have d2 : decide (8 ≤ str) = false := by simp; omega
  go_enter Try.func51, Try.ntmps51
  go_wp2_with fail
  go_ret
  exact ⟨rfl, Lib.hid (up_alloc _ _)⟩
set_option maxRecDepth 100000 in
theorem chkp_d (p : Ck.Pc) (A : Option Addr) (m c : Nat) (w : World) (h1 : 0 < m) (h2 : p.str < 8) (h3 : m ≤ 256) : Calls Try.prog 51 #[pcV p (.slice A m c)] w (RetI 0 w) := by
  obtain ⟨tsn, str, seq, bg, en, un, bs⟩ := p
  unfold pcV

  have d1 : ((m : Int) == 0) = false := by rw [beq_eq_false_iff_ne]; omega
  simp only at h2
  have d2 : decide (8 ≤ str) = false := by simp; omega
  go_enter Try.func51, Try.ntmps51
  go_wp2_with fail
  go_ret
  exact ⟨rfl, Lib.hid (up_alloc _ _)⟩
theorem chkP_any (p : Ck.Pc) (A : Option Addr) (m c : Nat) (w : World) (hm : m = p.bs.length) : Calls Try.prog 51 #[pcV p (.slice A m c)] w (RetI (Ck.chkP p) w) := by
  unfold Ck.chkP
  by_cases h1 : p.bs.length = 0
  · rw [if_pos (.inl h1)]; exact chkp_a p A m c w (by omega)
  by_cases h2 : 8 ≤ p.str
  · rw [if_pos (.inr h2)]; exact chkp_b p A m c w (by omega) h2
  rw [if_neg (fun hc => hc.elim h1 h2)]
  by_cases h3 : 256 < p.bs.length
  · rw [if_pos h3]; exact chkp_c p A m c w (by omega) (by omega)
  · rw [if_neg h3]; exact chkp_d p A m c w (by omega) (by omega) (by omega)
set_option maxRecDepth 100000 in
theorem flg_fff (tsn str seq : Int) (bs : List Int) (A : Option Addr) (m c : Nat) (w : World) : Calls Try.prog 53 #[pcV ⟨tsn, str, seq, false, false, false, bs⟩ (.slice A m c)] w (RetU8 (Ck.flg ⟨tsn, str, seq, false, false, false, bs⟩) w) := by
  unfold pcV
  go_enter Try.func53, Try.ntmps53
  go_wp2_with fail
  go_ret
  exact ⟨rfl, Lib.hid (up_alloc _ _)⟩
set_option maxRecDepth 100000 in
theorem flg_fft (tsn str seq : Int) (bs : List Int) (A : Option Addr) (m c : Nat) (w : World) : Calls Try.prog 53 #[pcV ⟨tsn, str, seq, false, false, true, bs⟩ (.slice A m c)] w (RetU8 (Ck.flg ⟨tsn, str, seq, false, false, true, bs⟩) w) := by
  unfold pcV
  go_enter Try.func53, Try.ntmps53
  go_wp2_with fail
  go_ret
  exact ⟨rfl, Lib.hid (up_alloc _ _)⟩
set_option maxRecDepth 100000 in
theorem flg_ftf (tsn str seq : Int) (bs : List Int) (A : Option Addr) (m c : Nat) (w : World) : Calls Try.prog 53 #[pcV ⟨tsn, str, seq, false, true, false, bs⟩ (.slice A m c)] w (RetU8 (Ck.flg ⟨tsn, str, seq, false, true, false, bs⟩) w) := by
  unfold pcV
  go_enter Try.func53, Try.ntmps53
  go_wp2_with fail
  go_ret
  exact ⟨rfl, Lib.hid (up_alloc _ _)⟩
set_option maxRecDepth 100000 in
theorem flg_ftt (tsn str seq : Int) (bs : List Int) (A : Option Addr) (m c : Nat) (w : World) : Calls Try.prog 53 #[pcV ⟨tsn, str, seq, false, true, true, bs⟩ (.slice A m c)] w (RetU8 (Ck.flg ⟨tsn, str, seq, false, true, true, bs⟩) w) := by
  unfold pcV
  go_enter Try.func53, Try.ntmps53
  go_wp2_with fail
  go_ret
  exact ⟨rfl, Lib.hid (up_alloc _ _)⟩
set_option maxRecDepth 100000 in
theorem flg_tff (tsn str seq : Int) (bs : List Int) (A : Option Addr) (m c : Nat) (w : World) : Calls Try.prog 53 #[pcV ⟨tsn, str, seq, true, false, false, bs⟩ (.slice A m c)] w (RetU8 (Ck.flg ⟨tsn, str, seq, true, false, false, bs⟩) w) := by
  unfold pcV
  go_enter Try.func53, Try.ntmps53
  go_wp2_with fail
  go_ret
  exact ⟨rfl, Lib.hid (up_alloc _ _)⟩
set_option maxRecDepth 100000 in
theorem flg_tft (tsn str seq : Int) (bs : List Int) (A : Option Addr) (m c : Nat) (w : World) : Calls Try.prog 53 #[pcV ⟨tsn, str, seq, true, false, true, bs⟩ (.slice A m c)] w (RetU8 (Ck.flg ⟨tsn, str, seq, true, false, true, bs⟩) w) := by
  unfold pcV
  go_enter Try.func53, Try.ntmps53
  go_wp2_with fail
  go_ret
  exact ⟨rfl, Lib.hid (up_alloc _ _)⟩
set_option maxRecDepth 100000 in
theorem flg_ttf (tsn str seq : Int) (bs : List Int) (A : Option Addr) (m c : Nat) (w : World) : Calls Try.prog 53 #[pcV ⟨tsn, str, seq, true, true, false, bs⟩ (.slice A m c)] w (RetU8 (Ck.flg ⟨tsn, str, seq, true, true, false, bs⟩) w) := by
  unfold pcV
  go_enter Try.func53, Try.ntmps53
  go_wp2_with fail
  go_ret
  exact ⟨rfl, Lib.hid (up_alloc _ _)⟩
set_option maxRecDepth 100000 in
theorem flg_ttt (tsn str seq : Int) (bs : List Int) (A : Option Addr) (m c : Nat) (w : World) : Calls Try.prog 53 #[pcV ⟨tsn, str, seq, true, true, true, bs⟩ (.slice A m c)] w (RetU8 (Ck.flg ⟨tsn, str, seq, true, true, true, bs⟩) w) := by
  unfold pcV
  go_enter Try.func53, Try.ntmps53
  go_wp2_with fail
  go_ret
  exact ⟨rfl, Lib.hid (up_alloc _ _)⟩
theorem flg_any (p : Ck.Pc) (A : Option Addr) (m c : Nat) (w : World) : Calls Try.prog 53 #[pcV p (.slice A m c)] w (RetU8 (Ck.flg p) w) := by
  obtain ⟨tsn, str, seq, bg, en, un, bs⟩ := p
  cases bg <;> cases en <;> cases un
  · exact flg_fff _ _ _ _ _ _ _ _
  · exact flg_fft _ _ _ _ _ _ _ _
  · exact flg_ftf _ _ _ _ _ _ _ _
  · exact flg_ftt _ _ _ _ _ _ _ _
  · exact flg_tff _ _ _ _ _ _ _ _
  · exact flg_tft _ _ _ _ _ _ _ _
  · exact flg_ttf _ _ _ _ _ _ _ _
  · exact flg_ttt _ _ _ _ _ _ _ _
end Go.Proofs.Ytgikgcepeniekaa
namespace Go.Proofs.Ytgikgcepeniekaa
open Go Go.RowKit
set_option linter.unusedVariables false
set_option linter.unusedSimpArgs false
/-- The bytes of a piece. -/
def encP (p : Ck.Pc) : List Int := be p.tsn 4 ++ be p.str 2 ++ be p.seq 2 ++ be 46 4 ++ p.bs
set_option maxRecDepth 100000 in
theorem fromP_err (p : Ck.Pc) (A : Option Addr) (m c : Nat) (k : Int) (w : World) (hm : m = p.bs.length) (hk : Ck.chkP p = k) (hk2 : k = 2 ∨ k = 4) : Calls Try.prog 23 #[pcV p (.slice A m c)] w (ChErr k w) := by
  obtain ⟨W, hW⟩ : ∃ W, W = (w.alloc (.cells #[.int .u32 p.tsn, .int .u16 p.str, .int .u16 p.seq, .bool p.bg, .bool p.en, .bool p.un, .slice A m c] 50)).alloc (.cells #[.int .u8 0, .int .u8 0, .slice none 0 0] 41) := ⟨_, rfl⟩
  have u1 := up_alloc w (.cells #[.int .u32 p.tsn, .int .u16 p.str, .int .u16 p.seq, .bool p.bg, .bool p.en, .bool p.un, .slice A m c] 50)
  have a1 := new_at w (.cells #[.int .u32 p.tsn, .int .u16 p.str, .int .u16 p.seq, .bool p.bg, .bool p.en, .bool p.un, .slice A m c] 50)
  have u2 := up_alloc (w.alloc (.cells #[.int .u32 p.tsn, .int .u16 p.str, .int .u16 p.seq, .bool p.bg, .bool p.en, .bool p.un, .slice A m c] 50)) (.cells #[.int .u8 0, .int .u8 0, .slice none 0 0] 41)
  have a2 := new_at (w.alloc (.cells #[.int .u32 p.tsn, .int .u16 p.str, .int .u16 p.seq, .bool p.bg, .bool p.en, .bool p.un, .slice A m c] 50)) (.cells #[.int .u8 0, .int .u8 0, .slice none 0 0] 41)
  have b1 := (u2.block _ (lt_of_blk a1)).trans a1
  have s1 : (w.alloc (.cells #[.int .u32 p.tsn, .int .u16 p.str, .int .u16 p.seq, .bool p.bg, .bool p.en, .bool p.un, .slice A m c] 50)).heap.size = w.heap.size + 1 := by simp
  rw [s1] at a2
  have HS := Lib.hid (show ((w.alloc (.cells #[.int .u32 p.tsn, .int .u16 p.str, .int .u16 p.seq, .bool p.bg, .bool p.en, .bool p.un, .slice A m c] 50)).alloc (.cells #[.int .u8 0, .int .u8 0, .slice none 0 0] 41)).heap.size = w.heap.size + 1 + 1 by simp)
  have HU := Lib.hid (u1.trans u2)
  rw [← hW] at a2 b1 HU HS
  have HW := Lib.hid hW
  have HQ := Lib.hid a2
  have HB := Lib.hid b1
  have c0 := cell_of b1 (j := 0) rfl
  have c1 := cell_of b1 (j := 1) rfl
  have c2 := cell_of b1 (j := 2) rfl
  have c3 := cell_of b1 (j := 3) rfl
  have c4 := cell_of b1 (j := 4) rfl
  have c5 := cell_of b1 (j := 5) rfl
  have c6 := cell_of b1 (j := 6) rfl
  clear u1 a1 u2 a2 b1 s1 hW
  have HM := Lib.hid hm
  have HK := Lib.hid hk
  clear hm hk
  unfold pcV
  go_enter Try.func23, Try.ntmps23
  go_upto_region 1 with (fail)
  rw [← HW.out]
  go_wp2_with fail
  refine (chkP_any p A m c W HM.out).mono ?_
  rintro e w1 ⟨rfl, hu⟩
  rw [HK.out]
  have HQ1 := Lib.hid ((hu.out.block _ (lt_of_blk HQ.out)).trans HQ.out)
  have HU1 := Lib.hid (HU.out.trans hu.out)
  clear c0 c1 c2 c3 c4 c5 c6 hu
  have e0 := cell_of HQ1.out (j := 0) rfl
  have f0 := frozen_at (j := 0) HQ1.out
  have e1 := cell_of HQ1.out (j := 1) rfl
  have f1 := frozen_at (j := 1) HQ1.out
  have e2 := cell_of HQ1.out (j := 2) rfl
  have f2 := frozen_at (j := 2) HQ1.out
  rcases hk2 with rfl | rfl
  · go_wp2_with fail
    have hs := set3 (a := .int .u8 0) (b := .int .u8 0) (c := .slice none 0 0) HQ1.out rfl
    refine bodyPost_ret (results_row_tmp (fn := Try.f23) (p := 2) (u := 3) (ty := 41) rfl _ _ (w.heap.size + 1) 41 _ (0, 0) _ rfl hs.1 Try.underlying41 rfl rfl) rfl ⟨rfl, Lib.hid (Below.out HU1.out hs.2 (fun k hk => by rw [hk]; omega) HU1.out.size)⟩
  · go_wp2_with fail
    have hs := set3 (a := .int .u8 0) (b := .int .u8 0) (c := .slice none 0 0) HQ1.out rfl
    refine bodyPost_ret (results_row_tmp (fn := Try.f23) (p := 2) (u := 3) (ty := 41) rfl _ _ (w.heap.size + 1) 41 _ (0, 0) _ rfl hs.1 Try.underlying41 rfl rfl) rfl ⟨rfl, Lib.hid (Below.out HU1.out hs.2 (fun k hk => by rw [hk]; omega) HU1.out.size)⟩
set_option maxRecDepth 100000 in
set_option maxHeartbeats 2000000 in
theorem fromP_ok (p : Ck.Pc) (A : Option Addr) (m c : Nat) (w : World) (hin : InB w A m c p.bs) (hk : Ck.chkP p = 0) (ho : Ck.PcOk p) : Calls Try.prog 23 #[pcV p (.slice A m c)] w (ChPost 0 (Ck.flg p) (encP p) w) := by
  have hm : m ≤ 256 := by
    unfold Ck.chkP at hk
    split at hk
    · omega
    · split at hk
      · omega
      · have := hin.len; omega
  obtain ⟨W, hW⟩ : ∃ W, W = (w.alloc (.cells #[.int .u32 p.tsn, .int .u16 p.str, .int .u16 p.seq, .bool p.bg, .bool p.en, .bool p.un, .slice A m c] 50)).alloc (.cells #[.int .u8 0, .int .u8 0, .slice none 0 0] 41) := ⟨_, rfl⟩
  have u1 := up_alloc w (.cells #[.int .u32 p.tsn, .int .u16 p.str, .int .u16 p.seq, .bool p.bg, .bool p.en, .bool p.un, .slice A m c] 50)
  have a1 := new_at w (.cells #[.int .u32 p.tsn, .int .u16 p.str, .int .u16 p.seq, .bool p.bg, .bool p.en, .bool p.un, .slice A m c] 50)
  have u2 := up_alloc (w.alloc (.cells #[.int .u32 p.tsn, .int .u16 p.str, .int .u16 p.seq, .bool p.bg, .bool p.en, .bool p.un, .slice A m c] 50)) (.cells #[.int .u8 0, .int .u8 0, .slice none 0 0] 41)
  have a2 := new_at (w.alloc (.cells #[.int .u32 p.tsn, .int .u16 p.str, .int .u16 p.seq, .bool p.bg, .bool p.en, .bool p.un, .slice A m c] 50)) (.cells #[.int .u8 0, .int .u8 0, .slice none 0 0] 41)
  have b1 := (u2.block _ (lt_of_blk a1)).trans a1
  have s1 : (w.alloc (.cells #[.int .u32 p.tsn, .int .u16 p.str, .int .u16 p.seq, .bool p.bg, .bool p.en, .bool p.un, .slice A m c] 50)).heap.size = w.heap.size + 1 := by simp
  rw [s1] at a2
  have HS := Lib.hid (show ((w.alloc (.cells #[.int .u32 p.tsn, .int .u16 p.str, .int .u16 p.seq, .bool p.bg, .bool p.en, .bool p.un, .slice A m c] 50)).alloc (.cells #[.int .u8 0, .int .u8 0, .slice none 0 0] 41)).heap.size = w.heap.size + 1 + 1 by simp)
  have HU := Lib.hid (u1.trans u2)
  rw [← hW] at a2 b1 HU HS
  have HW := Lib.hid hW
  have HQ := Lib.hid a2
  have HB := Lib.hid b1
  have c0 := cell_of b1 (j := 0) rfl
  have c1 := cell_of b1 (j := 1) rfl
  have c2 := cell_of b1 (j := 2) rfl
  have c3 := cell_of b1 (j := 3) rfl
  have c4 := cell_of b1 (j := 4) rfl
  have c5 := cell_of b1 (j := 5) rfl
  have c6 := cell_of b1 (j := 6) rfl
  clear u1 a1 u2 a2 b1 s1 hW
  have HI := Lib.hid hin
  have HKp := Lib.hid hk
  have HO := Lib.hid ho
  clear hin hk ho
  unfold pcV
  go_enter Try.func23, Try.ntmps23
  go_upto_region 1 with (fail)
  rw [← HW.out]
  go_wp2_with fail
  refine (chkP_any p A m c W HI.out.len.symm).mono ?_
  rintro e w1 ⟨rfl, hu⟩
  rw [HKp.out]
  have HQ1 := Lib.hid ((hu.out.block _ (lt_of_blk HQ.out)).trans HQ.out)
  have HB1 := Lib.hid ((hu.out.block _ (lt_of_blk HB.out)).trans HB.out)
  have F0 := Lib.hid (FH.start HB1.out HQ1.out (HU.out.trans hu.out))
  have HGQ := Lib.hid (lt_of_blk HQ1.out)
  clear c0 c1 c2 c3 c4 c5 c6 hu HQ1 HB1
  go_upto_region 5 with (fail)
  generalize (w1.alloc (.cells #[.slice none 0 0] 70)) = w2 at F0 ⊢
  generalize w1.heap.size = g at F0 HGQ ⊢
  have k0 := F0.out.cell (j := 0) rfl
  go_wp2_with fail
  refine (F0.out.four HO.out.tsn.1 HO.out.tsn.2 (by simp [be_length])).mono ?_
  rintro e v0 ⟨rfl, F1⟩
  have k1 := F1.out.cell (j := 1) rfl
  clear k0 F0
  go_wp2_with fail
  refine (F1.out.two HO.out.str.1 HO.out.str.2 (by simp [be_length])).mono ?_
  rintro e v1 ⟨rfl, F2⟩
  have k2 := F2.out.cell (j := 2) rfl
  clear k1 F1
  go_wp2_with fail
  refine (F2.out.two HO.out.seq.1 HO.out.seq.2 (by simp [be_length])).mono ?_
  rintro e v2 ⟨rfl, F3⟩
  clear k2 F2
  go_wp2_with fail
  refine (F3.out.four (n := 46) (by omega) (by omega) (by simp [be_length])).mono ?_
  rintro e v3 ⟨rfl, F4⟩
  have k4 := F4.out.cell (j := 6) rfl
  go_wp2_with fail
  refine (F4.out.bytes HI.out (by simp [be_length]; omega)).mono ?_
  rintro e v4 ⟨rfl, F5⟩
  clear k4 F4
  obtain ⟨A9, N9, c9, k9, hN9, hO9, hq9, hd9, hu9⟩ := F5.out.fin
  have hb9 := Lib.hid (show v4.heap[w.heap.size]? = some (.cells #[.int .u32 p.tsn, .int .u16 p.str, .int .u16 p.seq, .bool p.bg, .bool p.en, .bool p.un, .slice A m c] 50 (0, 0)) from F5.out.choose_spec.2.1)
  have hgq := HGQ.out
  go_upto_region 10 with (fail)
  have HK : ∀ φ ∈ [Is (pcV p (.slice A m c)), Is (.int .u8 (Ck.flg p)), Is (.pointer (some ⟨g, 0, none⟩)), Is (.slice A9 N9 c9), Is (.agg #[.int .u8 0, .int .u8 (Ck.flg p), .slice A9 N9 c9]), Tru, Is (.int .i64 0)], Keeps φ := by
    intro φ hφ
    simp only [List.mem_cons, List.mem_nil_iff, or_false] at hφ
    rcases hφ with rfl | rfl | rfl | rfl | rfl | rfl | rfl <;> first | exact keeps_is _ | exact fun _ _ _ _ _ => trivial
  have HF : ∀ φ ∈ [Is (pcV p (.slice A m c)), Is (.int .u8 (Ck.flg p)), Is (.pointer (some ⟨g, 0, none⟩)), Is (.slice A9 N9 c9), Is (.agg #[.int .u8 0, .int .u8 (Ck.flg p), .slice A9 N9 c9]), Tru, Is (.int .i64 0)], Free φ := by
    intro φ hφ
    simp only [List.mem_cons, List.mem_nil_iff, or_false] at hφ
    rcases hφ with rfl | rfl | rfl | rfl | rfl | rfl | rfl <;> first | exact free_is _ | exact free_tru
  refine staged_lit (by kernel_rfl) (facts [Is (pcV p (.slice A m c)), Is (.int .u8 (Ck.flg p)), Is (.pointer (some ⟨g, 0, none⟩)), Is (.slice A9 N9 c9), Is (.agg #[.int .u8 0, .int .u8 (Ck.flg p), .slice A9 N9 c9]), Tru, Is (.int .i64 0)]) (Stg [5] (WB (w.heap.size + 1) 41 (fun k => if k = 0 then #[.int .u8 0, .int .u8 0, .slice none 0 0] else #[.int .u8 0, .int .u8 (Ck.flg p), .slice A9 N9 c9]) v4)) 30 rfl (by decide +kernel) (by decide +kernel) (Stg.start ⟨(Up.drew v4).out _, ((Up.drew v4).block _ (lt_of_blk hq9.out)).trans hq9.out⟩) ?_ ?_
  · refine ⟨?_, ?_, ?_, ?_, ?_, ?_, ?_, trivial⟩
    · refine opS_same rfl rfl fun L ac w1 hJ hl hc ho hd => ?_
      have s1 : ac.eval (.tmp 1) = .pointer (some ⟨w.heap.size, 0, none⟩) := ho 1 rfl
      obtain ⟨_, _, hW⟩ := hJ
      exact ⟨_, x_load 50 (.tmp 1) rfl s1 (run_loadRow (cs := #[.int .u32 p.tsn, .int .u16 p.str, .int .u16 p.seq, .bool p.bg, .bool p.en, .bool p.un, .slice A m c]) (hW.1.blk hb9.out (fun e => by omega)) Try.underlying50 rfl rfl), rfl⟩
    · refine opS_callUp rfl rfl (fun k wa wb h hu => wb_up h hu) (facts_keep HK) fun L ac w1 hJ hl hc ho hd => ?_
      have d0 : ac.eval (.tmp 25) = pcV p (.slice A m c) := hd 0 _ _ rfl rfl rfl
      refine ⟨53, _, x_fcall 53 [.tmp 25] _ rfl (by kernel_rfl), ?_⟩
      simp only [List.map_cons, List.map_nil, d0]
      exact (flg_any p A m c w1).mono fun e w2 ⟨he, hu⟩ => ⟨_, he, hu.out, rfl⟩
    · refine opS_same rfl rfl fun L ac w1 hJ hl hc ho hd => ?_
      have s5 : ac.eval (.tmp 5) = .pointer (some ⟨g, 0, none⟩) := ho 5 rfl
      exact ⟨_, x_field 70 (.tmp 5) 0 rfl s5 (fld700 _ _ _), rfl⟩
    · refine opS_same rfl rfl fun L ac w1 hJ hl hc ho hd => ?_
      have d2 : ac.eval (.tmp 27) = .pointer (some ⟨g, 0, none⟩) := hd 2 _ _ rfl rfl rfl
      obtain ⟨_, _, hW⟩ := hJ
      exact ⟨_, x_load 23 (.tmp 27) rfl d2 (run_load1 agg23 (cell_out k9 hW.1 (by show ¬ (g = _); have := hgq; omega))), rfl⟩
    · refine opS_same rfl rfl fun L ac w1 hJ hl hc ho hd => ?_
      have d1 : ac.eval (.tmp 26) = .int .u8 (Ck.flg p) := hd 1 _ _ rfl rfl rfl
      have d3 : ac.eval (.tmp 28) = .slice A9 N9 c9 := hd 3 _ _ rfl rfl rfl
      exact ⟨_, x_build 41 _ rfl (by simp only [List.map_toArray, List.map_cons, List.map_nil, d1, d3]; exact build_ch A9 N9 c9 0 (Ck.flg p) w1), rfl⟩
    · refine opS_write (j := 0) rfl rfl (by decide) rfl (fun y hy h0 => absurd h0 (by omega)) fun ac w1 hW ho hd => ?_
      have s2 : ac.eval (.tmp 2) = .pointer (some ⟨w.heap.size + 1, 0, none⟩) := ho 2 rfl
      have d4 : ac.eval (.tmp 29) = .agg #[.int .u8 0, .int .u8 (Ck.flg p), .slice A9 N9 c9] := hd 4 _ _ rfl rfl rfl
      have hs := set3 (a := .int .u8 0) (b := .int .u8 (Ck.flg p)) (c := .slice A9 N9 c9) hW.2 rfl
      exact ⟨_, x_store 41 (.tmp 2) (.tmp 29) rfl s2 d4 (run_store3 sz41 hW.2 rfl rfl rfl rfl), ⟨hW.1.trans hs.2 (Sub.refl _ _), hs.1⟩, fun _ => trivial, fun j x hx => facts_free HF j x hx⟩
    · refine opS_same rfl rfl fun L ac w1 hJ hl hc ho hd => ?_
      exact ⟨_, x_assign (.const (.int .i64 0)) rfl rfl, rfl⟩
  · intro L a1 w9 hI hall
    obtain ⟨k, hk, hW⟩ := hI.done hall (by simp)
    obtain ⟨k, rfl⟩ : ∃ q, k = q + 1 := ⟨k - 1, by simp at hk; omega⟩
    have Z := Lib.hid (show Out (fun j => j = w.heap.size + 1) v4 w9 ∧ w9.heap[w.heap.size + 1]? = some (.cells #[.int .u8 0, .int .u8 (Ck.flg p), .slice A9 N9 c9] 41 (0, 0)) from hW)
    clear hk hW k HK HF
    have l0 : a1.tmps.getD 0 undef = pcV p (.slice A m c) := hI.old 0 rfl
    have l1 : a1.tmps.getD 1 undef = .pointer (some ⟨w.heap.size, 0, none⟩) := hI.old 1 rfl
    have l2 : a1.tmps.getD 2 undef = .pointer (some ⟨w.heap.size + 1, 0, none⟩) := hI.old 2 rfl
    have l5 : a1.tmps.getD 5 undef = .pointer (some ⟨g, 0, none⟩) := hI.old 5 rfl
    have l3 : a1.tmps.getD 3 undef = .int .i64 0 := hI.get hall (i := 6) rfl rfl
    have hde : a1.defers = [] := hI.defers
    have hal := act_lit a1 30 hI.size
    clear hI
    simp only [List.range, List.range.loop, List.map_cons, List.map_nil] at hal
    rw [l0, l1, l2, l5, l3, hde] at hal
    generalize a1.tmps.getD 4 undef = t4 at hal
    generalize a1.tmps.getD 6 undef = t6 at hal
    generalize a1.tmps.getD 7 undef = t7 at hal
    generalize a1.tmps.getD 8 undef = t8 at hal
    generalize a1.tmps.getD 9 undef = t9 at hal
    generalize a1.tmps.getD 10 undef = t10 at hal
    generalize a1.tmps.getD 11 undef = t11 at hal
    generalize a1.tmps.getD 12 undef = t12 at hal
    generalize a1.tmps.getD 13 undef = t13 at hal
    generalize a1.tmps.getD 14 undef = t14 at hal
    generalize a1.tmps.getD 15 undef = t15 at hal
    generalize a1.tmps.getD 16 undef = t16 at hal
    generalize a1.tmps.getD 17 undef = t17 at hal
    generalize a1.tmps.getD 18 undef = t18 at hal
    generalize a1.tmps.getD 19 undef = t19 at hal
    generalize a1.tmps.getD 20 undef = t20 at hal
    generalize a1.tmps.getD 21 undef = t21 at hal
    generalize a1.tmps.getD 22 undef = t22 at hal
    generalize a1.tmps.getD 23 undef = t23 at hal
    generalize a1.tmps.getD 24 undef = t24 at hal
    generalize a1.tmps.getD 25 undef = t25 at hal
    generalize a1.tmps.getD 26 undef = t26 at hal
    generalize a1.tmps.getD 27 undef = t27 at hal
    generalize a1.tmps.getD 28 undef = t28 at hal
    generalize a1.tmps.getD 29 undef = t29 at hal
    clear l0 l1 l2 l5 l3 hde
    subst hal
    go_wp2_with fail
    refine bodyPost_ret (results_row_tmp (fn := Try.f23) (p := 2) (u := 3) (ty := 41) rfl _ _ (w.heap.size + 1) 41 _ (0, 0) _ rfl Z.out.2 Try.underlying41 rfl rfl) rfl ⟨A9, N9, c9, rfl, Lib.hid ?_, Lib.hid ?_, Lib.hid (Below.out hu9.out Z.out.1 (fun k hk => by rw [hk]; omega) hu9.out.size)⟩
    · rw [hN9.out]; simp [encP]
    · have := show OwnI .u8 5 w.heap.size _ A9 N9 c9 _ from Z.out.1.own hO9.out (fun q hq e => hd9.out q (by rwa [ownBlock_slice] at hq) e)
      simpa [encP] using this
end Go.Proofs.Ytgikgcepeniekaa
