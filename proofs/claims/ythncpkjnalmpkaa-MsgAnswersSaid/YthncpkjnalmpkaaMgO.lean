import Derived.Test.YthncpkjnalmpkaaMgN
import Derived.Test.YthncpkjnalmpkaaAvR2
namespace Go.Proofs.Ythncpkjnalmpkaa
open Go Go.RowKit Mg
set_option linter.unusedVariables false
set_option linter.unusedSimpArgs false
/-! The reference's Head. -/
theorem build25 (a b c d : Bool) (e f g h : Int) (w : World) : (Instr.build 25 #[(0, .bool a), (1, .bool b), (2, .bool c), (3, .bool d), (4, .int .u32 e), (5, .int .u32 f), (6, .int .u32 g), (7, .int .u32 h)]).run Try.prog w = .ok (.agg #[.bool a, .bool b, .bool c, .bool d, .int .u32 e, .int .u32 f, .int .u32 g, .int .u32 h, .slice none 0 0]) w := by kernel_rfl
theorem x_alloc25 {o : Oper} {a : Act} {w : World} (ho : o.op = .alloc 25) : (execOp a.eval o).run Try.prog w = .ok (.value (.pointer (some ⟨w.heap.size, 0, none⟩))) (w.alloc (.cells #[.bool false, .bool false, .bool false, .bool false, .int .u32 0, .int .u32 0, .int .u32 0, .int .u32 0, .slice none 0 0] 25)) := by
  unfold execOp; rw [ho]; kernel_rfl
def NewM (base : Nat) (v : Value) (w : World) : Prop := ∃ b, v = .pointer (some ⟨b, 0, none⟩) ∧ base ≤ b ∧ w.heap[b]? = some (.cells #[.bool false, .bool false, .bool false, .bool false, .int .u32 0, .int .u32 0, .int .u32 0, .int .u32 0, .slice none 0 0] 25 (0, 0))
theorem keeps_newM (base : Nat) : Keeps (NewM base) := fun v w w' ⟨b, h1, h2, h3⟩ hu => ⟨b, h1, h2, (hu.block b (lt_of_blk h3)).trans h3⟩
theorem rawM_nat {b : List Int} {B : Nat} (h : b.getD 4 0 = (B : Int)) : (rawM b).req = decide (B / 128 = 1) ∧ (rawM b).prox = decide (B / 64 % 2 = 1) ∧ (rawM b).fail = decide (B / 32 % 2 = 1) ∧ (rawM b).again = decide (B / 16 % 2 = 1) := by
  unfold rawM
  simp only [h, decide_eq_decide]
  omega
set_option maxRecDepth 100000 in
set_option maxHeartbeats 8000000 in
theorem rhead_short (A : Option Addr) (n c : Nat) (b : List Int) (w : World) (h : InB w A n c b) (hn : n < 20) : Calls Try.prog 17 #[.slice A n c] w (HPost b w) := by
  have HE := Lib.hid (show headE b = 3 by unfold headE; rw [if_pos (by rw [h.len]; exact hn)])
  clear h
  have HU := Lib.hid (up_alloc w (.cells #[.bool false, .bool false, .bool false, .bool false, .int .u32 0, .int .u32 0, .int .u32 0, .int .u32 0, .slice none 0 0] 25))
  have HQ := Lib.hid (new_at w (.cells #[.bool false, .bool false, .bool false, .bool false, .int .u32 0, .int .u32 0, .int .u32 0, .int .u32 0, .slice none 0 0] 25))
  have d1 : decide ((n : Int) < 20) = true := decide_eq_true (by omega)
  go_enter Try.func17, Try.ntmps17
  go_upto_region 1 with (fail)
  obtain ⟨q, HQE⟩ : ∃ q, Hid (w.heap.size = q) := ⟨_, Lib.hid rfl⟩
  rw [HQE.out] at HQ ⊢
  generalize w.alloc (.cells #[.bool false, .bool false, .bool false, .bool false, .int .u32 0, .int .u32 0, .int .u32 0, .int .u32 0, .slice none 0 0] 25) = wa at HU HQ ⊢
  go_wp2_with (with_reducible refine wpList_store_row rfl 25 _ _ rfl q #[.bool false, .bool false, .bool false, .bool false, .int .u32 0, .int .u32 0, .int .u32 0, .int .u32 0, .slice none 0 0] rfl rfl 25 _ HQ.out (by kernel_rfl) rfl (by simp [Value.oneCell']) ?_)
  refine bodyPost_ret (results_row_tmp (fn := Try.f17) (p := 2) (u := 3) (ty := 25) rfl _ _ q 25 _ (0, 0) _ rfl (setRow_heap _ _ _ _ _ _ HQ.out) Try.underlying25 rfl (by kernel_rfl)) rfl ?_
  exact hPost_no rfl HE.out (by decide) (below_setRow HU.out (by rw [HQE.out]; exact Nat.le_refl _) _)
set_option maxRecDepth 100000 in
set_option maxHeartbeats 20000000 in
theorem rhead_long (A : Option Addr) (n c : Nat) (b : List Int) (w : World) (h : InB w A n c b) (hm : n ≤ 140737488355328) (hn : 20 ≤ n) : Calls Try.prog 17 #[.slice A n c] w (HPost b w) := by
  obtain ⟨g, o, rfl⟩ := h.some_ (by omega)
  have hbyt := h.byt
  have HE := Lib.hid (show headE b = if b.getD 0 0 ≠ 1 then 2 else if 4096 < lenM b then 4 else if b.length < lenM b then 3
  else if lenM b < b.length ∨ lenM b % 4 ≠ 0 ∨ mixM (rawM b) = true then 2 else 0 by unfold headE; rw [if_neg (by rw [h.len]; omega)])
  rw [h.len] at HE
  have HI := Lib.hid h
  obtain ⟨L, HL⟩ : ∃ L : Nat, Hid (num 0 ((b.drop 1).take 3) = (L : Int)) := ⟨_, Lib.hid (Int.eq_ofNat_of_zero_le (num24 h.byt 1 3 (.inl rfl)).1).choose_spec⟩
  have HLM := Lib.hid (show lenM b = L by unfold lenM; rw [HL.out]; rfl)
  have hL24 : L < 16777216 := by have := (num24 h.byt 1 3 (.inl rfl)).2; rw [HL.out, p256_3'] at this; omega
  rw [HLM.out] at HE
  have b0 := (getD_byt h.byt 0).1
  have b1 := (getD_byt h.byt 0).2
  obtain ⟨b00, HB0⟩ : ∃ x : Int, Hid (b.getD 0 0 = x) := ⟨_, Lib.hid rfl⟩
  obtain ⟨B, HB04⟩ : ∃ B : Nat, Hid (b.getD 4 0 = (B : Int)) := ⟨_, Lib.hid (Int.eq_ofNat_of_zero_le (getD_byt h.byt 4).1).choose_spec⟩
  have HBB := Lib.hid (show B < 256 by have := (getD_byt h.byt 4).2; rw [HB04.out] at this; omega)
  have HRN := Lib.hid (rawM_nat HB04.out)
  rw [HB0.out] at HE b0 b1
  clear h
  have HU := Lib.hid (up_alloc w (.cells #[.bool false, .bool false, .bool false, .bool false, .int .u32 0, .int .u32 0, .int .u32 0, .int .u32 0, .slice none 0 0] 25))
  have HQ := Lib.hid (new_at w (.cells #[.bool false, .bool false, .bool false, .bool false, .int .u32 0, .int .u32 0, .int .u32 0, .int .u32 0, .slice none 0 0] 25))
  have d1 : decide ((n : Int) < 20) = false := decide_eq_false (by omega)
  go_enter Try.func17, Try.ntmps17
  go_upto_region 1 with (fail)
  obtain ⟨q, HQE⟩ : ∃ q, Hid (w.heap.size = q) := ⟨_, Lib.hid rfl⟩
  rw [HQE.out] at HQ ⊢
  generalize w.alloc (.cells #[.bool false, .bool false, .bool false, .bool false, .int .u32 0, .int .u32 0, .int .u32 0, .int .u32 0, .slice none 0 0] 25) = wa0 at HU HQ ⊢
  have HIa := Lib.hid (HI.out.up HU.out)
  go_wp2_with fail
  refine (rnum_ok _ n c 1 3 b wa0 HIa.out hm (by omega) (by omega) (by omega)).mono ?_
  rw [HL.out]
  rintro e wa ⟨rfl, hua⟩
  have HQ := Lib.hid (blk_up HQ.out hua)
  have HU := Lib.hid (HU.out.trans hua)
  have HIa := Lib.hid (HIa.out.up hua)
  clear hua
  have c0 : wa.cell? ⟨g, o, none⟩ = some (.int .u8 b00) := by have := cellB HIa.out (j := 0) (by omega); rw [HB0.out] at this; exact this
  by_cases hv : b00 = 1
  case neg =>
    have d2 : (b00 != 1) = true := by simpa using hv
    go_wp2_with (with_reducible refine wpList_store_row rfl 25 _ _ rfl q #[.bool false, .bool false, .bool false, .bool false, .int .u32 0, .int .u32 0, .int .u32 0, .int .u32 0, .slice none 0 0] rfl rfl 25 _ HQ.out (by kernel_rfl) rfl (by simp [Value.oneCell']) ?_)
    refine bodyPost_ret (results_row_tmp (fn := Try.f17) (p := 2) (u := 3) (ty := 25) rfl _ _ q 25 _ (0, 0) _ rfl (setRow_heap _ _ _ _ _ _ HQ.out) Try.underlying25 rfl (by kernel_rfl)) rfl ?_
    exact hPost_no rfl (by rw [HE.out, if_pos hv]) (by decide) (below_setRow HU.out (by rw [HQE.out]; exact Nat.le_refl _) _)
  subst hv
  have HE := Lib.hid (show headE b = if 4096 < L then 4 else if n < L then 3 else if L < n ∨ L % 4 ≠ 0 ∨ mixM (rawM b) = true then 2 else 0 by rw [HE.out, if_neg (fun h => h rfl)])
  by_cases h4 : 4096 < L
  case pos =>
    have d3 : decide (4096 < (L : Int)) = true := decide_eq_true (by omega)
    go_wp2_with (with_reducible refine wpList_store_row rfl 25 _ _ rfl q #[.bool false, .bool false, .bool false, .bool false, .int .u32 0, .int .u32 0, .int .u32 0, .int .u32 0, .slice none 0 0] rfl rfl 25 _ HQ.out (by kernel_rfl) rfl (by simp [Value.oneCell']) ?_)
    refine bodyPost_ret (results_row_tmp (fn := Try.f17) (p := 2) (u := 3) (ty := 25) rfl _ _ q 25 _ (0, 0) _ rfl (setRow_heap _ _ _ _ _ _ HQ.out) Try.underlying25 rfl (by kernel_rfl)) rfl ?_
    exact hPost_no rfl (by rw [HE.out, if_pos h4]) (by decide) (below_setRow HU.out (by rw [HQE.out]; exact Nat.le_refl _) _)
  have d3 : decide (4096 < (L : Int)) = false := decide_eq_false (by omega)
  have HE := Lib.hid (show headE b = if n < L then 3 else if L < n ∨ L % 4 ≠ 0 ∨ mixM (rawM b) = true then 2 else 0 by rw [HE.out, if_neg h4])
  by_cases hs : n < L
  case pos =>
    have d4 : decide ((n : Int) < (L : Int)) = true := decide_eq_true (by omega)
    go_wp2_with (with_reducible refine wpList_store_row rfl 25 _ _ rfl q #[.bool false, .bool false, .bool false, .bool false, .int .u32 0, .int .u32 0, .int .u32 0, .int .u32 0, .slice none 0 0] rfl rfl 25 _ HQ.out (by kernel_rfl) rfl (by simp [Value.oneCell']) ?_)
    refine bodyPost_ret (results_row_tmp (fn := Try.f17) (p := 2) (u := 3) (ty := 25) rfl _ _ q 25 _ (0, 0) _ rfl (setRow_heap _ _ _ _ _ _ HQ.out) Try.underlying25 rfl (by kernel_rfl)) rfl ?_
    exact hPost_no rfl (by rw [HE.out, if_pos hs]) (by decide) (below_setRow HU.out (by rw [HQE.out]; exact Nat.le_refl _) _)
  have d4 : decide ((n : Int) < (L : Int)) = false := decide_eq_false (by omega)
  have HE := Lib.hid (show headE b = if L < n ∨ L % 4 ≠ 0 ∨ mixM (rawM b) = true then 2 else 0 by rw [HE.out, if_neg hs])
  obtain ⟨C, HCC⟩ : ∃ x : Int, Hid (num 0 ((b.drop 5).take 3) = x) := ⟨_, Lib.hid rfl⟩
  have HBC := Lib.hid (show 0 ≤ C ∧ C < 4294967296 by rw [← HCC.out]; exact num_u32 hbyt 5 3 (by omega))
  obtain ⟨P, HPP⟩ : ∃ x : Int, Hid (num 0 ((b.drop 8).take 4) = x) := ⟨_, Lib.hid rfl⟩
  have HBP := Lib.hid (show 0 ≤ P ∧ P < 4294967296 by rw [← HPP.out]; exact num_u32 hbyt 8 4 (by omega))
  obtain ⟨H, HHH⟩ : ∃ x : Int, Hid (num 0 ((b.drop 12).take 4) = x) := ⟨_, Lib.hid rfl⟩
  have HBH := Lib.hid (show 0 ≤ H ∧ H < 4294967296 by rw [← HHH.out]; exact num_u32 hbyt 12 4 (by omega))
  obtain ⟨N, HNN⟩ : ∃ x : Int, Hid (num 0 ((b.drop 16).take 4) = x) := ⟨_, Lib.hid rfl⟩
  have HBN := Lib.hid (show 0 ≤ N ∧ N < 4294967296 by rw [← HNN.out]; exact num_u32 hbyt 16 4 (by omega))
  have HB4 := Lib.hid (show wa.cell? ⟨g, o + 4, none⟩ = some (.int .u8 (B : Int)) by have := cellB HIa.out (j := 4) (by omega); rw [HB04.out] at this; exact this)
  go_upto_region 10 with (fail)
  have HK : ∀ φ ∈ ([Is (.slice (some ⟨g, o, none⟩) n c), Is (.pointer (some ⟨g, o + 4, none⟩)), Is (.int .u8 (B : Int)), Is (.int .u8 ((B / 128 : Nat) : Int)), Is (.bool (decide (B / 128 = 1))), Is (.slice (some ⟨g, o, none⟩) n c), Is (.pointer (some ⟨g, o + 4, none⟩)), Is (.int .u8 (B : Int)), Is (.int .u8 ((B / 64 : Nat) : Int)), Is (.int .u8 ((B / 64 % 2 : Nat) : Int)), Is (.bool (decide (B / 64 % 2 = 1))), Is (.slice (some ⟨g, o, none⟩) n c), Is (.pointer (some ⟨g, o + 4, none⟩)), Is (.int .u8 (B : Int)), Is (.int .u8 ((B / 32 : Nat) : Int)), Is (.int .u8 ((B / 32 % 2 : Nat) : Int)), Is (.bool (decide (B / 32 % 2 = 1))), Is (.slice (some ⟨g, o, none⟩) n c), Is (.pointer (some ⟨g, o + 4, none⟩)), Is (.int .u8 (B : Int)), Is (.int .u8 ((B / 16 : Nat) : Int)), Is (.int .u8 ((B / 16 % 2 : Nat) : Int)), Is (.bool (decide (B / 16 % 2 = 1))), Is (.slice (some ⟨g, o, none⟩) n c), Is (.int .i64 C), Is (.int .u32 C), Is (.slice (some ⟨g, o, none⟩) n c), Is (.int .i64 P), Is (.int .u32 P), Is (.slice (some ⟨g, o, none⟩) n c), Is (.int .i64 H), Is (.int .u32 H), Is (.slice (some ⟨g, o, none⟩) n c), Is (.int .i64 N), Is (.int .u32 N), Is (.agg #[.bool (decide (B / 128 = 1)), .bool (decide (B / 64 % 2 = 1)), .bool (decide (B / 32 % 2 = 1)), .bool (decide (B / 16 % 2 = 1)), .int .u32 C, .int .u32 P, .int .u32 H, .int .u32 N, .slice none 0 0]), NewM wa.heap.size] : List (Value → World → Prop)), Keeps φ := by
    simp [keeps_is, keeps_newM]
  refine staged_last (l := [_, _, _, _, _, _, _, _, _, _, _, _, _, _, _, _, _, _, _, _, _, _, _, _, _, _, _, _, _, _, _, _, _, _, _, _, _]) (by kernel_rfl) (facts [Is (.slice (some ⟨g, o, none⟩) n c), Is (.pointer (some ⟨g, o + 4, none⟩)), Is (.int .u8 (B : Int)), Is (.int .u8 ((B / 128 : Nat) : Int)), Is (.bool (decide (B / 128 = 1))), Is (.slice (some ⟨g, o, none⟩) n c), Is (.pointer (some ⟨g, o + 4, none⟩)), Is (.int .u8 (B : Int)), Is (.int .u8 ((B / 64 : Nat) : Int)), Is (.int .u8 ((B / 64 % 2 : Nat) : Int)), Is (.bool (decide (B / 64 % 2 = 1))), Is (.slice (some ⟨g, o, none⟩) n c), Is (.pointer (some ⟨g, o + 4, none⟩)), Is (.int .u8 (B : Int)), Is (.int .u8 ((B / 32 : Nat) : Int)), Is (.int .u8 ((B / 32 % 2 : Nat) : Int)), Is (.bool (decide (B / 32 % 2 = 1))), Is (.slice (some ⟨g, o, none⟩) n c), Is (.pointer (some ⟨g, o + 4, none⟩)), Is (.int .u8 (B : Int)), Is (.int .u8 ((B / 16 : Nat) : Int)), Is (.int .u8 ((B / 16 % 2 : Nat) : Int)), Is (.bool (decide (B / 16 % 2 = 1))), Is (.slice (some ⟨g, o, none⟩) n c), Is (.int .i64 C), Is (.int .u32 C), Is (.slice (some ⟨g, o, none⟩) n c), Is (.int .i64 P), Is (.int .u32 P), Is (.slice (some ⟨g, o, none⟩) n c), Is (.int .i64 H), Is (.int .u32 H), Is (.slice (some ⟨g, o, none⟩) n c), Is (.int .i64 N), Is (.int .u32 N), Is (.agg #[.bool (decide (B / 128 = 1)), .bool (decide (B / 64 % 2 = 1)), .bool (decide (B / 32 % 2 = 1)), .bool (decide (B / 16 % 2 = 1)), .int .u32 C, .int .u32 P, .int .u32 H, .int .u32 N, .slice none 0 0]), NewM wa.heap.size]) (Stg [] (fun _ x => Up wa x)) 76 rfl (by decide +kernel) (by decide +kernel) (by decide +kernel) rfl (Stg.start (Up.drew wa)) ?_ ?_
  · refine ⟨?_, ?_, ?_, ?_, ?_, ?_, ?_, ?_, ?_, ?_, ?_, ?_, ?_, ?_, ?_, ?_, ?_, ?_, ?_, ?_, ?_, ?_, ?_, ?_, ?_, ?_, ?_, ?_, ?_, ?_, ?_, ?_, ?_, ?_, ?_, ?_, ?_, trivial⟩
    · refine opS_same rfl rfl fun Lx ac w1 hJ hl hc ho hd => ?_
      have s0 : ac.eval (.tmp 0) = .slice (some ⟨g, o, none⟩) n c := ho 0 rfl
      exact ⟨_, x_move (.tmp 0) rfl s0, rfl⟩
    · refine opS_same rfl rfl fun Lx ac w1 hJ hl hc ho hd => ?_
      have d0 : ac.eval (.tmp 25) = .slice (some ⟨g, o, none⟩) n c := hd 0 _ _ rfl rfl rfl
      exact ⟨_, x_index 26 (.tmp 25) (.const (.int .i64 4)) rfl d0 rfl (idx5 g o n c 4 (by omega) _), rfl⟩
    · refine opS_same rfl rfl fun Lx ac w1 hJ hl hc ho hd => ?_
      have d1 : ac.eval (.tmp 26) = .pointer (some ⟨g, o + 4, none⟩) := hd 1 _ _ rfl rfl rfl
      obtain ⟨_, _, hU⟩ := hJ
      exact ⟨_, x_load 5 _ rfl d1 (run_load1 agg5 (cell_up HB4.out hU)), rfl⟩
    · refine opS_same rfl rfl fun Lx ac w1 hJ hl hc ho hd => ?_
      have d2 : ac.eval (.tmp 27) = .int .u8 (B : Int) := hd 2 _ _ rfl rfl rfl
      exact ⟨_, x_bin .quo 5 5 (.tmp 27) (.const (.int .u8 128)) rfl d2 rfl (grdq _ _ _ _ _) (run_quo5 B 128 HBB.out (by omega) _), rfl⟩
    · refine opS_same rfl rfl fun Lx ac w1 hJ hl hc ho hd => ?_
      have d3 : ac.eval (.tmp 28) = .int .u8 ((B / 128 : Nat) : Int) := hd 3 _ _ rfl rfl rfl
      exact ⟨_, x_bin .eql 5 5 (.tmp 28) (.const (.int .u8 1)) rfl d3 rfl (grde _ _ _ _ _) (run_eq5 (B / 128) 1 _), rfl⟩
    · refine opS_same rfl rfl fun Lx ac w1 hJ hl hc ho hd => ?_
      have s0 : ac.eval (.tmp 0) = .slice (some ⟨g, o, none⟩) n c := ho 0 rfl
      exact ⟨_, x_move (.tmp 0) rfl s0, rfl⟩
    · refine opS_same rfl rfl fun Lx ac w1 hJ hl hc ho hd => ?_
      have d5 : ac.eval (.tmp 30) = .slice (some ⟨g, o, none⟩) n c := hd 5 _ _ rfl rfl rfl
      exact ⟨_, x_index 26 (.tmp 30) (.const (.int .i64 4)) rfl d5 rfl (idx5 g o n c 4 (by omega) _), rfl⟩
    · refine opS_same rfl rfl fun Lx ac w1 hJ hl hc ho hd => ?_
      have d6 : ac.eval (.tmp 31) = .pointer (some ⟨g, o + 4, none⟩) := hd 6 _ _ rfl rfl rfl
      obtain ⟨_, _, hU⟩ := hJ
      exact ⟨_, x_load 5 _ rfl d6 (run_load1 agg5 (cell_up HB4.out hU)), rfl⟩
    · refine opS_same rfl rfl fun Lx ac w1 hJ hl hc ho hd => ?_
      have d7 : ac.eval (.tmp 32) = .int .u8 (B : Int) := hd 7 _ _ rfl rfl rfl
      exact ⟨_, x_bin .quo 5 5 (.tmp 32) (.const (.int .u8 64)) rfl d7 rfl (grdq _ _ _ _ _) (run_quo5 B 64 HBB.out (by omega) _), rfl⟩
    · refine opS_same rfl rfl fun Lx ac w1 hJ hl hc ho hd => ?_
      have d8 : ac.eval (.tmp 33) = .int .u8 ((B / 64 : Nat) : Int) := hd 8 _ _ rfl rfl rfl
      exact ⟨_, x_bin .rem 5 5 (.tmp 33) (.const (.int .u8 2)) rfl d8 rfl (grdr _ _ _ _ _) (run_rem5 (B / 64) 2 (Nat.lt_of_le_of_lt (Nat.div_le_self _ _) HBB.out) (by omega) _), rfl⟩
    · refine opS_same rfl rfl fun Lx ac w1 hJ hl hc ho hd => ?_
      have d9 : ac.eval (.tmp 34) = .int .u8 ((B / 64 % 2 : Nat) : Int) := hd 9 _ _ rfl rfl rfl
      exact ⟨_, x_bin .eql 5 5 (.tmp 34) (.const (.int .u8 1)) rfl d9 rfl (grde _ _ _ _ _) (run_eq5 (B / 64 % 2) 1 _), rfl⟩
    · refine opS_same rfl rfl fun Lx ac w1 hJ hl hc ho hd => ?_
      have s0 : ac.eval (.tmp 0) = .slice (some ⟨g, o, none⟩) n c := ho 0 rfl
      exact ⟨_, x_move (.tmp 0) rfl s0, rfl⟩
    · refine opS_same rfl rfl fun Lx ac w1 hJ hl hc ho hd => ?_
      have d11 : ac.eval (.tmp 36) = .slice (some ⟨g, o, none⟩) n c := hd 11 _ _ rfl rfl rfl
      exact ⟨_, x_index 26 (.tmp 36) (.const (.int .i64 4)) rfl d11 rfl (idx5 g o n c 4 (by omega) _), rfl⟩
    · refine opS_same rfl rfl fun Lx ac w1 hJ hl hc ho hd => ?_
      have d12 : ac.eval (.tmp 37) = .pointer (some ⟨g, o + 4, none⟩) := hd 12 _ _ rfl rfl rfl
      obtain ⟨_, _, hU⟩ := hJ
      exact ⟨_, x_load 5 _ rfl d12 (run_load1 agg5 (cell_up HB4.out hU)), rfl⟩
    · refine opS_same rfl rfl fun Lx ac w1 hJ hl hc ho hd => ?_
      have d13 : ac.eval (.tmp 38) = .int .u8 (B : Int) := hd 13 _ _ rfl rfl rfl
      exact ⟨_, x_bin .quo 5 5 (.tmp 38) (.const (.int .u8 32)) rfl d13 rfl (grdq _ _ _ _ _) (run_quo5 B 32 HBB.out (by omega) _), rfl⟩
    · refine opS_same rfl rfl fun Lx ac w1 hJ hl hc ho hd => ?_
      have d14 : ac.eval (.tmp 39) = .int .u8 ((B / 32 : Nat) : Int) := hd 14 _ _ rfl rfl rfl
      exact ⟨_, x_bin .rem 5 5 (.tmp 39) (.const (.int .u8 2)) rfl d14 rfl (grdr _ _ _ _ _) (run_rem5 (B / 32) 2 (Nat.lt_of_le_of_lt (Nat.div_le_self _ _) HBB.out) (by omega) _), rfl⟩
    · refine opS_same rfl rfl fun Lx ac w1 hJ hl hc ho hd => ?_
      have d15 : ac.eval (.tmp 40) = .int .u8 ((B / 32 % 2 : Nat) : Int) := hd 15 _ _ rfl rfl rfl
      exact ⟨_, x_bin .eql 5 5 (.tmp 40) (.const (.int .u8 1)) rfl d15 rfl (grde _ _ _ _ _) (run_eq5 (B / 32 % 2) 1 _), rfl⟩
    · refine opS_same rfl rfl fun Lx ac w1 hJ hl hc ho hd => ?_
      have s0 : ac.eval (.tmp 0) = .slice (some ⟨g, o, none⟩) n c := ho 0 rfl
      exact ⟨_, x_move (.tmp 0) rfl s0, rfl⟩
    · refine opS_same rfl rfl fun Lx ac w1 hJ hl hc ho hd => ?_
      have d17 : ac.eval (.tmp 42) = .slice (some ⟨g, o, none⟩) n c := hd 17 _ _ rfl rfl rfl
      exact ⟨_, x_index 26 (.tmp 42) (.const (.int .i64 4)) rfl d17 rfl (idx5 g o n c 4 (by omega) _), rfl⟩
    · refine opS_same rfl rfl fun Lx ac w1 hJ hl hc ho hd => ?_
      have d18 : ac.eval (.tmp 43) = .pointer (some ⟨g, o + 4, none⟩) := hd 18 _ _ rfl rfl rfl
      obtain ⟨_, _, hU⟩ := hJ
      exact ⟨_, x_load 5 _ rfl d18 (run_load1 agg5 (cell_up HB4.out hU)), rfl⟩
    · refine opS_same rfl rfl fun Lx ac w1 hJ hl hc ho hd => ?_
      have d19 : ac.eval (.tmp 44) = .int .u8 (B : Int) := hd 19 _ _ rfl rfl rfl
      exact ⟨_, x_bin .quo 5 5 (.tmp 44) (.const (.int .u8 16)) rfl d19 rfl (grdq _ _ _ _ _) (run_quo5 B 16 HBB.out (by omega) _), rfl⟩
    · refine opS_same rfl rfl fun Lx ac w1 hJ hl hc ho hd => ?_
      have d20 : ac.eval (.tmp 45) = .int .u8 ((B / 16 : Nat) : Int) := hd 20 _ _ rfl rfl rfl
      exact ⟨_, x_bin .rem 5 5 (.tmp 45) (.const (.int .u8 2)) rfl d20 rfl (grdr _ _ _ _ _) (run_rem5 (B / 16) 2 (Nat.lt_of_le_of_lt (Nat.div_le_self _ _) HBB.out) (by omega) _), rfl⟩
    · refine opS_same rfl rfl fun Lx ac w1 hJ hl hc ho hd => ?_
      have d21 : ac.eval (.tmp 46) = .int .u8 ((B / 16 % 2 : Nat) : Int) := hd 21 _ _ rfl rfl rfl
      exact ⟨_, x_bin .eql 5 5 (.tmp 46) (.const (.int .u8 1)) rfl d21 rfl (grde _ _ _ _ _) (run_eq5 (B / 16 % 2) 1 _), rfl⟩
    · refine opS_same rfl rfl fun Lx ac w1 hJ hl hc ho hd => ?_
      have s0 : ac.eval (.tmp 0) = .slice (some ⟨g, o, none⟩) n c := ho 0 rfl
      exact ⟨_, x_move (.tmp 0) rfl s0, rfl⟩
    · refine opS_callUp rfl rfl (fun k wx wy h hu => Up.trans h hu) (facts_keep HK) fun L ac w1 hJ hl hc ho hd => ?_
      have d23 : ac.eval (.tmp 48) = .slice (some ⟨g, o, none⟩) n c := hd 23 _ _ rfl rfl rfl
      obtain ⟨_, _, hU⟩ := hJ
      refine ⟨39, _, x_fcall 39 [.tmp 48, .const (.int .i64 5), .const (.int .i64 3)] _ rfl (by kernel_rfl), ?_⟩
      simp only [List.map_cons, List.map_nil, d23]
      refine (rnum_ok (some ⟨g, o, none⟩) n c 5 3 b w1 (HIa.out.up hU) (by omega) (by omega) (by omega) (by omega)).mono fun e w2 ⟨he, hu9⟩ => ⟨_, he, hu9, ?_⟩
      show Value.int .i64 _ = _
      rw [HCC.out]
    · refine opS_same rfl rfl fun Lx ac w1 hJ hl hc ho hd => ?_
      have d24 : ac.eval (.tmp 49) = .int .i64 C := hd 24 _ _ rfl rfl rfl
      exact ⟨_, x_conv 3 22 (.tmp 49) rfl d24 (run_c336 C HBC.out _), rfl⟩
    · refine opS_same rfl rfl fun Lx ac w1 hJ hl hc ho hd => ?_
      have s0 : ac.eval (.tmp 0) = .slice (some ⟨g, o, none⟩) n c := ho 0 rfl
      exact ⟨_, x_move (.tmp 0) rfl s0, rfl⟩
    · refine opS_callUp rfl rfl (fun k wx wy h hu => Up.trans h hu) (facts_keep HK) fun L ac w1 hJ hl hc ho hd => ?_
      have d26 : ac.eval (.tmp 51) = .slice (some ⟨g, o, none⟩) n c := hd 26 _ _ rfl rfl rfl
      obtain ⟨_, _, hU⟩ := hJ
      refine ⟨39, _, x_fcall 39 [.tmp 51, .const (.int .i64 8), .const (.int .i64 4)] _ rfl (by kernel_rfl), ?_⟩
      simp only [List.map_cons, List.map_nil, d26]
      refine (rnum_ok (some ⟨g, o, none⟩) n c 8 4 b w1 (HIa.out.up hU) (by omega) (by omega) (by omega) (by omega)).mono fun e w2 ⟨he, hu9⟩ => ⟨_, he, hu9, ?_⟩
      show Value.int .i64 _ = _
      rw [HPP.out]
    · refine opS_same rfl rfl fun Lx ac w1 hJ hl hc ho hd => ?_
      have d27 : ac.eval (.tmp 52) = .int .i64 P := hd 27 _ _ rfl rfl rfl
      exact ⟨_, x_conv 3 22 (.tmp 52) rfl d27 (run_c336 P HBP.out _), rfl⟩
    · refine opS_same rfl rfl fun Lx ac w1 hJ hl hc ho hd => ?_
      have s0 : ac.eval (.tmp 0) = .slice (some ⟨g, o, none⟩) n c := ho 0 rfl
      exact ⟨_, x_move (.tmp 0) rfl s0, rfl⟩
    · refine opS_callUp rfl rfl (fun k wx wy h hu => Up.trans h hu) (facts_keep HK) fun L ac w1 hJ hl hc ho hd => ?_
      have d29 : ac.eval (.tmp 54) = .slice (some ⟨g, o, none⟩) n c := hd 29 _ _ rfl rfl rfl
      obtain ⟨_, _, hU⟩ := hJ
      refine ⟨39, _, x_fcall 39 [.tmp 54, .const (.int .i64 12), .const (.int .i64 4)] _ rfl (by kernel_rfl), ?_⟩
      simp only [List.map_cons, List.map_nil, d29]
      refine (rnum_ok (some ⟨g, o, none⟩) n c 12 4 b w1 (HIa.out.up hU) (by omega) (by omega) (by omega) (by omega)).mono fun e w2 ⟨he, hu9⟩ => ⟨_, he, hu9, ?_⟩
      show Value.int .i64 _ = _
      rw [HHH.out]
    · refine opS_same rfl rfl fun Lx ac w1 hJ hl hc ho hd => ?_
      have d30 : ac.eval (.tmp 55) = .int .i64 H := hd 30 _ _ rfl rfl rfl
      exact ⟨_, x_conv 3 22 (.tmp 55) rfl d30 (run_c336 H HBH.out _), rfl⟩
    · refine opS_same rfl rfl fun Lx ac w1 hJ hl hc ho hd => ?_
      have s0 : ac.eval (.tmp 0) = .slice (some ⟨g, o, none⟩) n c := ho 0 rfl
      exact ⟨_, x_move (.tmp 0) rfl s0, rfl⟩
    · refine opS_callUp rfl rfl (fun k wx wy h hu => Up.trans h hu) (facts_keep HK) fun L ac w1 hJ hl hc ho hd => ?_
      have d32 : ac.eval (.tmp 57) = .slice (some ⟨g, o, none⟩) n c := hd 32 _ _ rfl rfl rfl
      obtain ⟨_, _, hU⟩ := hJ
      refine ⟨39, _, x_fcall 39 [.tmp 57, .const (.int .i64 16), .const (.int .i64 4)] _ rfl (by kernel_rfl), ?_⟩
      simp only [List.map_cons, List.map_nil, d32]
      refine (rnum_ok (some ⟨g, o, none⟩) n c 16 4 b w1 (HIa.out.up hU) (by omega) (by omega) (by omega) (by omega)).mono fun e w2 ⟨he, hu9⟩ => ⟨_, he, hu9, ?_⟩
      show Value.int .i64 _ = _
      rw [HNN.out]
    · refine opS_same rfl rfl fun Lx ac w1 hJ hl hc ho hd => ?_
      have d33 : ac.eval (.tmp 58) = .int .i64 N := hd 33 _ _ rfl rfl rfl
      exact ⟨_, x_conv 3 22 (.tmp 58) rfl d33 (run_c336 N HBN.out _), rfl⟩
    · refine opS_same rfl rfl fun Lx ac w1 hJ hl hc ho hd => ?_
      have d4 : ac.eval (.tmp 29) = .bool (decide (B / 128 = 1)) := hd 4 _ _ rfl rfl rfl
      have d10 : ac.eval (.tmp 35) = .bool (decide (B / 64 % 2 = 1)) := hd 10 _ _ rfl rfl rfl
      have d16 : ac.eval (.tmp 41) = .bool (decide (B / 32 % 2 = 1)) := hd 16 _ _ rfl rfl rfl
      have d22 : ac.eval (.tmp 47) = .bool (decide (B / 16 % 2 = 1)) := hd 22 _ _ rfl rfl rfl
      have d25 : ac.eval (.tmp 50) = .int .u32 C := hd 25 _ _ rfl rfl rfl
      have d28 : ac.eval (.tmp 53) = .int .u32 P := hd 28 _ _ rfl rfl rfl
      have d31 : ac.eval (.tmp 56) = .int .u32 H := hd 31 _ _ rfl rfl rfl
      have d34 : ac.eval (.tmp 59) = .int .u32 N := hd 34 _ _ rfl rfl rfl
      exact ⟨_, x_build 25 _ rfl (by simp only [List.map_toArray, List.map_cons, List.map_nil, d4, d10, d16, d22, d25, d28, d31, d34]; exact build25 _ _ _ _ _ _ _ _ w1), rfl⟩
    · refine opS_grow rfl rfl (fun k wx wy h hu => Up.trans h hu) (facts_keep HK) fun L ac w1 hJ hl hc ho hd => ?_
      obtain ⟨_, _, hU⟩ := hJ
      exact fine_run _ _ (x_alloc25 rfl) (up_alloc _ _) ⟨w1.heap.size, rfl, hU.size, new_at _ _⟩
  · intro L1 a1 w2 hI hall
    obtain ⟨_, _, hW2⟩ := hI.world
    have g60 := hI.facts 35 _ 60 rfl (hall 35 (by decide)) rfl
    have g5 := hI.facts 36 _ 5 rfl (hall 36 (by decide)) rfl
    obtain ⟨p, l5, hbW, hb⟩ := g5
    have l60 : a1.tmps.getD 60 undef = .agg #[.bool (decide (B / 128 = 1)), .bool (decide (B / 64 % 2 = 1)), .bool (decide (B / 32 % 2 = 1)), .bool (decide (B / 16 % 2 = 1)), .int .u32 C, .int .u32 P, .int .u32 H, .int .u32 N, .slice none 0 0] := g60
    have l0 : a1.tmps.getD 0 undef = .slice (some ⟨g, o, none⟩) n c := hI.old 0 rfl
    have l2 : a1.tmps.getD 2 undef = .pointer (some ⟨q, 0, none⟩) := hI.old 2 rfl
    have l4 : a1.tmps.getD 4 undef = .int .i64 (L : Int) := hI.old 4 rfl
    have hde : a1.defers = [] := hI.defers
    have hal := act_lit a1 76 hI.size
    clear hI
    simp only [List.range, List.range.loop, List.map_cons, List.map_nil] at hal
    refine wp_store_row 25 (.tmp 5) (.tmp 60) rfl p #[.bool (decide (B / 128 = 1)), .bool (decide (B / 64 % 2 = 1)), .bool (decide (B / 32 % 2 = 1)), .bool (decide (B / 16 % 2 = 1)), .int .u32 C, .int .u32 P, .int .u32 H, .int .u32 N, .slice none 0 0] l5 l60 25 _ hb (by kernel_rfl) rfl (by simp [Value.oneCell']) ?_
    have hb3 := setRow_heap w2 p _ #[.bool (decide (B / 128 = 1)), .bool (decide (B / 64 % 2 = 1)), .bool (decide (B / 32 % 2 = 1)), .bool (decide (B / 16 % 2 = 1)), .int .u32 C, .int .u32 P, .int .u32 H, .int .u32 N, .slice none 0 0] _ _ hb
    have ho3 := setRow_out w2 p #[.bool (decide (B / 128 = 1)), .bool (decide (B / 64 % 2 = 1)), .bool (decide (B / 32 % 2 = 1)), .bool (decide (B / 16 % 2 = 1)), .int .u32 C, .int .u32 P, .int .u32 H, .int .u32 N, .slice none 0 0]
    generalize w2.setRow p #[.bool (decide (B / 128 = 1)), .bool (decide (B / 64 % 2 = 1)), .bool (decide (B / 32 % 2 = 1)), .bool (decide (B / 16 % 2 = 1)), .int .u32 C, .int .u32 P, .int .u32 H, .int .u32 N, .slice none 0 0] = w3 at hb3 ho3 ⊢
    have HC3 := Lib.hid (show w3.heap[p]? = some (msO (noA (rawM b))) by
      rw [hb3]
      obtain ⟨r1, r2, r3, r4⟩ := HRN.out
      rw [← r1, ← r2, ← r3, ← r4, ← HCC.out, ← HPP.out, ← HHH.out, ← HNN.out]
      rfl)
    have U3 := Lib.hid (show Up w w3 from Below.out (Up.trans HU.out hW2) ho3 (fun k hk => by have h1 := HU.out.size; rw [hk]; omega) (Up.trans HU.out hW2).size)
    have hqp : q ≠ p := by have := lt_of_blk HQ.out; omega
    have HQ3 := Lib.hid (ho3.blk (blk_up HQ.out hW2) hqp)
    rw [l0, l2, l4, l5, hde] at hal
    generalize hTT : a1.tmps = TT at hal l5 l60
    clear hall hTT hb hb3 ho3 hW2 l60 l5 g60 l0 l2 l4 hde HK hbW
    subst hal
    simp only [Act.put]
    clear HB4 HIa HRN HCC HPP HHH HNN HBC HBP HBH HBN HB04 HBB HI HL c0 b0 b1 d1 d3 HQ HU
    by_cases hs2 : L < n
    case pos =>
      have d5 : decide ((L : Int) < (n : Int)) = true := decide_eq_true (by omega)
      go_wp2_with (with_reducible refine wpList_store_row rfl 25 _ _ rfl q #[.bool false, .bool false, .bool false, .bool false, .int .u32 0, .int .u32 0, .int .u32 0, .int .u32 0, .slice none 0 0] rfl rfl 25 _ HQ3.out (by kernel_rfl) rfl (by simp [Value.oneCell']) ?_)
      refine bodyPost_ret (results_row_tmp (fn := Try.f17) (p := 2) (u := 3) (ty := 25) rfl _ _ q 25 _ (0, 0) _ rfl (setRow_heap _ _ _ _ _ _ HQ3.out) Try.underlying25 rfl (by kernel_rfl)) rfl ?_
      exact hPost_no rfl (by rw [HE.out, if_pos (.inl hs2)]) (by decide) (below_setRow U3.out (by rw [HQE.out]; exact Nat.le_refl _) _)
    have d5 : decide ((L : Int) < (n : Int)) = false := decide_eq_false (by omega)
    by_cases hp : L % 4 = 0
    case neg =>
      have d6 : ((L : Int) % 4 != 0) = true := by simp; omega
      go_wp2_with (with_reducible refine wpList_store_row rfl 25 _ _ rfl q #[.bool false, .bool false, .bool false, .bool false, .int .u32 0, .int .u32 0, .int .u32 0, .int .u32 0, .slice none 0 0] rfl rfl 25 _ HQ3.out (by kernel_rfl) rfl (by simp [Value.oneCell']) ?_)
      refine bodyPost_ret (results_row_tmp (fn := Try.f17) (p := 2) (u := 3) (ty := 25) rfl _ _ q 25 _ (0, 0) _ rfl (setRow_heap _ _ _ _ _ _ HQ3.out) Try.underlying25 rfl (by kernel_rfl)) rfl ?_
      exact hPost_no rfl (by rw [HE.out, if_pos (.inr (.inl hp))]) (by decide) (below_setRow U3.out (by rw [HQE.out]; exact Nat.le_refl _) _)
    have d6 : ((L : Int) % 4 != 0) = false := by simp; omega
    have HE := Lib.hid (show headE b = if mixM (rawM b) = true then 2 else 0 by
      rw [HE.out]
      by_cases hx : mixM (rawM b) = true
      · rw [if_pos (.inr (.inr hx)), if_pos hx]
      · rw [if_neg (by rintro (h | h | h); exact hs2 h; exact h hp; exact hx h), if_neg hx])

    have z0 : w3.cell? ⟨p, 0, none⟩ = some (.bool (rawM b).req) := cell_of HC3.out (j := 0) rfl
    have z1 : w3.cell? ⟨p, 1, none⟩ = some (.bool (rawM b).prox) := cell_of HC3.out (j := 1) rfl
    have z2 : w3.cell? ⟨p, 2, none⟩ = some (.bool (rawM b).fail) := cell_of HC3.out (j := 2) rfl
    have z3 : w3.cell? ⟨p, 3, none⟩ = some (.bool (rawM b).again) := cell_of HC3.out (j := 3) rfl
    have z4 : w3.cell? ⟨p, 4, none⟩ = some (.int .u32 (rawM b).code) := cell_of HC3.out (j := 4) rfl
    have z5 : w3.cell? ⟨p, 5, none⟩ = some (.int .u32 (rawM b).app) := cell_of HC3.out (j := 5) rfl
    have z6 : w3.cell? ⟨p, 6, none⟩ = some (.int .u32 (rawM b).hop) := cell_of HC3.out (j := 6) rfl
    have z7 : w3.cell? ⟨p, 7, none⟩ = some (.int .u32 (rawM b).end_) := cell_of HC3.out (j := 7) rfl
    have z8 : w3.cell? ⟨p, 8, none⟩ = some (.slice none 0 0) := cell_of HC3.out (j := 8) rfl
    cases hmx : mixM (rawM b)
    case true =>
      have HMX := Lib.hid hmx
      clear hmx
      go_wp2_with fail
      refine (rmixed_any (noA (rawM b)) _).mono ?_
      rw [show (noA (rawM b)).pure = rawM b from rfl, HMX.out]
      rintro e wd ⟨rfl, hud⟩
      have HQd := Lib.hid (blk_up HQ3.out hud)
      have HUd := Lib.hid (Up.trans U3.out hud)
      have HBd := Lib.hid (blk_up HC3.out hud)
      clear z0 z1 z2 z3 z4 z5 z6 z7 z8 hud
      go_wp2_with (with_reducible refine wpList_store_row rfl 25 _ _ rfl q #[.bool false, .bool false, .bool false, .bool false, .int .u32 0, .int .u32 0, .int .u32 0, .int .u32 0, .slice none 0 0] rfl rfl 25 _ HQd.out (by kernel_rfl) rfl (by simp [Value.oneCell']) ?_)
      refine bodyPost_ret (results_row_tmp (fn := Try.f17) (p := 2) (u := 3) (ty := 25) rfl _ _ q 25 _ (0, 0) _ rfl (setRow_heap _ _ _ _ _ _ HQd.out) Try.underlying25 rfl (by kernel_rfl)) rfl ?_
      exact hPost_no rfl (by rw [HE.out, HMX.out, if_pos rfl]) (by decide) (below_setRow HUd.out (by rw [HQE.out]; exact Nat.le_refl _) _)
    case false =>
      have HMX := Lib.hid hmx
      clear hmx
      go_wp2_with fail
      refine (rmixed_any (noA (rawM b)) _).mono ?_
      rw [show (noA (rawM b)).pure = rawM b from rfl, HMX.out]
      rintro e wd ⟨rfl, hud⟩
      have HQd := Lib.hid (blk_up HQ3.out hud)
      have HUd := Lib.hid (Up.trans U3.out hud)
      have HBd := Lib.hid (blk_up HC3.out hud)
      clear z0 z1 z2 z3 z4 z5 z6 z7 z8 hud
      have z0 : wd.cell? ⟨p, 0, none⟩ = some (.bool (rawM b).req) := cell_of HBd.out (j := 0) rfl
      have z1 : wd.cell? ⟨p, 1, none⟩ = some (.bool (rawM b).prox) := cell_of HBd.out (j := 1) rfl
      have z2 : wd.cell? ⟨p, 2, none⟩ = some (.bool (rawM b).fail) := cell_of HBd.out (j := 2) rfl
      have z3 : wd.cell? ⟨p, 3, none⟩ = some (.bool (rawM b).again) := cell_of HBd.out (j := 3) rfl
      have z4 : wd.cell? ⟨p, 4, none⟩ = some (.int .u32 (rawM b).code) := cell_of HBd.out (j := 4) rfl
      have z5 : wd.cell? ⟨p, 5, none⟩ = some (.int .u32 (rawM b).app) := cell_of HBd.out (j := 5) rfl
      have z6 : wd.cell? ⟨p, 6, none⟩ = some (.int .u32 (rawM b).hop) := cell_of HBd.out (j := 6) rfl
      have z7 : wd.cell? ⟨p, 7, none⟩ = some (.int .u32 (rawM b).end_) := cell_of HBd.out (j := 7) rfl
      have z8 : wd.cell? ⟨p, 8, none⟩ = some (.slice none 0 0) := cell_of HBd.out (j := 8) rfl
      go_wp2_with (with_reducible refine wpList_store_row rfl 25 _ _ rfl q #[.bool (rawM b).req, .bool (rawM b).prox, .bool (rawM b).fail, .bool (rawM b).again, .int .u32 (rawM b).code, .int .u32 (rawM b).app, .int .u32 (rawM b).hop, .int .u32 (rawM b).end_, .slice none 0 0] rfl rfl 25 _ HQd.out (by kernel_rfl) rfl (by simp [Value.oneCell']) ?_)
      refine bodyPost_ret (results_row_tmp (fn := Try.f17) (p := 2) (u := 3) (ty := 25) rfl _ _ q 25 _ (0, 0) _ rfl (setRow_heap _ _ _ _ _ _ HQd.out) Try.underlying25 rfl (by kernel_rfl)) rfl ?_
      exact ⟨rawM b, 0, rfl, Lib.hid (by unfold headM; rw [HE.out, HMX.out]; rfl), Lib.hid (below_setRow HUd.out (by rw [HQE.out]; exact Nat.le_refl _) _)⟩
theorem rhead_any (A : Option Addr) (n c : Nat) (b : List Int) (w : World) (h : InB w A n c b) (hm : n ≤ 140737488355328) : Calls Try.prog 17 #[.slice A n c] w (HPost b w) := by
  by_cases hn : n < 20
  · exact rhead_short A n c b w h hn
  · exact rhead_long A n c b w h hm (by omega)
end Go.Proofs.Ythncpkjnalmpkaa
