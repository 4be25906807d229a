import Derived.Test.YthncpkjnalmpkaaMgH
import Derived.Test.YthncpkjnalmpkaaAvG3
namespace Go.Proofs.Ythncpkjnalmpkaa
open Go Go.RowKit Mg
set_option linter.unusedVariables false
set_option linter.unusedSimpArgs false
/-! number, agree, front. -/
theorem mnumber_any (A : Option Addr) (m c a s : Nat) (xs : List Int) (w : World) (h : InB w A m c xs) (hk : m ≤ 140737488355328) (hs1 : 1 ≤ s) (hs4 : s ≤ 4) (hl : a + s ≤ m) :
    Calls Try.prog 36 #[.slice A m c, .int .i64 (a : Int), .int .i64 (s : Int)] w fun e w' => e = .returned (.int .u32 (num 0 ((xs.drop a).take s))) ∧ w' = w := by
  have hb := num_u32 h.byt a s hs4
  have H := Lib.hid h
  have b1 := hb.1
  have b2 := hb.2
  clear h hb
  go_enter Try.func36, Try.ntmps36
  go_wp2_with fail
  refine (get_any A m c a s xs _ H.out hk hl hs1 (by omega)).mono ?_
  rintro e w' ⟨rfl, rfl⟩
  go_wp2_with fail
  go_ret
  exact ⟨rfl, rfl⟩
set_option maxRecDepth 100000 in
set_option maxHeartbeats 2000000 in
theorem agree_any (x : MsB) (w : World) : Calls Try.prog 29 #[msV x] w fun e w' => e = .returned (.bool (!mixM x.pure)) ∧ Up w w' := by
  have HM := Lib.hid (show mixM x.pure = ((x.req && x.fail) || (!x.req && x.again)) from rfl)
  have HU := Lib.hid (up_alloc w (msO x))
  have HC := Lib.hid (new_at w (msO x))
  unfold msV
  go_enter Try.func29, Try.ntmps29
  go_upto_region 1 with (fail)
  change Code.wp _ _ _ _ (w.alloc (msO x))
  generalize w.alloc (msO x) = wa at HC HU ⊢
  have z0 : wa.cell? ⟨w.heap.size, 0, none⟩ = some (.bool x.req) := cell_of HC.out (j := 0) rfl
  have z2 : wa.cell? ⟨w.heap.size, 2, none⟩ = some (.bool x.fail) := cell_of HC.out (j := 2) rfl
  have z3 : wa.cell? ⟨w.heap.size, 3, none⟩ = some (.bool x.again) := cell_of HC.out (j := 3) rfl
  cases h1 : x.req <;> cases h2 : x.fail <;> cases h3 : x.again
  all_goals
    rw [h1] at z0 HM
    rw [h2] at z2 HM
    rw [h3] at z3 HM
    go_wp2_with fail
    go_ret
    exact ⟨by rw [HM.out]; rfl, HU.out⟩
/-- The head's bytes. -/
def hdM (m : Msg) (L : Int) : List Int := 1 :: (be L 3 ++ (msFl m :: (be m.code 3 ++ (be m.app 4 ++ (be m.hop 4 ++ be m.end_ 4)))))
theorem encM_hd (m : Msg) : encM m = hdM m ((encAs m.avps).length + 20 : Nat) ++ encAs m.avps := by
  unfold encM hdM
  simp [List.append_assoc]
def preM (m : Msg) (L : Int) : List Int := [1] ++ be L 3 ++ [msFl m] ++ be m.code 3
def fldM (m : Msg) (j : Nat) : Int := match j with
  | 0 => m.app
  | 1 => m.hop
  | _ => m.end_
def upM (m : Msg) (L : Int) : Nat → List Int
  | 0 => preM m L
  | j + 1 => upM m L j ++ be (fldM m j) 4
theorem upM_3 (m : Msg) (L : Int) : upM m L 3 = hdM m L := by simp [upM, preM, hdM, fldM, List.append_assoc]
theorem upM_length (m : Msg) (L : Int) (j : Nat) : (upM m L j).length = 8 + 4 * j := by
  induction j with
  | zero => simp [upM, preM, be_length]
  | succ j ih => simp [upM, ih, be_length]; omega
theorem upM_byt (m : Msg) (L : Int) (j : Nat) : Byt (upM m L j) := by
  have hf := msFl_bd m
  induction j with
  | zero =>
    refine (((byt_one (by decide) byt_nil).append (be_byt _ _)).append (byt_one ⟨hf.1, by omega⟩ byt_nil)).append (be_byt _ _)
  | succ j ih => exact ih.append (be_byt _ _)
end Go.Proofs.Ythncpkjnalmpkaa
