import Derived.Test.YthncpkjnalmpkaaMgT
namespace Go.Proofs.Ythncpkjnalmpkaa
open Go Go.RowKit Mg
set_option linter.unusedVariables false
set_option linter.unusedSimpArgs false
/-! answers; the law of what is written. -/
def msg0 : MsB := ⟨true, false, false, false, 280, 0, 0, 0, none, 0, 0, []⟩
theorem msg0_in (w : World) : MsIn w msg0 := ⟨inL_nil w, ⟨by decide, by decide, by decide, by decide, fun x hx => by cases hx⟩, by decide⟩
theorem put0 : putM msg0.pure = ([1, 0, 0, 20, 128, 0, 1, 24, 0, 0, 0, 0, 0, 0, 0, 0, 0, 0, 0, 0], 0) := by decide +kernel
theorem cell_own {B : Nat} {w : World} {A : Option Addr} {n c j : Nat} {ys : List Int} {v : Int} (h : OwnI .u8 5 B w A n c ys) (hj : ys[j]? = some v) : ∃ g, A = some ⟨g, 0, none⟩ ∧ w.cell? ⟨g, j, none⟩ = some (.int .u8 v) := by
  obtain ⟨g, rfl, _⟩ := h.at_ (by have := (List.getElem?_eq_some_iff.1 hj).1; have := h.len; omega)
  exact ⟨g, rfl, h.cellAt hj⟩
set_option maxRecDepth 100000 in
set_option maxHeartbeats 2000000 in
theorem answersM_ok (w : World) : Calls Try.prog 13 #[] w fun e w' => e = .returned (.bool true) ∧ Hid (Up w w') := by
  have hp : msV msg0 = .agg #[.bool true, .bool false, .bool false, .bool false, .int .u32 280, .int .u32 0, .int .u32 0, .int .u32 0, .slice none 0 0] := rfl
  have HP := Lib.hid (mput_any msg0 w (msg0_in w))
  rw [hp] at HP
  clear hp
  go_enter Try.func13, Try.ntmps13
  go_wp2_with fail
  refine HP.out.mono ?_
  rintro e w1 ⟨ys, k, A, N, c, rfl, hP, hN, hO, hu⟩
  have he := hP.out
  rw [put0] at he
  injection he with h1 h2
  subst h2
  have HN := Lib.hid (show N = 20 by rw [hN.out, ← h1]; rfl)
  obtain ⟨g, rfl, hc⟩ := cell_own hO.out (j := 4) (v := 128) (by rw [← h1]; rfl)
  clear hP hN hO h1
  obtain rfl : N = 20 := HN.out
  go_wp2_with fail
  go_ret
  exact ⟨rfl, hu⟩
theorem putM_take (m : Msg) : putM { m with avps := m.avps.take 200 } = putM m := by
  by_cases h : m.avps.length ≤ 200
  · rw [List.take_of_length_le h]
  · have e : ∀ x : Msg, ¬ x.avps.length ≤ 64 → putM x = if 16777215 < x.code then ([], 11) else if mixM x = true then ([], 2) else ([], 4) := fun x hx => by
      unfold putM
      rw [if_pos (fun h => hx h.1)]
    rw [e m (by omega), e _ (by simp; omega)]
    rfl
theorem takeM_in {X : MsB} {w : World} {y : MsB} (hX : MsIn w X) (hp : y.pure = { X.pure with avps := X.pure.avps.take 200 }) {w' : World} {B : Nat} (hg : GL B w' y.A y.n y.c y.avps) (hn : y.n ≤ 200) : MsIn w' y := by
  refine ⟨hg.inL, ?_, by omega⟩
  rw [hp]
  exact ⟨hX.ok.code, hX.ok.app, hX.ok.hop, hX.ok.end_, fun x hx => hX.ok.avps x (List.mem_of_mem_take hx)⟩
end Go.Proofs.Ythncpkjnalmpkaa
