import Derived.Test.YtgikgcepeniekaaCk40
import Derived.Test.YtgikgcepeniekaaCk42
namespace Go.Proofs.Ytgikgcepeniekaa
open Go Go.RowKit
set_option linter.unusedVariables false
set_option linter.unusedSimpArgs false
/-! One chunk's own copy. -/
theorem own1 (x : ChB) (g : Nat) (w : World) (hx : ChIn w x) (hg : w.heap[g]? = some (.cells #[.int .u8 x.ty, .int .u8 x.fl, .slice x.A x.n x.c] 41 (0, 0))) :
    Calls Try.prog 11 #[.slice (some ⟨g, 0, none⟩) 1 1] w fun e w' => ∃ q c' A n c, e = .returned (.slice (some ⟨q, 0, none⟩) 1 c') ∧ Hid (w'.cell? ⟨q, 0, none⟩ = some (.int .u8 x.ty) ∧ w'.cell? ⟨q, 1, none⟩ = some (.int .u8 x.fl) ∧ w'.cell? ⟨q, 2, none⟩ = some (.slice A n c)) ∧ Hid (InB w' A n c x.bs) ∧ Hid (n ≤ 140737488351232) ∧ Hid (Up w w') := by
  have h : InL w (some ⟨g, 0, none⟩) 1 1 [x] := ⟨fun _ => ⟨g, 0, rfl, lt_of_blk hg, fun j u hu => cell_of hg (by rw [Nat.zero_add]; simpa [rowc, chc] using hu)⟩, (fun y hy => by rw [List.mem_singleton] at hy; subst hy; exact hx), Nat.le_refl _, rfl⟩
  refine (own_any (some ⟨g, 0, none⟩) 1 1 [x] w h (by omega)).mono ?_
  rintro e w1 ⟨A1, n1, c1, out, rfl, hL, hE, hn1, hu1⟩
  have he := hE.out
  have hl : out.length = 1 := by have := congrArg List.length he; simpa using this
  obtain ⟨y, rfl⟩ : ∃ y, out = [y] := by
    match out, hl with
    | [y], _ => exact ⟨y, rfl⟩
  have hy : y.pure = x.pure := by simpa using he
  have hn : n1 = 1 := by have := hL.out.len; simpa using this.symm
  subst hn
  obtain ⟨q, rfl⟩ := row_at hL.out.row.own (by omega)
  have e0 := row_cell hL.out.row.own (j := 0) (v := .int .u8 y.ty) rfl
  have e1 := row_cell hL.out.row.own (j := 1) (v := .int .u8 y.fl) rfl
  have e2 := row_cell hL.out.row.own (j := 2) (v := .slice y.A y.n y.c) rfl
  have hc := (hL.out.inL.ch y (by simp))
  obtain ⟨yt, yf, yA, yn, yc, yb⟩ := y
  obtain ⟨xt, xf, xA, xn, xc, xb⟩ := x
  simp only [ChB.pure, Ck.Chk.mk.injEq] at hy
  obtain ⟨rfl, rfl, rfl⟩ := hy
  exact ⟨q, c1, yA, yn, yc, rfl, Lib.hid ⟨e0, e1, e2⟩, Lib.hid hc.inb, Lib.hid hc.n, hu1⟩
end Go.Proofs.Ytgikgcepeniekaa
