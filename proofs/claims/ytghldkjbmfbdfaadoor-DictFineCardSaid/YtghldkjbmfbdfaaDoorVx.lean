import Derived.Test.YtghldkjbmfbdfaaDoorUr
import Derived.Test.YtghldkjbmfbdfaaDoorAvR2a
import Derived.Test.YtghldkjbmfbdfaaDoorAvG3
import Derived.Shelf.Unicode.DecodeSlow
namespace Go.Proofs.YtghldkjbmfbdfaaDoor
open Go Go.RowKit
set_option linter.unusedVariables false
set_option linter.unusedSimpArgs false
/-! For unicode/utf8's Valid. -/
section
variable {P : Program} {ops : Array Oper} {Φ : Nat → Value → World → Prop} {a0 : Act}
theorem opS_callUpG {ws : List Nat} {W : Nat → World → Prop} {i : Nat} {o : Oper} (j : Nat) (b : Bool) (oj : Oper) (d : Tmp) (hg : o.guard = some (j, b)) (hin : (o.after.toList.any fun e => e.on == j && Region.binds .any e) = true) (hj : ops[j]? = some oj) (hdj : oj.dst = some d) (hv : ∀ v w, Φ j v w → v = .bool b) (hi : ws.contains i = false) (hW : ∀ k w w', W k w → Up w w' → W k w') (hF : ∀ j x w w', Φ j x w → Up w w' → Φ j x w')
    (h : ∀ (L : Nat → Bool) (a : Act) (w : World), Stg ws W L w → L i = false → Closed ops L → (∀ t, oldB ops t = true → a.tmps.getD t undef = a0.tmps.getD t undef) →
      (∀ (j : Nat) (oj : Oper) (d : Tmp), (o.after.toList.any fun e => e.on == j && Region.binds .any e) = true → ops[j]? = some oj → oj.dst = some d → Φ j (a.tmps.getD d undef) w) → ∃ f args, (execOp a.eval o).run P w = .ok (.enter f args) w ∧ Calls P f args w fun e w' => ∃ v, e = .returned v ∧ Up w w' ∧ Φ i v w') : OpS P ops Φ (Stg ws W) a0 i o := by
  intro L a w hJ hl hc _ _ ho hd
  have hy := yielded_of (tmps := a.tmps) hj hdj (hv _ w (hd j oj d hin hj hdj))
  rw [if_pos (by simp [Region.wanted, hg, hy])]
  obtain ⟨f, args, hr, hcall⟩ := h L a w hJ hl hc ho hd
  unfold Oper.wp
  rw [hr]
  refine Calls.mono hcall fun e w' ⟨v, he, hu, hv⟩ => ?_
  subst he
  exact ⟨⟨v, rfl, hv⟩, hJ.same hi (fun k hk => hW k w w' hk hu), fun j x _ hj => hF j x w w' hj hu⟩
end
/-- A row of bytes whose capacity is its length, from some byte on. -/
theorem InB.sub {w : World} {g o m a : Nat} {xs : List Int} (h : InB w (some ⟨g, o, none⟩) m m xs) (ha : a ≤ m) : InB w (if m = a then some ⟨g, o, none⟩ else some ⟨g, o + a, none⟩) (m - a) (m - a) (xs.drop a) := by
  split
  · subst a
    have e : xs.drop m = [] := List.drop_of_length_le (by rw [h.len]; exact Nat.le_refl _)
    rw [e, Nat.sub_self]
    exact ⟨Cells.nil _ _, byt_nil, Nat.le_refl _, rfl⟩
  · exact h.tail ha
/-- The tables of unicode/utf8. -/
def Tab (w : World) : Prop := Lib.Utf8Tabs 0 1 w
theorem Tab.up {w w' : World} (h : Tab w) (hu : Up w w') : Tab w' := ⟨fun c hc => cell_up (h.1 c hc) hu, fun i hi => ⟨cell_up (h.2 i hi).1 hu, cell_up (h.2 i hi).2 hu⟩⟩
/-- A word without high bits. -/
def noHi (W : Nat) : Prop := W &&& 9259542123273814144 = 0
instance (W : Nat) : Decidable (noHi W) := inferInstanceAs (Decidable (_ = _))
theorem word_lt {f : Nat → Int} (hf : ∀ j, 0 ≤ f j ∧ f j < 256) : Ut.word f 0 < 18446744073709551616 := (or_all (o := 0) hf).2
theorem hiT {W : Nat} (hW : W < 18446744073709551616) (h : noHi W) : (bits .and .u64 (W : Int) 9259542123273814144 == 0) = true := by
  rw [show (9259542123273814144 : Int) = ((9259542123273814144 : Nat) : Int) from rfl, u64_and_nat W _ hW (by decide), show W &&& 9259542123273814144 = 0 from h]; rfl
theorem hiF {W : Nat} (hW : W < 18446744073709551616) (h : ¬ noHi W) : (bits .and .u64 (W : Int) 9259542123273814144 == 0) = false := by
  rw [show (9259542123273814144 : Int) = ((9259542123273814144 : Nat) : Int) from rfl, u64_and_nat W _ hW (by decide), beq_eq_false_iff_ne]
  intro e; exact h (by unfold noHi; omega)
theorem hiE {W : Nat} (hW : W < 18446744073709551616) (h : (bits .and .u64 (W : Int) 9259542123273814144 == 0) = true) : noHi W := by
  by_cases a : noHi W
  · exact a
  · rw [hiF hW a] at h; cases h
theorem noHi_or {a b : Nat} (h : noHi (a ||| b)) : noHi a ∧ noHi b := by
  unfold noHi at *
  rw [Nat.and_or_distrib_right, Nat.or_eq_zero_iff] at h
  exact h
theorem or_lt {a b : Nat} (ha : a < 18446744073709551616) (hb : b < 18446744073709551616) : a ||| b < 18446744073709551616 := by
  have := Nat.or_lt_two_pow (show a < 2 ^ 64 by omega) (show b < 2 ^ 64 by omega); omega
theorem or_nat {a b : Nat} (ha : a < 18446744073709551616) (hb : b < 18446744073709551616) : bits .or .u64 (a : Int) (b : Int) = ((a ||| b : Nat) : Int) := u64_or_nat a b ha hb
theorem byt_drop (xs : List Int) (a j : Nat) : byt (xs.drop a) j = byt xs (a + j) := by simp [byt, List.getElem?_drop]
/-- Eight bytes below 128 may be passed over. -/
theorem ok_eight {xs : List Int} (hb : Byt xs) (h : noHi (Ut.word (byt xs) 0)) : Ut.ok (xs.drop 8) = Ut.ok xs := by
  refine Ut.ok_skip 8 xs fun x hx => ?_
  obtain ⟨j, hj, rfl⟩ := List.mem_iff_getElem.1 hx
  have h8 : j < 8 := by simp at hj; omega
  have := Ut.word_low (byt_byt hb) h j h8
  simp only [Nat.zero_add] at this
  have hl : j < xs.length := by simp at hj; omega
  simpa [byt, List.getElem?_eq_getElem hl] using this
theorem ok_one {xs : List Int} (h : byt xs 0 < 128) : Ut.ok (xs.drop 1) = Ut.ok xs := by
  refine Ut.ok_skip 1 xs fun x hx => ?_
  cases xs with
  | nil => simp at hx
  | cons c r => simp at hx; subst hx; simpa [byt] using h
end Go.Proofs.YtghldkjbmfbdfaaDoor
