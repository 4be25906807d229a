import Derived.Test.YthncpkjnalmpkaaMgU
import Derived.Test.YthncpkjnalmpkaaDc3
namespace Go.Proofs.Ythncpkjnalmpkaa
open Go Go.RowKit Mg Dc
set_option linter.unusedVariables false
set_option linter.unusedSimpArgs false
/-! Rules of the commands: identity. -/
set_option maxRecDepth 100000 in
set_option maxHeartbeats 2000000 in
theorem identity_any (c l m : Int) (w : World) : Calls Try.prog 45 #[.int .u32 c, .int .i64 l, .int .i64 m] w fun e w' => e = .returned (ruV ⟨c, 0, 10, true, l, m⟩) ∧ Up w w' := by
  have HU := Lib.hid (up_alloc w (.cells #[.int .u32 0, .int .u32 0, .int .i64 0, .bool false, .int .i64 0, .int .i64 0] 49))
  have HQ := Lib.hid (new_at w (.cells #[.int .u32 0, .int .u32 0, .int .i64 0, .bool false, .int .i64 0, .int .i64 0] 49))
  go_enter Try.func45, Try.ntmps45
  go_upto_region 1 with (fail)
  generalize w.alloc (.cells #[.int .u32 0, .int .u32 0, .int .i64 0, .bool false, .int .i64 0, .int .i64 0] 49) = wa at HU HQ ⊢
  obtain ⟨q, HQE⟩ : ∃ q, Hid (w.heap.size = q) := ⟨_, Lib.hid rfl⟩
  rw [HQE.out] at HQ ⊢
  go_wp2_with (with_reducible refine wpList_store_row rfl 49 _ _ rfl q #[.int .u32 c, .int .u32 0, .int .i64 10, .bool true, .int .i64 l, .int .i64 m] rfl rfl 49 _ HQ.out (by kernel_rfl) rfl (by simp [Value.oneCell']) ?_)
  refine bodyPost_ret (results_cell_row (fn := Try.f45) (p := 6) (ty := 49) rfl _ _ q 49 _ (0, 0) _ rfl (setRow_heap _ _ _ _ _ _ HQ.out) Try.underlying49 rfl (by kernel_rfl)) rfl ?_
  exact ⟨rfl, below_setRow HU.out (by rw [HQE.out]; exact Nat.le_refl _) _⟩
def ru0 : List Ru := [⟨264, 0, 10, true, 1, 1⟩, ⟨296, 0, 10, true, 1, 1⟩, ⟨278, 0, 4, true, 0, 1⟩]
def ru1 : List Ru := [⟨283, 0, 10, true, 1, 1⟩, ⟨293, 0, 10, true, 0, 1⟩, ⟨282, 0, 10, true, 0, 56⟩, ⟨9100, 0, 1, true, 1, 1⟩]
def baseR (c : Int) : List Ru := if c = 257 ∨ c = 280 ∨ c = 282 then ru0 else if c = 9300 then ru0 ++ ru1 else []
theorem base_sound (c : Int) : sound (baseR c) = true := by
  unfold baseR
  split
  · decide
  · split
    · decide
    · decide
theorem base_ok (c : Int) : ∀ x ∈ baseR c, RuOK x := by
  have h0 : ∀ x ∈ ru0, RuOK x := by
    intro x hx
    simp only [ru0, List.mem_cons, List.mem_nil_iff, or_false] at hx
    rcases hx with rfl | rfl | rfl <;> exact ⟨by decide, by decide⟩
  have h1 : ∀ x ∈ ru1, RuOK x := by
    intro x hx
    simp only [ru1, List.mem_cons, List.mem_nil_iff, or_false] at hx
    rcases hx with rfl | rfl | rfl | rfl <;> exact ⟨by decide, by decide⟩
  unfold baseR
  split
  · exact h0
  · split
    · intro x hx
      rcases List.mem_append.1 hx with h | h
      · exact h0 x h
      · exact h1 x h
    · intro x hx; cases hx
theorem base_len (c : Int) : (baseR c).length ≤ 7 ∧ ((baseR c).length == 0) = ((c != 257) && (c != 280) && (c != 282) && (c != 9300)) := by
  unfold baseR
  by_cases h1 : c = 257
  · subst h1; decide
  by_cases h2 : c = 280
  · subst h2; decide
  by_cases h3 : c = 282
  · subst h3; decide
  by_cases h4 : c = 9300
  · subst h4; decide
  have b1 : (c != 257) = true := by simpa using h1
  have b2 : (c != 280) = true := by simpa using h2
  have b3 : (c != 282) = true := by simpa using h3
  have b4 : (c != 9300) = true := by simpa using h4
  rw [b1, b2, b3, b4, if_neg (by omega), if_neg h4]
  decide
/-- Rules in a row of the call's own. -/
def RPost (l : List Ru) (w : World) (e : Ending) (w' : World) : Prop := ∃ A n c, e = .returned (.slice A n c) ∧ Hid (InR w' A n c l) ∧ Hid (Up w w')
theorem info49 : (Try.prog.info? 49).map (fun i => (i.zero, i.size, i.bytes)) = some (some (.agg #[.int .u32 0, .int .u32 0, .int .i64 0, .bool false, .int .i64 0, .int .i64 0]), 6, 40) := by kernel_rfl
theorem rowr_append (l m : List Ru) : rowr (l ++ m) = rowr l ++ rowr m := by simp [rowr]
theorem rowr_one (l : List Ru) : ∀ u ∈ rowr l, u.oneCell' = true := by
  intro u hu
  simp only [rowr, List.mem_flatMap, ruL, List.mem_cons, List.mem_nil_iff, or_false] at hu
  obtain ⟨x, _, hu⟩ := hu
  rcases hu with rfl | rfl | rfl | rfl | rfl | rfl <;> rfl
theorem row_new {l : List Ru} {n : Nat} {cs : Array Value} (w : World) (hn : l.length = n) (hc : cs.toList = rowr l) (hn2 : n ≤ 100) : (w.alloc (.cells cs 49)).ownsRow w.heap.size 49 6 (.slice (some ⟨w.heap.size, 0, none⟩) n n) n (rowr l) := by
  have hs : cs.size = n * 6 := by rw [← Array.length_toList, hc, rowr_length, hn]
  exact ⟨by rw [rowr_length, hn], .inr ⟨w.heap.size, n, cs, rfl, Nat.le_refl _, new_at w _, Nat.le_refl _, by unfold maxLen; omega, hs, by rw [hc, List.take_of_length_le (by rw [rowr_length, hn]; exact Nat.le_refl _)]⟩⟩
theorem inR_of {B : Nat} {w : World} {A : Option Addr} {n c : Nat} {l : List Ru} (h : w.ownsRow B 49 6 (.slice A n c) n (rowr l)) (hl : l.length = n) (ho : ∀ x ∈ l, RuOK x) : InR w A n c l := ⟨row_cells h, ho, row_cap h, hl⟩
end Go.Proofs.Ythncpkjnalmpkaa
