import Derived.Test.YtgcabidhpnaoiaaFgE
namespace Go.Proofs.Ytgcabidhpnaoiaa
set_option linter.unusedVariables false
/-! The mathematics of FragNil: a message in two pieces. -/
namespace Fg
def nx0 : Nat → Nat := fun _ => 0
def nP1 (c : Int) : Pc := ⟨1, 0, 0, false, true, false, [c, c]⟩
def nP2 : Pc := ⟨2, 0, 0, false, false, true, [9]⟩
theorem nil_one (c : Int) : PutR ⟨[], [], nx0⟩ (nP1 c) 0 [] ⟨[nP1 c], [], nx0⟩ := by
  refine .inr (.inr (.inr ⟨?_, by simp, by simp, rfl, .inl ⟨fun t n hm => ?_, rfl, List.Perm.refl _, rfl, rfl⟩⟩))
  · unfold Form nP1; simp
  · obtain ⟨⟨h1, h2, h3, p, hp, h4, h5⟩, h6⟩ := hm
    obtain ⟨q, hq, q1, q2, q3, q4, q5, q6⟩ := h5 (n - 1) (by omega)
    rw [List.mem_singleton.1 hq] at q6
    have := q6.2 (by omega)
    cases this
theorem nil_mine (c : Int) : Mine (nP2 :: [nP1 c]) 2 1 2 := by
  refine ⟨⟨by omega, by omega, by omega, nP1 c, by simp, rfl, fun i hi => ?_⟩, by unfold off; omega⟩
  have : i = 0 ∨ i = 1 := by omega
  rcases this with rfl | rfl
  · exact ⟨nP1 c, by simp, rfl, rfl, rfl, rfl, by simp [nP1], by simp [nP1]⟩
  · exact ⟨nP2, by simp, rfl, rfl, rfl, rfl, by simp [nP2], by simp [nP2]⟩
theorem nil_bytes (c : Int) : bytesOf (nP2 :: [nP1 c]) 1 2 = [c, c, 9] := by
  unfold bytesOf
  rw [show List.range 2 = [0, 1] from rfl]
  have a0 : add 1 0 = 1 := by unfold add; omega
  have a1 : add 1 1 = 2 := by unfold add; omega
  simp [nP1, nP2, a0, a1, List.find?_cons]
theorem nil_rest (c : Int) : rest (nP2 :: [nP1 c]) 1 2 = [] := by
  have a0 : off 1 1 = 0 := by unfold off; omega
  have a1 : off 1 2 = 1 := by unfold off; omega
  unfold rest
  simp [nP1, nP2, a0, a1]
theorem nil_two (c : Int) : PutR ⟨[nP1 c], [], nx0⟩ nP2 0 [(0, [c, c, 9])] ⟨[], [], upd nx0 0⟩ := by
  refine .inr (.inr (.inr ⟨?_, ?_, by simp, rfl, .inr ⟨1, 2, nil_mine c, ?_, .inr ⟨rfl, ?_⟩⟩⟩))
  · unfold Form nP2; simp
  · intro q hq; rw [List.mem_singleton.1 hq]; simp [nP1, nP2]
  · rw [nil_rest]
  · rw [nil_bytes]
    unfold addW
    simp only [List.any_nil, Bool.false_eq_true, if_false]
    refine Turns.go (0, 0, [c, c, 9]) (by simp [nP2]) rfl rfl ?_
    exact Turns.stop (by simp [nx0, nP2]) (by simp [nx0, nP2])
/-- What both calls answer. -/
theorem nil_both {c : Int} {r r' : Int} {ms ms' : List (Nat × List Int)} {B B' : Bx} (h : PutR ⟨[], [], nx0⟩ (nP1 c) r ms B) (h' : PutR B nP2 r' ms' B') : r = 0 ∧ ms = [] ∧ B.wait = [] ∧ r' = 0 ∧ ms' = [(0, [c, c, 9])] := by
  have hb : BOk ⟨[], [], nx0⟩ := ⟨List.Pairwise.nil, List.Pairwise.nil, by simp⟩
  obtain ⟨e1, e2, e3⟩ := (nil_one c).det hb (show (1 : Nat) < 4294967296 by omega) ⟨List.Perm.refl _, List.Perm.refl _, rfl⟩ h
  have hb2 := (nil_one c).ok hb (show (1 : Nat) < 4294967296 by omega)
  obtain ⟨e4, e5, _⟩ := (nil_two c).det hb2 (show (2 : Nat) < 4294967296 by omega) e3 h'
  have e6 := e3.wait
  refine ⟨e1.symm, e2.symm, ?_, e4.symm, e5.symm⟩
  have := e6.length_eq
  exact List.eq_nil_of_length_eq_zero (by simpa using this.symm)
end Fg
end Go.Proofs.Ytgcabidhpnaoiaa
