import Derived.Test.YtgikgcepeniekaaCk23
namespace Go.Proofs.Ytgikgcepeniekaa
open Go Go.RowKit
set_option linter.unusedVariables false
set_option linter.unusedSimpArgs false
/-! Chunks written and read, bytes read and written: mathematics of ChunkBack. -/
theorem be2 (n : Int) (h0 : 0 ≤ n) (h1 : n < 65536) : ∃ a b, be n 2 = [a, b] ∧ a * 256 + b = n ∧ 0 ≤ a ∧ a < 256 ∧ 0 ≤ b ∧ b < 256 := by
  refine ⟨n / 2 ^ 8 % 256, n / 2 ^ 0 % 256, rfl, ?_, ?_⟩
  · have : (2 : Int) ^ 8 = 256 := by decide
    rw [this]; omega
  · have : (2 : Int) ^ 8 = 256 := by decide
    rw [this]; omega
theorem stepG_enc (c : Ck.Chk) (l : List Int) (h : c.bs.length + 4 < 65536) : stepG (encC c ++ l) = .ok (c, l) := by
  obtain ⟨a, b, e, hab, -⟩ := be2 (4 + (c.bs.length : Int)) (by omega) (by omega)
  have hl : encC c ++ l = c.ty :: c.fl :: a :: b :: (padL c.bs ++ l) := by unfold encC; rw [e]; simp
  have hN : (a * 256 + b).toNat = c.bs.length + 4 := by omega
  rw [hl, stepG, hN, padN_add4]
  have hp : (padL c.bs ++ l) = c.bs ++ (List.replicate (padN c.bs.length) 0 ++ l) := by unfold padL; simp
  have h4 : c.bs.length + 4 - 4 = c.bs.length := by omega
  rw [h4, hp, if_neg (by omega), if_neg (by simp), List.drop_left' rfl, List.take_left' (by simp), if_pos rfl, List.take_left' rfl, ← List.drop_drop, List.drop_left' rfl, List.drop_left' (by simp)]
def okL (l : List Ck.Chk) : Prop := ∀ c ∈ l, c.bs.length + 4 < 65536
theorem encC_ne (c : Ck.Chk) (l : List Int) : encC c ++ l ≠ [] := by simp [encC]
theorem getS_enc : ∀ (cs : List Ck.Chk) (b : Nat), okL cs → cs.length ≤ b → getS b (encL cs) = (cs, 0) := by
  intro cs
  induction cs with
  | nil => intro b _ _; cases b <;> simp [getS, encL]
  | cons c cs ih =>
    intro b hok hb
    cases b with
    | zero => simp at hb
    | succ b =>
      have e : encL (c :: cs) = encC c ++ encL cs := by simp [encL]
      have i := ih b (fun x hx => hok x (List.mem_cons_of_mem _ hx)) (by simpa using hb)
      rw [e, getS, if_neg (encC_ne _ _), stepG_enc c _ (hok c List.mem_cons_self)]
      simp only
      rw [i, if_pos rfl]
theorem okL_of {l : List Ck.Chk} (h : (encL l).length ≤ 4096) : okL l := by
  intro c hc
  obtain ⟨s, t, rfl⟩ := List.append_of_mem hc
  rw [encL_append] at h
  have e : encL (c :: t) = encC c ++ encL t := by simp [encL]
  rw [e, List.length_append, List.length_append, encC_length] at h
  omega
theorem stepG_back {l rest : List Int} {c : Ck.Chk} (hb : Byt l) (h : stepG l = .ok (c, rest)) : l = encC c ++ rest := by
  by_cases h4 : l.length < 4
  · rw [stepG_short h4] at h; cases h
  obtain ⟨a, b, x, y, r, rfl⟩ := drop4 (by omega : 4 ≤ l.length)
  rw [stepG] at h
  have hx := hb x (by simp)
  have hy := hb y (by simp)
  obtain ⟨n, hn⟩ : ∃ n : Nat, x * 256 + y = n := ⟨(x * 256 + y).toNat, by omega⟩
  rw [hn, Int.toNat_natCast] at h
  split at h
  · cases h
  · rename_i h1
    split at h
    · cases h
    · rename_i h2
      split at h
      · rename_i h3
        injection h with h
        injection h with h5 h6
        subst h5 h6
        obtain ⟨m, rfl⟩ : ∃ m, n = m + 4 := ⟨n - 4, by omega⟩
        have h4' : m + 4 - 4 = m := by omega
        rw [h4', padN_add4] at h2 h3 ⊢
        have hlen : (r.take m).length = m := by simp; omega
        have he : be (4 + ((r.take m).length : Int)) 2 = [x, y] := by
          rw [hlen]
          obtain ⟨p, q, e, hpq, hp0, hp1, hq0, hq1⟩ := be2 (4 + (m : Int)) (by omega) (by omega)
          rw [e]
          have e1 : p = x := by omega
          have e2 : q = y := by omega
          rw [e1, e2]
        have key : r = padL (r.take m) ++ r.drop (m + padN m) := by
          unfold padL
          rw [hlen, ← h3, List.append_assoc, ← List.drop_drop, List.take_append_drop, List.take_append_drop]
        show a :: b :: x :: y :: r = encC ⟨a, b, r.take m⟩ ++ r.drop (m + padN m)
        unfold encC
        simp only
        rw [he]
        conv => lhs; rw [key]
        simp
      · cases h
theorem getS_back : ∀ (b : Nat) (l : List Int) (cs : List Ck.Chk), Byt l → getS b l = (cs, 0) → encL cs = l ∧ cs.length ≤ b := by
  intro b
  induction b with
  | zero =>
    intro l cs _ h
    unfold getS at h
    injection h with h1 h2
    split at h2
    · rename_i hl; subst hl h1; exact ⟨rfl, Nat.le_refl _⟩
    · exact absurd h2 (by decide)
  | succ b ih =>
    intro l cs hb h
    unfold getS at h
    split at h
    · rename_i hl
      injection h with h1 h2
      subst hl h1
      exact ⟨rfl, Nat.zero_le _⟩
    · rename_i hl
      split at h
      · rename_i k hs
        injection h with h1 h2
        subst h2
        exfalso
        have hz : stepG l = .error 0 := hs
        unfold stepG at hz
        repeat' split at hz
        all_goals first | (cases hz; done) | (injection hz with hz; exact absurd hz (by decide)) | cases hz
      · rename_i c rest hs
        have e := stepG_back hb hs
        have hb2 : Byt rest := fun x hx => hb x (by rw [e]; exact List.mem_append_right _ hx)
        split at h
        · rename_i h0
          injection h with h1 h2
          obtain ⟨i1, i2⟩ := ih rest (getS b rest).1 hb2 (by rw [← h0])
          subst h1
          refine ⟨?_, by simp; omega⟩
          rw [e]
          conv => rhs; rw [← i1]
          simp [encL]
        · rename_i h0
          injection h with h1 h2
          exact absurd h2 h0
end Go.Proofs.Ytgikgcepeniekaa
