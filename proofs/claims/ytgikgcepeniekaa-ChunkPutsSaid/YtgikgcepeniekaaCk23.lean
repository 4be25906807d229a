import Derived.Test.YtgikgcepeniekaaCk11
import Derived.Test.YtgikgcepeniekaaCk21
import Derived.Test.YtgikgcepeniekaaCk20
import Derived.BigQuiet
namespace Go.Proofs.Ytgikgcepeniekaa
open Go Go.RowKit
set_option linter.unusedVariables false
set_option linter.unusedSimpArgs false
/-! Which chunks bytes are: mathematics. -/
/-- The first chunk of bytes, and the rest. -/
def stepG : List Int → Except Int (Ck.Chk × List Int)
  | a :: b :: c :: d :: rest =>
    if (c * 256 + d).toNat < 4 then .error 2
    else if rest.length < (c * 256 + d).toNat - 4 + padN (c * 256 + d).toNat then .error 3
    else if (rest.drop ((c * 256 + d).toNat - 4)).take (padN (c * 256 + d).toNat) = List.replicate (padN (c * 256 + d).toNat) 0 then .ok (⟨a, b, rest.take ((c * 256 + d).toNat - 4)⟩, rest.drop ((c * 256 + d).toNat - 4 + padN (c * 256 + d).toNat))
    else .error 2
  | _ => .error 3
/-- All of them, at most so many. -/
def getS : Nat → List Int → List Ck.Chk × Int
  | 0, l => ([], if l = [] then 0 else 4)
  | b + 1, l => if l = [] then ([], 0) else match stepG l with
    | .error k => ([], k)
    | .ok (c, rest) => if (getS b rest).2 = 0 then (c :: (getS b rest).1, 0) else ([], (getS b rest).2)
def GetRes (xs : List Int) (cs : List Ck.Chk) (k : Int) : Prop := (xs.length ≤ 4096 ∧ getS 32 xs = (cs, k)) ∨ (4096 < xs.length ∧ cs = [] ∧ k = 4)
theorem getRes_inj {xs : List Int} {cs ds : List Ck.Chk} {k k' : Int} (a : GetRes xs cs k) (b : GetRes xs ds k') : cs = ds ∧ k = k' := by
  rcases a with ⟨a1, a2⟩ | ⟨a1, a2, a3⟩ <;> rcases b with ⟨b1, b2⟩ | ⟨b1, b2, b3⟩
  · have := a2.symm.trans b2; injection this with e1 e2; exact ⟨e1, e2⟩
  · omega
  · omega
  · exact ⟨by rw [a2, b2], by omega⟩
/-- What is found behind those that were found. -/
def joinG (out : List Ck.Chk) (p : List Ck.Chk × Int) : List Ck.Chk × Int := if p.2 = 0 then (out ++ p.1, 0) else ([], p.2)
theorem getS_err : ∀ (b : Nat) (l : List Int), (getS b l).2 ≠ 0 → (getS b l).1 = [] := by
  intro b
  cases b with
  | zero => intro l _; rfl
  | succ b =>
    intro l h
    unfold getS at h ⊢
    split
    · rfl
    · rename_i hl
      rw [if_neg hl] at h
      split
      · rfl
      · rename_i c rest hs
        rw [hs] at h
        simp only at h
        split
        · rename_i h0; rw [if_pos h0] at h; exact absurd rfl h
        · rfl
theorem joinG_nil (p : List Ck.Chk × Int) (h : p.2 ≠ 0 → p.1 = []) : joinG [] p = p := by
  unfold joinG
  split
  · rename_i h0; obtain ⟨a, b⟩ := p; simp only at h0; subst h0; rfl
  · rename_i h0; obtain ⟨a, b⟩ := p; have := h h0; simp only at this; subst this; rfl
theorem joinG_step {b : Nat} {l rest : List Int} {c : Ck.Chk} {out : List Ck.Chk} (hl : l ≠ []) (hs : stepG l = .ok (c, rest)) : joinG out (getS (b + 1) l) = joinG (out ++ [c]) (getS b rest) := by
  rw [getS, if_neg hl, hs]
  by_cases h0 : (getS b rest).2 = 0
  · simp [joinG, h0]
  · simp [joinG, h0]
theorem joinG_err {b : Nat} {l : List Int} {k : Int} {out : List Ck.Chk} (hl : l ≠ []) (hs : stepG l = .error k) (hk : k ≠ 0) : joinG out (getS (b + 1) l) = ([], k) := by
  rw [getS, if_neg hl, hs]
  simp only [joinG]
  rw [if_neg hk]
theorem joinG_end {b : Nat} {out : List Ck.Chk} : joinG out (getS b []) = (out, 0) := by
  cases b <;> simp [getS, joinG]
theorem joinG_full {l : List Int} {out : List Ck.Chk} (hl : l ≠ []) : joinG out (getS 0 l) = ([], 4) := by
  simp [getS, joinG, hl]
section
variable {xs : List Int} {r : R}
theorem failR_keep (k : Int) (h : r.e ≠ 0) : failR k r = r := by
  unfold failR; rw [if_neg h]
theorem rdN_e (s : Nat) (h : r.e ≠ 0) : (rdN xs s r).e = r.e := by
  unfold rdN; split
  · rfl
  · rw [failR_keep 3 h]
theorem reqR_e (b : Bool) (h : r.e ≠ 0) : reqR b r = r := by
  cases b
  · exact failR_keep 2 h
  · rfl
theorem rdNI_e (n : Int) (h : r.e ≠ 0) : (rdNI xs n r).e = r.e := by
  unfold rdNI; split
  · rw [failR_keep 1 h]
  · exact rdN_e _ h
theorem zerR_e (zs : List Int) (h : r.e ≠ 0) : zerR zs r = r := by
  induction zs generalizing r with
  | nil => rfl
  | cons z zs ih =>
    show zerR zs (reqR (z == 0) r) = r
    rw [reqR_e _ h, ih h]
theorem zerR_bad {zs : List Int} (h0 : r.e = 0) (hz : zs ≠ List.replicate zs.length 0) : (zerR zs r).e = 2 := by
  induction zs generalizing r with
  | nil => exact absurd rfl hz
  | cons z zs ih =>
    show (zerR zs (reqR (z == 0) r)).e = 2
    by_cases hz0 : z = 0
    · subst hz0
      exact ih h0 (fun e => hz (by rw [List.length_cons, List.replicate_succ, ← e]))
    · have e1 : reqR (z == 0) r = failR 2 r := by
        have : (z == 0) = false := by rw [beq_eq_false_iff_ne]; exact hz0
        rw [this]; rfl
      rw [e1, zerR_e _ (failR_ne (by decide) r)]
      simp [failR, h0]
theorem pd_e {bs : List Int} {r' : R} (h : PdStep xs bs r r') (he : r.e ≠ 0) : r'.e = r.e := by
  obtain ⟨n, r1, h1, h2, h3⟩ := h.ex
  have e1 : r1.e = r.e := by rw [h1.st]; exact rdN_e 2 he
  have n1 : r1.e ≠ 0 := by rw [e1]; exact he
  rw [reqR_e _ n1] at h3
  have e2 := rdNI_e (xs := xs) ((n : Int) - 4) n1
  have n2 : (rdNI xs ((n : Int) - 4) r1).e ≠ 0 := by rw [e2]; exact n1
  have e3 := rdN_e (xs := xs) (padN n) n2
  have n3 : (rdN xs (padN n) (rdNI xs ((n : Int) - 4) r1)).e ≠ 0 := by rw [e3]; exact n2
  rw [h3, zerR_e _ n3, e3, e2, e1]
theorem rdN_short {s : Nat} (h0 : r.e = 0) (h : xs.length < r.at_ + s) : (rdN xs s r).e = 3 := by
  unfold rdN; rw [if_neg (by omega)]; simp [failR, h0]
theorem rdN_fit {s : Nat} (h : r.at_ + s ≤ xs.length) : rdN xs s r = ⟨r.at_ + s, r.e⟩ := by
  unfold rdN; rw [if_pos h]
theorem drop4 {l : List Int} (h : 4 ≤ l.length) : ∃ a b c d rest, l = a :: b :: c :: d :: rest := by
  match l, h with
  | a :: b :: c :: d :: rest, _ => exact ⟨a, b, c, d, rest, rfl⟩
theorem stepG_short {l : List Int} (h : l.length < 4) : stepG l = .error 3 := by
  match l, h with
  | [], _ => rfl
  | [_], _ => rfl
  | [_, _], _ => rfl
  | [_, _, _], _ => rfl
theorem stepP {bs : List Int} {t f : Int} {r1 r2 r3 : R} (hb : Byt xs) (he : r.e = 0) (hat : r.at_ < xs.length) (s1 : RdStep xs 1 t r r1) (s2 : RdStep xs 1 f r1 r2) (pd : PdStep xs bs r2 r3) :
    stepG (xs.drop r.at_) = if r3.e = 0 then .ok (⟨t, f, bs⟩, xs.drop r3.at_) else .error r3.e := by
  have a1 : r1 = ⟨r.at_ + 1, 0⟩ := by rw [s1.st, rdN_fit (by omega), he]
  by_cases h4 : xs.length < r.at_ + 4
  · have e3 : r3.e = 3 := by
      by_cases h2 : xs.length < r.at_ + 2
      · have e2 : r2.e = 3 := by rw [s2.st, a1]; exact rdN_short rfl (by show xs.length < r.at_ + 1 + 1; omega)
        rw [pd_e pd (by rw [e2]; decide), e2]
      · have a2 : r2 = ⟨r.at_ + 2, 0⟩ := by rw [s2.st, a1, rdN_fit (by show r.at_ + 1 + 1 ≤ _; omega)]
        obtain ⟨n, q, h1, h2', h3⟩ := pd.ex
        have eq : q.e = 3 := by rw [h1.st, a2]; exact rdN_short rfl (by show xs.length < r.at_ + 2 + 2; omega)
        have n1 : q.e ≠ 0 := by rw [eq]; decide
        rw [reqR_e _ n1] at h3
        have e2 := rdNI_e (xs := xs) ((n : Int) - 4) n1
        have n2 : (rdNI xs ((n : Int) - 4) q).e ≠ 0 := by rw [e2]; exact n1
        have e4 := rdN_e (xs := xs) (padN n) n2
        rw [h3, zerR_e _ (by rw [e4]; exact n2), e4, e2, eq]
    rw [e3, if_neg (by decide)]
    exact stepG_short (by simp; omega)
  · obtain ⟨a, b, c, d, rest, hl⟩ := drop4 (l := xs.drop r.at_) (by simp; omega)
    have hlen := congrArg List.length hl
    simp only [List.length_drop, List.length_cons] at hlen
    have a2 : r2 = ⟨r.at_ + 2, 0⟩ := by rw [s2.st, a1, rdN_fit (by show r.at_ + 1 + 1 ≤ _; omega)]
    obtain ⟨n, q, h1, h2', h3⟩ := pd.ex
    have aq : q = ⟨r.at_ + 4, 0⟩ := by rw [h1.st, a2, rdN_fit (by show r.at_ + 2 + 2 ≤ _; omega)]
    have ht : t = a := by rw [s1.val]; unfold rdV; rw [if_pos (by omega), hl]; simp [num]
    have hd1 : xs.drop (r.at_ + 1) = b :: c :: d :: rest := by rw [← List.drop_drop, hl]; rfl
    have hd2 : xs.drop (r.at_ + 2) = c :: d :: rest := by rw [← List.drop_drop, hl]; rfl
    have hd4 : xs.drop (r.at_ + 4) = rest := by rw [← List.drop_drop, hl]; rfl
    have hf : f = b := by rw [s2.val, a1]; unfold rdV; rw [if_pos (by show r.at_ + 1 + 1 ≤ _; omega)]; show num 0 ((xs.drop (r.at_ + 1)).take 1) = b; rw [hd1]; simp [num]
    have hn : (n : Int) = c * 256 + d := by rw [h1.val, a2]; unfold rdV; rw [if_pos (by show r.at_ + 2 + 2 ≤ _; omega)]; show num 0 ((xs.drop (r.at_ + 2)).take 2) = _; rw [hd2]; simp [num]
    have hN : (c * 256 + d).toNat = n := by omega
    have hrl : rest.length = xs.length - (r.at_ + 4) := by omega
    rw [hl]
    rw [stepG, hN]
    rw [aq] at h3 h2'
    by_cases hn4 : n < 4
    · rw [if_pos hn4]
      have hd : decide (4 ≤ (n : Int)) = false := by simp; omega
      rw [hd] at h3
      have er : reqR false (R.mk (r.at_ + 4) 0) = ⟨r.at_ + 4, 2⟩ := rfl
      rw [er] at h3
      have n1 : (R.mk (r.at_ + 4) 2).e ≠ 0 := (show (2 : Int) ≠ 0 by decide)
      have e2 := rdNI_e (xs := xs) ((n : Int) - 4) n1
      have n2 : (rdNI xs ((n : Int) - 4) ⟨r.at_ + 4, 2⟩).e ≠ 0 := by rw [e2]; exact n1
      have e4 := rdN_e (xs := xs) (padN n) n2
      have e5 : r3.e = 2 := by rw [h3, zerR_e _ (by rw [e4]; exact n2), e4, e2]
      rw [e5, if_neg (by decide)]
    · rw [if_neg hn4]
      have hd : decide (4 ≤ (n : Int)) = true := by simp; omega
      rw [hd] at h3 h2'
      have er : reqR true (R.mk (r.at_ + 4) 0) = ⟨r.at_ + 4, 0⟩ := rfl
      rw [er] at h3 h2'
      have hneg : ¬ ((n : Int) - 4 < 0) := by omega
      have htn : ((n : Int) - 4).toNat = n - 4 := by omega
      have eI : rdNI xs ((n : Int) - 4) ⟨r.at_ + 4, 0⟩ = rdN xs (n - 4) ⟨r.at_ + 4, 0⟩ := by unfold rdNI; rw [if_neg hneg, htn]
      have eB : rdBI xs ((n : Int) - 4) ⟨r.at_ + 4, 0⟩ = rdB xs (n - 4) ⟨r.at_ + 4, 0⟩ := by unfold rdBI; rw [if_neg hneg, htn]
      rw [eI] at h3
      rw [eB] at h2'
      by_cases hs1 : r.at_ + 4 + (n - 4) ≤ xs.length
      · have e6 : rdN xs (n - 4) ⟨r.at_ + 4, 0⟩ = ⟨r.at_ + 4 + (n - 4), 0⟩ := rdN_fit hs1
        rw [e6] at h3
        have hbs : bs = rest.take (n - 4) := by rw [h2']; unfold rdB; rw [if_pos hs1]; show (xs.drop (r.at_ + 4)).take (n - 4) = _; rw [hd4]
        by_cases hs2 : r.at_ + 4 + (n - 4) + padN n ≤ xs.length
        · rw [if_neg (by omega)]
          have e7 : rdN xs (padN n) ⟨r.at_ + 4 + (n - 4), 0⟩ = ⟨r.at_ + 4 + (n - 4) + padN n, 0⟩ := rdN_fit hs2
          rw [e7] at h3
          have hz : rdB xs (padN n) ⟨r.at_ + 4 + (n - 4), 0⟩ = (rest.drop (n - 4)).take (padN n) := by
            unfold rdB; rw [if_pos hs2]; show (xs.drop (r.at_ + 4 + (n - 4))).take (padN n) = _; rw [← List.drop_drop, hd4]
          rw [hz] at h3
          have hzl : ((rest.drop (n - 4)).take (padN n)).length = padN n := by simp; omega
          by_cases hz0 : (rest.drop (n - 4)).take (padN n) = List.replicate (padN n) 0
          · rw [if_pos hz0]
            rw [hz0, zer_bwd] at h3
            rw [h3, if_pos rfl, ht, hf, hbs]
            show _ = Except.ok (_, xs.drop (r.at_ + 4 + (n - 4) + padN n))
            have hdd : xs.drop (r.at_ + 4 + (n - 4) + padN n) = rest.drop (n - 4 + padN n) := by rw [Nat.add_assoc (r.at_ + 4), ← List.drop_drop, hd4]
            rw [hdd]
          · rw [if_neg hz0]
            have e8 : r3.e = 2 := by rw [h3]; exact zerR_bad rfl (by rw [hzl]; exact hz0)
            rw [e8, if_neg (by decide)]
        · rw [if_pos (by omega)]
          have e7 : (rdN xs (padN n) ⟨r.at_ + 4 + (n - 4), 0⟩).e = 3 := rdN_short rfl (by show xs.length < r.at_ + 4 + (n - 4) + padN n; omega)
          have e8 : r3.e = 3 := by rw [h3, zerR_e _ (by rw [e7]; decide), e7]
          rw [e8, if_neg (by decide)]
      · rw [if_pos (by omega)]
        have e6 : (rdN xs (n - 4) ⟨r.at_ + 4, 0⟩).e = 3 := rdN_short rfl (by show xs.length < r.at_ + 4 + (n - 4); omega)
        have n2 : (rdN xs (n - 4) ⟨r.at_ + 4, 0⟩).e ≠ 0 := by rw [e6]; decide
        have e7 := rdN_e (xs := xs) (padN n) n2
        have e8 : r3.e = 3 := by rw [h3, zerR_e _ (by rw [e7]; exact n2), e7, e6]
        rw [e8, if_neg (by decide)]
end
end Go.Proofs.Ytgikgcepeniekaa
namespace Go.Proofs.Ytgikgcepeniekaa
open Go Go.RowKit
set_option linter.unusedVariables false
set_option linter.unusedSimpArgs false
/-! The program's Get. -/
theorem info41 : (Try.prog.info? 41).map (fun i => (i.zero, i.size, i.bytes)) = some (some (.agg #[.int .u8 0, .int .u8 0, .slice none 0 0]), 3, 32) := by kernel_rfl
/-- A chunk with bytes of its own, out of X. -/
structure OwnC (B0 : Nat) (X : Nat → Prop) (w : World) (x : ChB) : Prop where
  own : OwnI .u8 5 0 w x.A x.n x.c x.bs
  byt : Byt x.bs
  ty : 0 ≤ x.ty ∧ x.ty < 256
  fl : 0 ≤ x.fl ∧ x.fl < 256
  n : x.n ≤ 140737488351232
  blk : ∀ k, blk? x.A = some k → B0 ≤ k ∧ ¬ X k
theorem OwnC.chIn {B0 : Nat} {X : Nat → Prop} {w : World} {x : ChB} (h : OwnC B0 X w x) : ChIn w x := ⟨own_inB h.own h.byt, h.ty, h.fl, h.n⟩
theorem OwnC.out {B0 : Nat} {X T : Nat → Prop} {w w' : World} {x : ChB} (h : OwnC B0 X w x) (ho : Out T w w') (ht : ∀ k, blk? x.A = some k → ¬ T k) : OwnC B0 X w' x := ⟨ho.own h.own (fun g hg => ht g (by rwa [ownBlock_slice] at hg)), h.byt, h.ty, h.fl, h.n, h.blk⟩
theorem OwnC.lt {B0 : Nat} {X : Nat → Prop} {w : World} {x : ChB} (h : OwnC B0 X w x) {k : Nat} (hk : blk? x.A = some k) : k < w.heap.size := (row_lt h.own hk).2
/-- Chunks in a row of one's own, each with bytes of its own. -/
structure GL (B0 : Nat) (X : Nat → Prop) (w : World) (A : Option Addr) (n c : Nat) (out : List ChB) : Prop where
  row : Row B0 X 41 3 w A n c (rowc out)
  len : out.length = n
  ch : ∀ x ∈ out, OwnC B0 X w x ∧ ∀ k, blk? x.A = some k → blk? A ≠ some k
section
variable {B0 : Nat} {X T : Nat → Prop} {w w' : World} {A : Option Addr} {n c : Nat} {out : List ChB}
theorem GL.inL (h : GL B0 X w A n c out) : InL w A n c out := ⟨row_cells h.row.own, fun x hx => (h.ch x hx).1.chIn, row_cap h.row.own, h.len⟩
theorem GL.outX (h : GL B0 X w A n c out) (ho : Out T w w') (ht : ∀ k, T k → X k) : GL B0 X w' A n c out :=
  ⟨h.row.outX ho ht, h.len, fun x hx => ⟨(h.ch x hx).1.out ho (fun k hk e => ((h.ch x hx).1.blk k hk).2 (ht k e)), (h.ch x hx).2⟩⟩
theorem GL.up (h : GL B0 X w A n c out) (hu : Up w w') : GL B0 X w' A n c out := h.outX (hu.out No) (fun _ h => h.elim)
theorem gl_nil (B0 : Nat) (X : Nat → Prop) (w : World) : GL B0 X w none 0 0 [] := ⟨row_nil _ _ _ _ _, rfl, fun x hx => by cases hx⟩
/-- One more behind them. -/
theorem GL.push (h : GL B0 X w A n c out) {x : ChB} {A' : Option Addr} {c' N : Nat} (hx : OwnC B0 X w x) (hxA : ∀ k, blk? x.A = some k → blk? A ≠ some k) (hN : N = n + 1) (hrow : w'.ownsRow 0 41 3 (.slice A' N c') N (rowc out ++ rowc [x]))
    (ho : Out (fun k => blk? A = some k) w w') (hb : blk? A' = blk? A ∨ blk? A' = some w.heap.size) (hX : ∀ k, X k → k < w.heap.size) (hB : B0 ≤ w.heap.size) : GL B0 X w' A' N c' (out ++ [x]) := by
  subst hN
  have key : ∀ y ∈ out ++ [x], OwnC B0 X w y ∧ ∀ k, blk? y.A = some k → blk? A ≠ some k := by
    intro y hy
    rcases List.mem_append.1 hy with h1 | h1
    · exact h.ch y h1
    · rw [List.mem_singleton.1 h1]; exact ⟨hx, hxA⟩
  refine ⟨⟨by rw [rowc_append]; exact hrow, fun k hk => ?_⟩, by simp [h.len], fun y hy => ⟨(key y hy).1.out ho (fun k hk e => (key y hy).2 k hk e), fun k hk e => ?_⟩⟩
  · rcases hb with hb | hb
    · exact h.row.blk k (by rw [← hb]; exact hk)
    · rw [hb] at hk; injection hk with hk
      exact ⟨by omega, fun e => by have := hX k e; omega⟩
  · rcases hb with hb | hb
    · exact (key y hy).2 k hk (by rw [← hb]; exact e)
    · rw [hb] at e; injection e with e
      have := (key y hy).1.lt hk
      omega
end
def GetPost (xs : List Int) (w : World) (e : Ending) (w' : World) : Prop := ∃ l k A n c, e = .returned (.tuple #[.slice A n c, .int .i64 k]) ∧ Hid (GetRes xs (l.map ChB.pure) k) ∧ Hid (InL w' A n c l) ∧ Hid (bytL (l.map ChB.pure)) ∧ Hid (n ≤ 32) ∧ Hid (Up w w')
theorem GetPost.no {xs : List Int} {k : Int} {w w' : World} {e : Ending} (h : e = .returned (.tuple #[.slice none 0 0, .int .i64 k])) (hr : GetRes xs [] k) (hu : Up w w') : GetPost xs w e w' :=
  ⟨[], k, none, 0, 0, h, Lib.hid hr, Lib.hid (inL_nil _), Lib.hid (fun c hc => by cases hc), Lib.hid (by omega), Lib.hid hu⟩
theorem inL_bytL {w : World} {A : Option Addr} {n c : Nat} {l : List ChB} (h : InL w A n c l) : bytL (l.map ChB.pure) := by
  intro c hc
  obtain ⟨x, hx, rfl⟩ := List.mem_map.1 hc
  exact ⟨(h.ch x hx).ty, (h.ch x hx).fl, (h.ch x hx).inb.byt⟩
set_option maxRecDepth 100000 in
theorem get_large (A : Option Addr) (m c : Nat) (xs : List Int) (w : World) (hm : xs.length = m) (hn : 4096 < m) (hn2 : m ≤ 140737488351232) : Calls Try.prog 14 #[.slice A m c] w (GetPost xs w) := by
  have HM := Lib.hid hm
  clear hm
  have d1 : decide (4096 < (m : Int)) = true := by simp; omega
  go_enter Try.func14, Try.ntmps14
  go_wp2_with fail
  go_ret2
  exact GetPost.no rfl (.inr ⟨by rw [HM.out]; exact hn, rfl, rfl⟩) (Up.refl _)
set_option maxRecDepth 100000 in
set_option maxHeartbeats 2000000 in
theorem get_small (A : Option Addr) (m c : Nat) (xs : List Int) (w : World) (hin : InB w A m c xs) (hn : m ≤ 4096) : Calls Try.prog 14 #[.slice A m c] w (GetPost xs w) := by
  have d1 : decide (4096 < (m : Int)) = false := by simp; omega
  have HI := Lib.hid hin
  have HXL := Lib.hid (show xs.length ≤ 4096 by rw [hin.len]; exact hn)
  have G0 := Lib.hid (RH.start (L := []) hin (by omega) (Up.refl w) (fun p hp => by cases hp))
  clear hin
  go_enter Try.func14, Try.ntmps14
  go_upto_region 5 with (fail)
  generalize (w.alloc (.cells #[.slice A m c, .int .i64 0, .int .i64 0] 77)) = w0 at G0 ⊢
  have HGE := Lib.hid (show w.heap.size = w.heap.size from rfl)
  generalize hgg : w.heap.size = g at G0 ⊢
  have HGW := Lib.hid hgg
  clear hgg HGE
  go_loopw [4] (fun v wr => ∃ (out : List ChB) (A1 : Option Addr) (n c1 : Nat) (r : R), n ≤ 32 ∧ v = .slice A1 n c1 ∧ Hid (RH g [] w xs r wr) ∧ Hid (GL (g + 1) (fun q => q = g) wr A1 n c1 out) ∧ Hid (r.e = 0) ∧ Hid (getS 32 xs = joinG (out.map ChB.pure) (getS (32 - n) (xs.drop r.at_)))) (fun v _ => match v with | .slice _ n _ => 33 - n | _ => 0)
  case atStart => exact ⟨[], none, 0, 0, ⟨0, 0⟩, by omega, rfl, G0, Lib.hid (gl_nil _ _ _), Lib.hid rfl, Lib.hid (by rw [List.map_nil, joinG_nil _ (getS_err _ _)]; rfl)⟩
  case round =>
    obtain ⟨out, A1, n, c1, r, hn32, rfl, hG, hL, he, hS⟩ := hrel
    go_wp2_with fail
    refine (rdone wr hG.out.isR).mono ?_
    rintro e wa ⟨b, rfl, hb, hu⟩
    have hGa := Lib.hid (hG.out.next hu.out)
    have hLa := Lib.hid (hL.out.up hu.out)
    clear hu hG hL
    cases b
    · have HAT := Lib.hid (show r.at_ < xs.length by
        have h1 := hGa.out.isR.at_
        have h2 : ¬ r.at_ = xs.length := fun e => by have := hb.out.2 e; cases this
        omega)
      have HNE := Lib.hid (show xs.drop r.at_ ≠ [] from fun e => by have := congrArg List.length e; simp at this; have := HAT.out; omega)
      clear hb
      by_cases h32 : n = 32
      · subst h32
        go_wp2_with fail
        go_ret2
        exact GetPost.no rfl (.inl ⟨HXL.out, by rw [hS.out]; exact joinG_full HNE.out⟩) hGa.out.up
      · have d2 : ((n : Int) == 32) = false := by rw [beq_eq_false_iff_ne]; omega
        have HNB := Lib.hid (show 32 - n = (32 - (n + 1)) + 1 by omega)
        go_wp2_with fail
        refine (rone wa hGa.out.isR).mono ?_
        rintro e wb ⟨t, r1, rfl, s1, b1, i1, o1⟩
        have hGb := Lib.hid (hGa.out.step i1 o1)
        have hLb := Lib.hid (hLa.out.outX o1.out (fun k hk => hk))
        clear i1 o1 hGa hLa
        go_wp2_with fail
        refine (rone wb hGb.out.isR).mono ?_
        rintro e wc ⟨f, r2, rfl, s2, b2, i1, o1⟩
        have hGc := Lib.hid (hGb.out.step i1 o1)
        have hLc := Lib.hid (hLb.out.outX o1.out (fun k hk => hk))
        clear i1 o1 hGb hLb
        go_wp2_with fail
        refine (rpadded wc hGc.out.isR).mono ?_
        rintro e wd ⟨A9, N9, c9, bs, r3, rfl, s3, hN9, hB9, hO9, i1, o1⟩
        have hGd := Lib.hid (hGc.out.step i1 o1)
        have hLd := Lib.hid (hLc.out.outX o1.out (fun k hk => hk))
        have HST := Lib.hid (stepP HI.out.byt he.out HAT.out s1.out s2.out s3.out)
        have HCB := Lib.hid (show ∀ k, blk? A9 = some k → (g + 1 ≤ k ∧ ¬ k = g) ∧ blk? A1 ≠ some k from fun k hk => by
          have h1 := (row_lt hO9.out hk).1
          have h2 := hGc.out.isR.lt
          exact ⟨⟨by omega, by omega⟩, fun e => by have := hLc.out.row.lt e; omega⟩)
        have HN9 := Lib.hid (show N9 ≤ 70000 by
          have h1 := hN9.out
          by_cases h3 : r3.e = 0
          · have := (pd_fwd s3.out HI.out.byt h3).2.2.1; omega
          · rw [h1]; obtain ⟨n', q, p1, p2, p3⟩ := s3.out.ex
            have p65 : (n' : Int) < 256 ^ 2 := p1.hi
            have e65 : (256 : Int) ^ 2 = 65536 := by decide
            rw [p2]; unfold rdBI rdB; split
            · simp
            · split
              · simp; omega
              · simp)
        have ht := b1.out
        have hf := b2.out
        have HTF := Lib.hid (show (0 ≤ t ∧ t < 256) ∧ 0 ≤ f ∧ f < 256 from ⟨by simpa using ht, by simpa using hf⟩)
        clear i1 o1 hGc hLc s1 s2 s3 b1 b2 ht hf
        obtain ⟨A0, m0, c0, q1, q2, q3⟩ := hGd.out.isR.ex
        have HR := Lib.hid q1
        clear q1 q2 q3
        have hW1 := Lib.hid (hGd.out.add (.cells #[.int .u8 t, .int .u8 f, .slice A9 N9 c9] 41))
        have hL1 := Lib.hid (hLd.out.up (up_alloc wd (.cells #[.int .u8 t, .int .u8 f, .slice A9 N9 c9] 41)))
        have hO1 := Lib.hid (show OwnI .u8 5 wc.heap.size _ A9 N9 c9 bs from own_up hO9.out (up_alloc wd (.cells #[.int .u8 t, .int .u8 f, .slice A9 N9 c9] 41)))
        have HR1 := Lib.hid (((up_alloc wd (.cells #[.int .u8 t, .int .u8 f, .slice A9 N9 c9] 41)).block _ (lt_of_blk HR.out)).trans HR.out)
        go_upto_region 9 with (fail)
        generalize wd.alloc (.cells #[.int .u8 t, .int .u8 f, .slice A9 N9 c9] 41) = we at hW1 hL1 hO1 HR1 ⊢
        generalize wd.heap.size = pb at hW1 ⊢
        have z2 := cell_of HR1.out (j := 2) rfl
        clear hGd hLd hO9 HR
        obtain ⟨a3, e3⟩ := r3
        by_cases h3 : e3 = 0
        · subst h3
          have HOK := Lib.hid (show stepG (xs.drop r.at_) = .ok (⟨t, f, bs⟩, xs.drop a3) by rw [HST.out, if_pos rfl])
          have z := (hW1.out.kept _ List.mem_cons_self).1
          simp only at z
          have y0 := cell_of z (j := 0) rfl
          have y1 := cell_of z (j := 1) rfl
          have y2 := cell_of z (j := 2) rfl
          clear z
          have HXC := Lib.hid (show OwnC (g + 1) (fun q => q = g) we ⟨t, f, A9, N9, c9, bs⟩ from ⟨hO1.out.base (Nat.zero_le _), hB9.out, HTF.out.1, HTF.out.2, by have := HN9.out; show N9 ≤ _; omega, fun k hk => (HCB.out k hk).1⟩)
          have HCL := Lib.hid (show Cells (we.alloc (.cells #[.int .u8 t, .int .u8 f, .slice A9 N9 c9] 41)) (some ⟨we.heap.size, 0, none⟩) (rowc [⟨t, f, A9, N9, c9, bs⟩]) from fun _ => ⟨we.heap.size, 0, rfl, lt_of_blk (new_at we _), fun j u hu => cell_of (new_at we _) (by rw [Nat.zero_add]; simpa [rowc, chc] using hu)⟩)
          have HUA := Lib.hid (up_alloc we (.cells #[.int .u8 t, .int .u8 f, .slice A9 N9 c9] 41))
          go_wp2_with (at_builtin; refine wpList_appendG rfl (.tmp 26) (.tmp 28) 22 rfl 0 41 (.agg #[.int .u8 0, .int .u8 0, .slice none 0 0]) 3 32 Try.underlying22 info41 rfl (by decide) A1 n c1 (rowc out) rfl (hL1.out.up HUA.out).row.own (some ⟨we.heap.size, 0, none⟩) 1 1 (rowc [⟨t, f, A9, N9, c9, bs⟩]) rfl (by simp [rowc, chc]) HCL.out (rowc_one _) (by omega) (by omega) (Nat.zero_le _) ?_; intro A' N' c' w' HN HW HO HB)
          have HGX := Lib.hid ((hW1.out.next HUA.out))
          have HL9 := Lib.hid ((hL1.out.up HUA.out).push (HXC.out.out (HUA.out.out No) (fun _ _ h => h)) (fun k hk => (HCB.out k hk).2) HN.out HW.out HO.out HB.out (fun k hk => by rw [hk]; exact HGX.out.isR.lt) (by have := HGX.out.isR.lt; omega))
          have HG9 := Lib.hid ((show RH g [] w xs ⟨a3, 0⟩ _ from ⟨HGX.out.isR, (fun p hp => by cases hp), HGX.out.up, HGX.out.g0⟩).sideT HO.out (fun k hk => ((hL1.out.up HUA.out).row.blk k hk).1) (fun p hp => by cases hp))
          go_roundw
          case rel => exact ⟨out ++ [⟨t, f, A9, N9, c9, bs⟩], A', N', c', ⟨a3, 0⟩, by have := HN.out; omega, rfl, HG9, HL9, Lib.hid rfl, Lib.hid (by rw [hS.out, HNB.out, joinG_step HNE.out HOK.out, HN.out]; simp [ChB.pure])⟩
          case measure => have := HN.out; show 33 - N' < 33 - n; omega
        · have HER := Lib.hid (show stepG (xs.drop r.at_) = .error e3 by rw [HST.out, if_neg h3])
          have H3 := Lib.hid h3
          have d3 : (e3 == 0) = false := by rw [beq_eq_false_iff_ne]; exact h3
          clear h3
          go_upto_region 10 with (fail)
          go_quiet (fail)
          go_wp2_with fail
          go_ret2
          exact GetPost.no rfl (.inl ⟨HXL.out, by rw [hS.out, HNB.out]; exact joinG_err HNE.out HER.out H3.out⟩) (hW1.out.up.trans (up_drewN _ _))
    · have HAT := Lib.hid (hb.out.1 rfl)
      clear hb
      go_wp2_with fail
      go_ret2
      exact ⟨out, 0, A1, n, c1, rfl, Lib.hid (.inl ⟨HXL.out, by rw [hS.out, HAT.out, List.drop_length]; exact joinG_end⟩), Lib.hid hLa.out.inL, Lib.hid (inL_bytL hLa.out.inL), Lib.hid hn32, Lib.hid hGa.out.up⟩
theorem get_any' (A : Option Addr) (m c : Nat) (xs : List Int) (w : World) (hin : InB w A m c xs) (hm : m ≤ 140737488351232) : Calls Try.prog 14 #[.slice A m c] w (GetPost xs w) := by
  by_cases h : 4096 < m
  · exact get_large A m c xs w hin.len h hm
  · exact get_small A m c xs w hin (by omega)
end Go.Proofs.Ytgikgcepeniekaa
