import Derived.Test.YthncpkjnalmpkaaAvM
namespace Go.Proofs.Ythncpkjnalmpkaa
open Go Go.RowKit
set_option linter.unusedVariables false
set_option linter.unusedSimpArgs false
/-! Messages as bytes. -/
namespace Mg
structure Msg where
  req : Bool
  prox : Bool
  fail : Bool
  again : Bool
  code : Int
  app : Int
  hop : Int
  end_ : Int
  avps : List Av.Avp
end Mg
open Mg
/-- Flags that do not go together. -/
def mixM (m : Msg) : Bool := (m.req && m.fail) || (!m.req && m.again)
def msFl (m : Msg) : Int := (if m.req = true then 128 else 0) + (if m.prox = true then 64 else 0) + (if m.fail = true then 32 else 0) + (if m.again = true then 16 else 0)
def encM (m : Msg) : List Int := 1 :: (be ((encAs m.avps).length + 20 : Nat) 3 ++ (msFl m :: (be m.code 3 ++ (be m.app 4 ++ (be m.hop 4 ++ (be m.end_ 4 ++ encAs m.avps))))))
structure MsOK (m : Msg) : Prop where
  code : 0 ≤ m.code ∧ m.code < 4294967296
  app : 0 ≤ m.app ∧ m.app < 4294967296
  hop : 0 ≤ m.hop ∧ m.hop < 4294967296
  end_ : 0 ≤ m.end_ ∧ m.end_ < 4294967296
  avps : AvsOK m.avps
/-- What Put answers. -/
def putM (m : Msg) : List Int × Int :=
  if 16777215 < m.code then ([], 11) else if mixM m = true then ([], 2) else if ¬ (m.avps.length ≤ 64 ∧ (encAs m.avps).length ≤ 4096) then ([], 4) else if 4096 < (encAs m.avps).length + 20 then ([], 4) else (encM m, 0)
def noM : Msg := ⟨false, false, false, false, 0, 0, 0, 0, []⟩
/-- The head of bytes. -/
def rawM (b : List Int) : Msg := ⟨decide (b.getD 4 0 / 128 = 1), decide (b.getD 4 0 / 64 % 2 = 1), decide (b.getD 4 0 / 32 % 2 = 1), decide (b.getD 4 0 / 16 % 2 = 1), num 0 ((b.drop 5).take 3), num 0 ((b.drop 8).take 4), num 0 ((b.drop 12).take 4), num 0 ((b.drop 16).take 4), []⟩
def lenM (b : List Int) : Nat := (num 0 ((b.drop 1).take 3)).toNat
def headE (b : List Int) : Int :=
  if b.length < 20 then 3 else if b.getD 0 0 ≠ 1 then 2 else if 4096 < lenM b then 4 else if b.length < lenM b then 3
  else if lenM b < b.length ∨ lenM b % 4 ≠ 0 ∨ mixM (rawM b) = true then 2 else 0
def headM (b : List Int) : Msg × Int := if headE b = 0 then (rawM b, 0) else (noM, headE b)
/-- What Get answers: the attributes' own answer is getA's. -/
def getM (b : List Int) : Msg × Int := if headE b ≠ 0 then (noM, headE b) else if (getA 64 0 (b.drop 20)).2.2 ≠ 0 then (noM, (getA 64 0 (b.drop 20)).2.2) else ({ rawM b with avps := (getA 64 0 (b.drop 20)).1 }, 0)
theorem encA_mod4 (a : Av.Avp) : (encA a).length % 4 = 0 := by
  rw [encA_length]; unfold padN; omega
theorem encAs_mod4 : ∀ l : List Av.Avp, (encAs l).length % 4 = 0
  | [] => rfl
  | a :: l => by
    rw [encAs_cons, List.length_append]
    have h1 := encA_mod4 a
    have h2 := encAs_mod4 l
    omega
theorem encM_length (m : Msg) : (encM m).length = (encAs m.avps).length + 20 := by
  unfold encM; simp [be_length]; omega
theorem msFl_bd (m : Msg) : 0 ≤ msFl m ∧ msFl m ≤ 240 ∧ msFl m % 16 = 0 ∧ decide (msFl m / 128 = 1) = m.req ∧ decide (msFl m / 64 % 2 = 1) = m.prox ∧ decide (msFl m / 32 % 2 = 1) = m.fail ∧ decide (msFl m / 16 % 2 = 1) = m.again := by
  unfold msFl
  cases m.req <;> cases m.prox <;> cases m.fail <;> cases m.again <;> decide
theorem byt_app {a b : List Int} (ha : Byt a) (hb : Byt b) : Byt (a ++ b) := fun x hx => by
  rcases List.mem_append.1 hx with h | h
  · exact ha x h
  · exact hb x h
theorem byt_one {c : Int} {r : List Int} (hc : 0 ≤ c ∧ c < 256) (hr : Byt r) : Byt (c :: r) := fun x hx => by
  rcases List.mem_cons.1 hx with rfl | h
  · exact hc
  · exact hr x h
theorem byt_encM {m : Msg} (h : AvsOK m.avps) : Byt (encM m) := by
  have hf := msFl_bd m
  exact byt_one (by decide) (byt_app (be_byt _ _) (byt_one ⟨hf.1, by omega⟩ (byt_app (be_byt _ _) (byt_app (be_byt _ _) (byt_app (be_byt _ _) (byt_app (be_byt _ _) (byt_encAs h)))))))
/-- Its parts, from the front. -/
theorem encM_parts (m : Msg) : (encM m).getD 0 0 = 1 ∧ ((encM m).drop 1).take 3 = be ((encAs m.avps).length + 20 : Nat) 3 ∧ (encM m).getD 4 0 = msFl m ∧ ((encM m).drop 5).take 3 = be m.code 3 ∧ ((encM m).drop 8).take 4 = be m.app 4 ∧ ((encM m).drop 12).take 4 = be m.hop 4 ∧ ((encM m).drop 16).take 4 = be m.end_ 4 ∧ (encM m).drop 20 = encAs m.avps := by
  have e : ∀ n : Int, (be n 3).length = 3 := fun n => be_length n 3
  have f : ∀ n : Int, (be n 4).length = 4 := fun n => be_length n 4
  have d1 : (encM m).drop 1 = be ((encAs m.avps).length + 20 : Nat) 3 ++ (msFl m :: (be m.code 3 ++ (be m.app 4 ++ (be m.hop 4 ++ (be m.end_ 4 ++ encAs m.avps))))) := rfl
  have d4 : (encM m).drop 4 = msFl m :: (be m.code 3 ++ (be m.app 4 ++ (be m.hop 4 ++ (be m.end_ 4 ++ encAs m.avps)))) := by rw [show 4 = 1 + 3 from rfl, ← List.drop_drop, d1, drop_app (e _)]
  have d5 : (encM m).drop 5 = be m.code 3 ++ (be m.app 4 ++ (be m.hop 4 ++ (be m.end_ 4 ++ encAs m.avps))) := by rw [show 5 = 4 + 1 from rfl, ← List.drop_drop, d4]; rfl
  have d8 : (encM m).drop 8 = be m.app 4 ++ (be m.hop 4 ++ (be m.end_ 4 ++ encAs m.avps)) := by rw [show 8 = 5 + 3 from rfl, ← List.drop_drop, d5, drop_app (e _)]
  have d12 : (encM m).drop 12 = be m.hop 4 ++ (be m.end_ 4 ++ encAs m.avps) := by rw [show 12 = 8 + 4 from rfl, ← List.drop_drop, d8, drop_app (f _)]
  have d16 : (encM m).drop 16 = be m.end_ 4 ++ encAs m.avps := by rw [show 16 = 12 + 4 from rfl, ← List.drop_drop, d12, drop_app (f _)]
  have g4 : (encM m).getD 4 0 = msFl m := by
    have h1 : (encM m)[4]? = ((encM m).drop 4)[0]? := by rw [List.getElem?_drop]
    rw [List.getD_eq_getElem?_getD, h1, d4]; rfl
  exact ⟨rfl, by rw [d1, take_app (e _)], g4, by rw [d5, take_app (e _)], by rw [d8, take_app (f _)], by rw [d12, take_app (f _)], by rw [d16, take_app (f _)], by rw [show 20 = 16 + 4 from rfl, ← List.drop_drop, d16, drop_app (f _)]⟩
theorem p256_3' : (256 : Int) ^ 3 = 16777216 := by decide
/-- What is written is read. -/
theorem head_enc {m : Msg} (h : MsOK m) (hc : m.code ≤ 16777215) (hx : mixM m = false) (hl : (encAs m.avps).length + 20 ≤ 4096) : headE (encM m) = 0 ∧ rawM (encM m) = { m with avps := [] } := by
  obtain ⟨h0, h1, h4, h5, h8, h12, h16, -⟩ := encM_parts m
  obtain ⟨f1, f2, f3, f4, f5, f6, f7⟩ := msFl_bd m
  have hL : lenM (encM m) = (encAs m.avps).length + 20 := by
    unfold lenM
    rw [h1, num_be_eq (by omega) (by rw [p256_3']; omega)]
    omega
  have hr : rawM (encM m) = { m with avps := [] } := by
    unfold rawM
    rw [h4, h5, h8, h12, h16, f4, f5, f6, f7, num_be_eq h.code.1 (by rw [p256_3']; omega), num_be_eq h.app.1 (by rw [p256_4]; exact h.app.2), num_be_eq h.hop.1 (by rw [p256_4]; exact h.hop.2), num_be_eq h.end_.1 (by rw [p256_4]; exact h.end_.2)]
  refine ⟨?_, hr⟩
  have hm4 := encAs_mod4 m.avps
  unfold headE
  rw [h0, hL, encM_length, hr, if_neg (by omega), if_neg (by decide), if_neg (by omega), if_neg (by omega), if_neg]
  rintro (h | h | h)
  · omega
  · omega
  · rw [show mixM { m with avps := [] } = mixM m from rfl, hx] at h; cases h
theorem putM_ok {m : Msg} {d : List Int} (h : putM m = (d, 0)) : d = encM m ∧ m.code ≤ 16777215 ∧ mixM m = false ∧ m.avps.length ≤ 64 ∧ (encAs m.avps).length + 20 ≤ 4096 := by
  unfold putM at h
  split at h
  · cases h
  · split at h
    · cases h
    · split at h
      · cases h
      · split at h
        · cases h
        · rename_i h1 h2 h3 h4
          cases h
          refine ⟨rfl, by omega, by simpa using h2, ?_, by omega⟩
          have h5 : m.avps.length ≤ 64 ∧ (encAs m.avps).length ≤ 4096 := Classical.not_not.1 h3
          exact h5.1
theorem get_put {m : Msg} {d : List Int} (h : MsOK m) (hp : putM m = (d, 0)) : getM d = (m, 0) := by
  obtain ⟨rfl, h1, h2, h3, h4⟩ := putM_ok hp
  obtain ⟨h5, h6⟩ := head_enc h h1 h2 h4
  unfold getM
  rw [if_neg (by rw [h5]; decide), (encM_parts m).2.2.2.2.2.2.2, getA_encAs h.avps (by omega) h3, h6, if_neg (by simp)]
theorem put_of {m : Msg} (h1 : m.code ≤ 16777215) (h2 : mixM m = false) (h3 : m.avps.length ≤ 64) (h4 : (encAs m.avps).length + 20 ≤ 4096) : putM m = (encM m, 0) := by
  unfold putM
  rw [if_neg (by omega), if_neg (by rw [h2]; decide), if_neg (fun h => h ⟨h3, by omega⟩), if_neg (by omega)]
theorem headE_ok {b : List Int} (h : headE b = 0) : 20 ≤ b.length ∧ b.getD 0 0 = 1 ∧ lenM b ≤ 4096 ∧ lenM b = b.length ∧ lenM b % 4 = 0 ∧ mixM (rawM b) = false := by
  unfold headE at h
  split at h
  · cases h
  · split at h
    · cases h
    · split at h
      · cases h
      · split at h
        · cases h
        · split at h
          · cases h
          · rename_i h1 h2 h3 h4 h5
            refine ⟨by omega, Classical.not_not.1 h2, by omega, ?_, ?_, ?_⟩
            · have : ¬ lenM b < b.length := fun e => h5 (.inl e)
              omega
            · have : ¬ lenM b % 4 ≠ 0 := fun e => h5 (.inr (.inl e))
              omega
            · cases hm : mixM (rawM b)
              · rfl
              · exact absurd (.inr (.inr hm)) h5
theorem getM_ok {b : List Int} {n : Msg} (hb : Byt b) (h : getM b = (n, 0)) : headE b = 0 ∧ getA 64 0 (b.drop 20) = (n.avps, 0, 0) ∧ n = { rawM b with avps := n.avps } := by
  unfold getM at h
  by_cases h1 : headE b = 0
  · rw [if_neg (fun e => e h1)] at h
    by_cases h2 : (getA 64 0 (b.drop 20)).2.2 = 0
    · rw [if_neg (fun e => e h2)] at h
      have h3 := congrArg Prod.fst h
      simp only at h3
      subst h3
      exact ⟨h1, Prod.ext rfl (Prod.ext (getA_at0 64 0 (b.drop 20) h2) h2), rfl⟩
    · rw [if_pos h2] at h
      exact absurd (congrArg Prod.snd h) h2
  · rw [if_pos h1] at h
    exact absurd (congrArg Prod.snd h) h1
theorem num24 {b : List Int} (hb : Byt b) (a s : Nat) (hs : s = 3 ∨ s = 4) : 0 ≤ num 0 ((b.drop a).take s) ∧ num 0 ((b.drop a).take s) < 256 ^ s := by
  have h1 := num_bd ((b.drop a).take s) (fun x hx => hb x (List.mem_of_mem_drop (List.mem_of_mem_take hx)))
  refine ⟨h1.1, Int.lt_of_lt_of_le h1.2 ?_⟩
  have hl : ((b.drop a).take s).length ≤ s := by simp; omega
  generalize ((b.drop a).take s).length = k at hl
  rcases hs with rfl | rfl
  · match k, hl with
    | 0, _ => decide
    | 1, _ => decide
    | 2, _ => decide
    | 3, _ => decide
  · match k, hl with
    | 0, _ => decide
    | 1, _ => decide
    | 2, _ => decide
    | 3, _ => decide
    | 4, _ => decide
/-- What is read may be written, in as many bytes, and is read again. -/
theorem put_get {b : List Int} {n : Msg} (hb : Byt b) (h : getM b = (n, 0)) : MsOK n ∧ putM n = (encM n, 0) ∧ (encM n).length = b.length := by
  obtain ⟨h1, h2, h3⟩ := getM_ok hb h
  obtain ⟨a1, a2, a3, a4, a5, a6⟩ := headE_ok h1
  obtain ⟨c1, c2, c3⟩ := getA_back 64 0 (b.drop 20) n.avps 0 (fun x hx => hb x (List.mem_of_mem_drop hx)) h2
  rw [List.length_drop] at c3
  have k5 := num24 hb 5 3 (.inl rfl)
  have k8 := num24 hb 8 4 (.inr rfl)
  have k12 := num24 hb 12 4 (.inr rfl)
  have k16 := num24 hb 16 4 (.inr rfl)
  rw [p256_3'] at k5
  rw [p256_4] at k8 k12 k16
  have hn : MsOK n := by
    rw [h3]
    exact ⟨⟨k5.1, by show num 0 ((b.drop 5).take 3) < _; omega⟩, k8, k12, k16, c1⟩
  have hc : n.code ≤ 16777215 := by rw [h3]; show num 0 ((b.drop 5).take 3) ≤ _; omega
  have hx : mixM n = false := by rw [h3]; exact a6
  exact ⟨hn, put_of hc hx c2 (by omega), by rw [encM_length]; omega⟩
/-- Two messages that part in their Hop alone. -/
theorem encM_hop (m : Msg) (x : Int) : (encM m).take 12 = (encM { m with hop := x }).take 12 ∧ (encM m).drop 16 = (encM { m with hop := x }).drop 16 ∧ ((encM { m with hop := x }).drop 12).take 4 = be x 4 := by
  have e : ∀ n : Int, (be n 3).length = 3 := fun n => be_length n 3
  have f : ∀ n : Int, (be n 4).length = 4 := fun n => be_length n 4
  have pre : ∀ y : Int, encM { m with hop := y } = (1 :: (be ((encAs m.avps).length + 20 : Nat) 3 ++ (msFl m :: (be m.code 3 ++ be m.app 4)))) ++ (be y 4 ++ (be m.end_ 4 ++ encAs m.avps)) := fun y => by
    unfold encM; simp [msFl]
  have hp : (1 :: (be ((encAs m.avps).length + 20 : Nat) 3 ++ (msFl m :: (be m.code 3 ++ be m.app 4)))).length = 12 := by simp [be_length]
  have hm := pre m.hop
  rw [show ({ m with hop := m.hop } : Msg) = m from rfl] at hm
  refine ⟨?_, ?_, (encM_parts { m with hop := x }).2.2.2.2.2.1⟩
  · rw [pre x, hm, take_app hp, take_app hp]
  · rw [pre x, hm, show 16 = 12 + 4 from rfl, ← List.drop_drop, ← List.drop_drop, drop_app hp, drop_app hp, drop_app (f _), drop_app (f _)]
/-- The data of the first attribute of a code without a vendor. -/
def findM (l : List Av.Avp) (c : Int) : Option (List Int) := (l.find? fun a => decide (a.code = c ∧ a.vendor = 0)).map (·.bs)
def codeM (l : List Av.Avp) : Int := match findM l 268 with
  | some b => if b.length = 4 then num 0 b else 0
  | none => 0
def numM (code : Int) : Int := if 0 ≤ code ∧ code ≤ 4294967295 then code else 0
def ansM (m : Msg) (code : Int) (host realm : List Int) (more : List Av.Avp) : Msg :=
  ⟨false, m.prox, decide (3000 ≤ code ∧ code < 4000), false, m.code, m.app, m.hop, m.end_, ⟨268, 0, true, false, be (numM code) 4⟩ :: ⟨264, 0, true, false, host⟩ :: ⟨296, 0, true, false, realm⟩ :: more⟩
theorem codeM_ans (m : Msg) (code : Int) (host realm : List Int) (more : List Av.Avp) : codeM (ansM m code host realm more).avps = numM code := by
  have hn : 0 ≤ numM code ∧ numM code < 4294967296 := by unfold numM; split <;> omega
  have hf : findM (ansM m code host realm more).avps 268 = some (be (numM code) 4) := rfl
  unfold codeM
  rw [hf]
  simp only
  rw [if_pos (be_length _ _), num_be_eq hn.1 (by rw [p256_4]; exact hn.2)]
theorem findM_at {l : List Av.Avp} {c : Int} {i : Nat} {a : Av.Avp} (hi : l[i]? = some a) (h : a.code = c ∧ a.vendor = 0) (hp : ∀ (j : Nat) (b : Av.Avp), j < i → l[j]? = some b → ¬ (b.code = c ∧ b.vendor = 0)) : findM l c = some a.bs := by
  unfold findM
  obtain ⟨h1, h2⟩ := List.getElem?_eq_some_iff.1 hi
  have : (l.find? fun a => decide (a.code = c ∧ a.vendor = 0)) = some a := by
    rw [List.find?_eq_some_iff_getElem]
    exact ⟨by simpa using h, i, h1, h2, fun j hj => by
      have h3 := hp j _ hj (List.getElem?_eq_getElem (show j < l.length by omega))
      rw [decide_eq_false h3]; rfl⟩
  rw [this]; rfl
theorem findM_no {l : List Av.Avp} {c : Int} (hp : ∀ (j : Nat) (b : Av.Avp), l[j]? = some b → ¬ (b.code = c ∧ b.vendor = 0)) : findM l c = none := by
  unfold findM
  have : (l.find? fun a => decide (a.code = c ∧ a.vendor = 0)) = none := by
    rw [List.find?_eq_none]
    intro a ha
    obtain ⟨j, hj, rfl⟩ := List.mem_iff_getElem.1 ha
    have h3 := hp j _ (List.getElem?_eq_getElem hj)
    simpa using h3
  rw [this]; rfl
end Go.Proofs.Ythncpkjnalmpkaa
