import Derived.Test.YthncpkjnalmpkaaSteady
import Derived.Test.YthncpkjnalmpkaaBytes
namespace Go.Proofs.Ythncpkjnalmpkaa
set_option linter.unusedVariables false
open Go Go.RowKit
/-- One more operation has been carried out. -/
def upd (L : Nat → Bool) (i : Nat) : Nat → Bool := fun j => if j = i then true else L j
def lst (l : Array Bool) : Nat → Bool := fun i => l.getD i false
/-- What has been carried out holds whatever it waits for. -/
def Closed (ops : Array Oper) (L : Nat → Bool) : Prop := ∀ i o, ops[i]? = some o → L i = true → ∀ e ∈ o.after, Region.binds .any e = true → L e.on = true
/-- Operation k waits, by way of others, for i. -/
def reachB (ops : Array Oper) : Nat → Nat → Nat → Bool
  | 0, _, _ => false
  | n + 1, i, k => match ops[k]? with
    | none => false
    | some o => o.after.toList.any fun e => Region.binds .any e && (e.on == i || reachB ops n i e.on)
theorem reach_spec {ops : Array Oper} {L : Nat → Bool} (hc : Closed ops L) {i : Nat} : ∀ (n k : Nat), reachB ops n i k = true → L k = true → L i = true := by
  intro n
  induction n with
  | zero => intro k h; cases h
  | succ n ih =>
    intro k h hk
    unfold reachB at h
    cases ho : ops[k]? with
    | none => rw [ho] at h; cases h
    | some o =>
      rw [ho] at h
      simp only [List.any_eq_true, Bool.and_eq_true, Bool.or_eq_true, beq_iff_eq] at h
      obtain ⟨e, he, hb, h1⟩ := h
      have hl := hc k o ho hk e (by simpa using he) hb
      rcases h1 with h1 | h1
      · rw [← h1]; exact hl
      · exact ih e.on h1 hl
theorem reach_not {ops : Array Oper} {L : Nat → Bool} (hc : Closed ops L) {i k n : Nat} (h : reachB ops n i k = true) (hi : L i = false) : L k = false := by
  cases hk : L k with
  | false => rfl
  | true => rw [reach_spec hc n k h hk] at hi; cases hi
/-- Nobody waits for one behind it. -/
def acyclicA (ops : Array Oper) : Bool := (List.range ops.size).all fun i => ((ops[i]?).map fun o => o.after.toList.all fun e => !Region.binds .any e || decide (e.on < i)).getD true
theorem acyclicA_spec {ops : Array Oper} (h : acyclicA ops = true) {i : Nat} {o : Oper} (hi : ops[i]? = some o) : ∀ e ∈ o.after, Region.binds .any e = true → e.on < i := by
  intro e he hb
  unfold acyclicA at h
  rw [List.all_eq_true] at h
  have hlt : i < ops.size := (Array.getElem?_eq_some_iff.1 hi).1
  have h1 := h i (List.mem_range.2 hlt)
  simp only [hi, Option.map_some, Option.getD_some, List.all_eq_true] at h1
  have := h1 e (by simpa using he)
  rw [hb] at this
  simpa using this
theorem ready_of_unlistedA {ops : Array Oper} (hac : acyclicA ops = true) {listed : Array Bool} (hs : listed.size = ops.size) :
    Region.ready .any ops listed = [] → ∀ i, i < ops.size → listed.getD i false = true := by
  intro hr i
  induction i using Nat.strongRecOn with
  | _ i ih =>
    intro hi
    cases hc : listed.getD i false with
    | true => rfl
    | false =>
      exfalso
      have hm : i ∈ Region.ready .any ops listed := by
        rw [mem_ready]
        refine ⟨?_, ops[i], by simp [hi], fun e he hb => ?_⟩
        · have : i < listed.size := by omega
          simpa [Array.getD_eq_getD_getElem?, this] using hc
        · have := acyclicA_spec hac (i := i) (o := ops[i]) (by simp [hi]) e he hb
          exact ih e.on this (by omega)
      rw [hr] at hm
      cases hm
theorem lst_upd {listed : Array Bool} {i : Nat} (hi : i < listed.size) : lst (listed.setIfInBounds i true) = upd (lst listed) i := by
  funext j
  unfold lst upd
  by_cases h : j = i
  · subst h; simp [Array.getD_eq_getD_getElem?, hi]
  · rw [if_neg h]; simp [Array.getD_eq_getD_getElem?, Array.getElem?_setIfInBounds_ne (Ne.symm h)]
section
variable (P : Program) (ops : Array Oper) (Φ : Nat → Value → World → Prop) (J : (Nat → Bool) → World → Prop) (a0 : Act)
/-- What is known while a region runs in whatever order; J: what is known of the world. -/
structure SInv (L : Nat → Bool) (a : Act) (w : World) : Prop where
  world : J L w
  closed : Closed ops L
  size : a.tmps.size = a0.tmps.size
  defers : a.defers = a0.defers
  old : ∀ t, oldB ops t = true → a.tmps.getD t undef = a0.tmps.getD t undef
  facts : ∀ (i : Nat) (o : Oper) (d : Tmp), ops[i]? = some o → L i = true → o.dst = some d → Φ i (a.tmps.getD d undef) w
/-- What is asked of one operation. -/
def OpS (i : Nat) (o : Oper) : Prop :=
  ∀ (L : Nat → Bool) (a : Act) (w : World), J L w → L i = false → Closed ops L → (∀ e ∈ o.after, Region.binds .any e = true → L e.on = true) → a.tmps.size = a0.tmps.size →
    (∀ t, oldB ops t = true → a.tmps.getD t undef = a0.tmps.getD t undef) →
    (∀ (j : Nat) (oj : Oper) (d : Tmp), (o.after.toList.any fun e => e.on == j && Region.binds .any e) = true → ops[j]? = some oj → oj.dst = some d → Φ j (a.tmps.getD d undef) w) →
    if Region.wanted o (yielded ops a.tmps) then o.wp P a w (fun a' w' => (∃ v, a' = a.put o.dst v ∧ Φ i v w') ∧ J (upd L i) w' ∧ ∀ j x, L j = true → Φ j x w → Φ j x w') NoExit else Φ i undef w ∧ J (upd L i) w
end
section
variable {P : Program} {ops : Array Oper} {Φ : Nat → Value → World → Prop} {J : (Nat → Bool) → World → Prop} {a0 : Act}
theorem SInv.step {n : Nat} (hn : a0.tmps.size = n) (hd : dstB ops n = true) {L : Nat → Bool} {a : Act} {w : World} (h : SInv ops Φ J a0 L a w) {i : Nat} {o : Oper} (hi : ops[i]? = some o) (hdone : ∀ e ∈ o.after, Region.binds .any e = true → L e.on = true) {v : Value} {w' : World} (hJ : J (upd L i) w') (hv : Φ i v w') (hk : ∀ j x, L j = true → Φ j x w → Φ j x w') :
    SInv ops Φ J a0 (upd L i) (a.put o.dst v) w' := by
  refine ⟨hJ, fun j oj hj hl e he hb => ?_, by rw [size_put]; exact h.size, by rw [defers_put]; exact h.defers, fun t ht => ?_, fun j oj d hj hl dj => ?_⟩
  · unfold upd at hl ⊢
    by_cases hx : e.on = i
    · rw [if_pos hx]
    · rw [if_neg hx]
      by_cases hji : j = i
      · subst hji
        obtain rfl : o = oj := by rw [hi] at hj; exact Option.some.inj hj
        exact hdone e he hb
      · rw [if_neg hji] at hl
        exact h.closed j oj hj hl e he hb
  · rw [getD_put_ne v (old_spec ht hi)]; exact h.old t ht
  · by_cases hji : i = j
    · subst hji
      obtain rfl : o = oj := by rw [hi] at hj; exact Option.some.inj hj
      have hlt := (dst_spec hd hi dj).1
      rw [dj, getD_put_same v (by rw [h.size, hn]; exact hlt)]
      exact hv
    · have hne : o.dst ≠ some d := fun e => hji ((dst_spec hd hi e).2 j oj hj dj)
      rw [getD_put_ne v hne]
      have hlj : L j = true := by unfold upd at hl; rwa [if_neg (fun e => hji e.symm)] at hl
      exact hk j _ hlj (h.facts j oj d hj hlj dj)
theorem wpAny_staged {n : Nat} (hn : a0.tmps.size = n) (hd : dstB ops n = true) (hac : acyclicA ops = true)
    {Q : Exit → Act → World → Prop} (hok : ∀ i o, ops[i]? = some o → OpS P ops Φ J a0 i o)
    (hQ : ∀ L a w, SInv ops Φ J a0 L a w → (∀ i, i < ops.size → L i = true) → Q .normal a w) :
    ∀ (fuel : Nat) (listed : Array Bool) (a : Act) (w : World), listed.size = ops.size → (listed.toList.filter (! ·)).length ≤ fuel → SInv ops Φ J a0 (lst listed) a w →
      wpAny P .any ops Q fuel listed a w := by
  have hfin : ∀ (listed : Array Bool) (a : Act) (w : World), listed.size = ops.size → SInv ops Φ J a0 (lst listed) a w → Region.ready .any ops listed = [] → Q .normal a w :=
    fun listed a w hs hI hr => hQ _ a w hI (ready_of_unlistedA hac hs hr)
  intro fuel
  induction fuel with
  | zero =>
    intro listed a w hs hc hI
    have hr : Region.ready .any ops listed = [] := by
      rcases List.eq_nil_or_concat (Region.ready .any ops listed) with h | ⟨l, i, h⟩
      · exact h
      · exfalso
        have hm : i ∈ Region.ready .any ops listed := by rw [h]; simp
        obtain ⟨h0, o, hi, _⟩ := mem_ready.1 hm
        have hlt : i < listed.size := by rw [hs]; exact (Array.getElem?_eq_some_iff.1 hi).1
        have : listed.toList.filter (! ·) = [] := List.eq_nil_of_length_eq_zero (by omega)
        have hf : listed[i] = false := by simpa [Array.getD_eq_getD_getElem?, hlt] using h0
        have hmem : false ∈ listed.toList.filter (! ·) := List.mem_filter.2 ⟨by rw [← hf]; simp, rfl⟩
        rw [this] at hmem
        cases hmem
    exact ⟨hr, hfin listed a w hs hI hr⟩
  | succ fuel ih =>
    intro listed a w hs hc hI
    refine ⟨hfin listed a w hs hI, fun i hi => ?_⟩
    obtain ⟨h0, o, ho, hall⟩ := mem_ready.1 hi
    have hlt : i < listed.size := by rw [hs]; exact (Array.getElem?_eq_some_iff.1 ho).1
    have hlf : listed[i] = false := by simpa [Array.getD_eq_getD_getElem?, hlt] using h0
    have hcount : ((listed.setIfInBounds i true).toList.filter (! ·)).length ≤ fuel := by
      have hx : ∀ (l : List Bool) (k : Nat), l[k]? = some false → ((l.set k true).filter (! ·)).length + 1 = (l.filter (! ·)).length := by
        intro l
        induction l with
        | nil => intro k hk; simp at hk
        | cons b l ih2 =>
          intro k hk
          cases k with
          | zero => simp at hk; subst hk; simp
          | succ k =>
            simp at hk
            have := ih2 k hk
            cases b <;> simp [this] <;> omega
      have := hx listed.toList i (by simp [hlt, hlf])
      rw [Array.toList_setIfInBounds]
      omega
    have hok' := hok i o ho (lst listed) a w hI.world (by unfold lst; simp [Array.getD_eq_getD_getElem?, hlt, hlf]) hI.closed hall hI.size hI.old (fun j oj d hj hoj hdj => hI.facts j oj d hoj (by
      rw [List.any_eq_true] at hj
      obtain ⟨x, hx, h2⟩ := hj
      simp only [Bool.and_eq_true, beq_iff_eq] at h2
      have := hall x (by simpa using hx) h2.2
      rwa [h2.1] at this) hdj)
    unfold wpOp
    simp only [ho]
    split
    · rename_i hw
      simp only [hw, if_true] at hok'
      refine .inl (Oper.wp_mono2 (fun a' w' ⟨⟨v, ha, hv⟩, hJ, hk⟩ => ?_) hok')
      subst ha
      exact ih _ _ _ (by simpa using hs) hcount (by rw [lst_upd hlt]; exact hI.step hn hd ho hall hJ hv hk)
    · rename_i hw
      simp only [hw] at hok'
      exact ih _ _ _ (by simpa using hs) hcount (by rw [lst_upd hlt]; exact hI.step hn hd ho hall hok'.2 hok'.1 (fun _ _ _ h => h))
/-- **A region that draws its order, with stores among its operations: one obligation an operation.** -/
theorem staged {id : Nat} {w0 : World} (hm : P.follows .mixedOrders = true) (Φ : Nat → Value → World → Prop) (J : (Nat → Bool) → World → Prop) (n : Nat) (hn : a0.tmps.size = n) (hd : dstB ops n = true) (hac : acyclicA ops = true)
    {Q : Exit → Act → World → Prop} (h0 : J (fun _ => false) w0.drew) (hok : ∀ i o, ops[i]? = some o → OpS P ops Φ J a0 i o)
    (hQ : ∀ L a w, SInv ops Φ J a0 L a w → (∀ i, i < ops.size → L i = true) → Q .normal a w) : (Code.region id ops true).wp P Q a0 w0 := by
  have e0 : lst (Array.replicate ops.size false) = fun _ => false := by
    funext j
    unfold lst
    by_cases h : j < ops.size
    · simp [Array.getD_eq_getD_getElem?, h]
    · simp [Array.getD_eq_getD_getElem?, h]
  refine wp_region_any hm (wpAny_staged hn hd hac hok hQ _ _ _ _ (by simp) ?_ ?_)
  · refine Nat.le_trans (List.length_filter_le _ _) (by simp)
  · rw [e0]
    exact ⟨h0, fun i o _ h => (Bool.false_ne_true h).elim, rfl, rfl, fun _ _ => rfl, fun i o d hi hl => (Bool.false_ne_true hl).elim⟩
end

/-! Stages: the operations of ws turn the world, one behind the other. -/
/-- W k holds: just the first k of ws have been carried out. -/
def Stg (ws : List Nat) (W : Nat → World → Prop) (L : Nat → Bool) (w : World) : Prop := ∃ k, (∀ j x, ws[j]? = some x → (L x = true ↔ j < k)) ∧ W k w
theorem Stg.start {ws : List Nat} {W : Nat → World → Prop} {w : World} (h : W 0 w) : Stg ws W (fun _ => false) w := ⟨0, fun j x _ => by simp, h⟩
theorem Stg.same {ws : List Nat} {W : Nat → World → Prop} {L : Nat → Bool} {w w' : World} {i : Nat} (h : Stg ws W L w) (hi : ws.contains i = false) (hw : ∀ k, W k w → W k w') : Stg ws W (upd L i) w' := by
  obtain ⟨k, h1, h2⟩ := h
  refine ⟨k, fun j x hx => ?_, hw k h2⟩
  unfold upd
  rw [if_neg (fun e => ?_)]
  · exact h1 j x hx
  · subst e
    have := List.mem_of_getElem? hx
    rw [← List.contains_iff_mem, hi] at this
    cases this
/-- Ahead of the j-th. -/
theorem Stg.ahead {ws : List Nat} {W : Nat → World → Prop} {L : Nat → Bool} {w : World} {j x : Nat} (h : Stg ws W L w) (hx : ws[j]? = some x) (hl : L x = false) : ∃ k, k ≤ j ∧ W k w := by
  obtain ⟨k, h1, h2⟩ := h
  exact ⟨k, by have := (h1 j x hx).2; rw [hl] at this; simp at this; omega, h2⟩
theorem Stg.first {x : Nat} {ws : List Nat} {W : Nat → World → Prop} {L : Nat → Bool} {w : World} (h : Stg (x :: ws) W L w) (hl : L x = false) : W 0 w := by
  obtain ⟨k, hk, hw⟩ := h.ahead (j := 0) (x := x) rfl hl
  obtain rfl : k = 0 := by omega
  exact hw
theorem Stg.write {ws : List Nat} {W : Nat → World → Prop} {L : Nat → Bool} {w : World} {j x : Nat} (h : Stg ws W L w) (hn : ws.Nodup) (hx : ws[j]? = some x) (hl : L x = false) (hp : ∀ y, ws[j - 1]? = some y → 0 < j → L y = true) : W j w ∧ ∀ w', W (j + 1) w' → Stg ws W (upd L x) w' := by
  obtain ⟨k, h1, h2⟩ := h
  have hk : k ≤ j := by have := (h1 j x hx).2; rw [hl] at this; simp at this; omega
  have hj : k = j := by
    rcases Nat.eq_zero_or_pos j with h0 | h0
    · omega
    · have hlt : j - 1 < ws.length := by have := (List.getElem?_eq_some_iff.1 hx).1; omega
      have := (h1 (j - 1) ws[j - 1] (by simp [hlt])).1 (hp _ (by simp [hlt]) h0)
      omega
  subst hj
  refine ⟨h2, fun w' hw => ⟨k + 1, fun i y hy => ?_, hw⟩⟩
  unfold upd
  by_cases e : y = x
  · subst e
    rw [if_pos rfl]
    have hi : i = k := by
      have hik := List.getElem?_eq_some_iff.1 hy
      have hjk := List.getElem?_eq_some_iff.1 hx
      exact (List.getElem_inj hn).1 (hik.2.trans hjk.2.symm)
    simp; omega
  · rw [if_neg e, h1 i y hy]
    constructor
    · intro h; omega
    · intro h
      rcases Nat.lt_or_ge i k with h3 | h3
      · exact h3
      · obtain rfl : i = k := by omega
        rw [hx] at hy
        exact absurd (Option.some.inj hy).symm e
/-- The list of obligations. -/
def AllS (P : Program) (ops : Array Oper) (Φ : Nat → Value → World → Prop) (J : (Nat → Bool) → World → Prop) (a0 : Act) : Nat → List Oper → Prop
  | _, [] => True
  | k, o :: l => OpS P ops Φ J a0 k o ∧ AllS P ops Φ J a0 (k + 1) l
section
variable {P : Program} {ops : Array Oper} {Φ : Nat → Value → World → Prop} {J : (Nat → Bool) → World → Prop} {a0 : Act}
theorem allS_spec : ∀ (l : List Oper) (k : Nat), AllS P ops Φ J a0 k l → ∀ i o, l[i]? = some o → OpS P ops Φ J a0 (k + i) o := by
  intro l
  induction l with
  | nil => intro k _ i o h; simp at h
  | cons x l ih =>
    intro k h i o hi
    cases i with
    | zero => simp at hi; subst hi; exact h.1
    | succ i =>
      simp at hi
      have := ih (k + 1) h.2 i o hi
      rwa [show k + 1 + i = k + (i + 1) by omega] at this
theorem staged_lit {l : List Oper} {id : Nat} {w0 : World} (hm : P.follows .mixedOrders = true) (Φ : Nat → Value → World → Prop) (J : (Nat → Bool) → World → Prop) (n : Nat) (hn : a0.tmps.size = n) (hd : dstB l.toArray n = true) (hac : acyclicA l.toArray = true)
    {Q : Exit → Act → World → Prop} (h0 : J (fun _ => false) w0.drew) (hok : AllS P l.toArray Φ J a0 0 l)
    (hQ : ∀ L a w, SInv l.toArray Φ J a0 L a w → (∀ i, i < l.toArray.size → L i = true) → Q .normal a w) : (Code.region id l.toArray true).wp P Q a0 w0 :=
  staged hm Φ J n hn hd hac h0 (fun i o hi => by
    have := allS_spec l 0 hok i o (by simpa using hi)
    rwa [Nat.zero_add] at this) hQ
/-- An operation that leaves the world alone. -/
theorem opS_same {ws : List Nat} {W : Nat → World → Prop} {i : Nat} {o : Oper} (hg : o.guard = none) (hi : ws.contains i = false)
    (h : ∀ (L : Nat → Bool) (a : Act) (w : World), Stg ws W L w → L i = false → Closed ops L → (∀ t, oldB ops t = true → a.tmps.getD t undef = a0.tmps.getD t undef) →
      (∀ (j : Nat) (oj : Oper) (d : Tmp), (o.after.toList.any fun e => e.on == j && Region.binds .any e) = true → ops[j]? = some oj → oj.dst = some d → Φ j (a.tmps.getD d undef) w) → ∃ v, (execOp a.eval o).run P w = .ok (.value v) w ∧ Φ i v w) : OpS P ops Φ (Stg ws W) a0 i o := by
  intro L a w hJ hl hc _ _ ho hd
  rw [if_pos (by simp [Region.wanted, hg])]
  obtain ⟨v, hr, hv⟩ := h L a w hJ hl hc ho hd
  unfold Oper.wp
  rw [hr]
  exact ⟨⟨v, rfl, hv⟩, hJ.same hi (fun _ h => h), fun _ _ _ h => h⟩
/-- An operation that makes memory. -/
theorem opS_grow {ws : List Nat} {W : Nat → World → Prop} {i : Nat} {o : Oper} (hg : o.guard = none) (hi : ws.contains i = false) (hW : ∀ k w w', W k w → Up w w' → W k w') (hF : ∀ j x w w', Φ j x w → Up w w' → Φ j x w')
    (h : ∀ (L : Nat → Bool) (a : Act) (w : World), Stg ws W L w → L i = false → Closed ops L → (∀ t, oldB ops t = true → a.tmps.getD t undef = a0.tmps.getD t undef) →
      (∀ (j : Nat) (oj : Oper) (d : Tmp), (o.after.toList.any fun e => e.on == j && Region.binds .any e) = true → ops[j]? = some oj → oj.dst = some d → Φ j (a.tmps.getD d undef) w) → Fine P o a w (Φ i)) : OpS P ops Φ (Stg ws W) a0 i o := by
  intro L a w hJ hl hc _ _ ho hd
  rw [if_pos (by simp [Region.wanted, hg])]
  exact Oper.wp_mono2 (fun a' w' ⟨hu, v, ha, hv⟩ => ⟨⟨v, ha, hv⟩, hJ.same hi (fun k hk => hW k w w' hk hu), fun j x _ hj => hF j x w w' hj hu⟩) (h L a w hJ hl hc ho hd)
/-- The j-th that turns the world. -/
theorem opS_write {ws : List Nat} {W : Nat → World → Prop} {i j : Nat} {o : Oper} (hg : o.guard = none) (hdst : o.dst = none) (hn : ws.Nodup) (hx : ws[j]? = some i) (hp : ∀ y, ws[j - 1]? = some y → 0 < j → (o.after.toList.any fun e => e.on == y && Region.binds .any e) = true)
    (h : ∀ (a : Act) (w : World), W j w → (∀ t, oldB ops t = true → a.tmps.getD t undef = a0.tmps.getD t undef) →
      (∀ (j : Nat) (oj : Oper) (d : Tmp), (o.after.toList.any fun e => e.on == j && Region.binds .any e) = true → ops[j]? = some oj → oj.dst = some d → Φ j (a.tmps.getD d undef) w) → ∃ w', (execOp a.eval o).run P w = .ok .skip w' ∧ W (j + 1) w' ∧ (∀ v, Φ i v w') ∧ ∀ j x, Φ j x w → Φ j x w') : OpS P ops Φ (Stg ws W) a0 i o := by
  intro L a w hJ hl hc hall _ ho hd
  rw [if_pos (by simp [Region.wanted, hg])]
  have hprev : ∀ y, ws[j - 1]? = some y → 0 < j → L y = true := fun y hy h0 => by
    have := hp y hy h0
    rw [List.any_eq_true] at this
    obtain ⟨e, he, h2⟩ := this
    simp only [Bool.and_eq_true, beq_iff_eq] at h2
    have := hall e (by simpa using he) h2.2
    rwa [h2.1] at this
  obtain ⟨hWj, hnext⟩ := hJ.write hn hx hl hprev
  obtain ⟨w', hr, hw', hv, hk⟩ := h a w hWj ho hd
  unfold Oper.wp
  rw [hr]
  exact ⟨⟨undef, rfl, hv _⟩, hnext w' hw', fun j x _ => hk j x⟩
end
end Go.Proofs.Ythncpkjnalmpkaa
namespace Go.Proofs.Ythncpkjnalmpkaa
open Go Go.RowKit
set_option linter.unusedVariables false
section
variable {P : Program} {o : Oper} {a : Act} {w : World}
theorem x_move (x : Operand) {v : Value} (ho : o.op = .move x) (hx : a.eval x = v) : (execOp a.eval o).run P w = .ok (.value v) w := by simp [execOp, ho, hx]
theorem x_assign (x : Operand) {v : Value} (ho : o.op = .assign x) (hx : a.eval x = v) : (execOp a.eval o).run P w = .ok (.value v) w := by simp [execOp, ho, hx]
theorem x_field (s : TypeId) (x : Operand) (f : Nat) {V v : Value} (ho : o.op = .fieldAddr s x f) (hx : a.eval x = V) (hr : (Instr.fieldAt s V f).run P w = .ok v w) : (execOp a.eval o).run P w = .ok (.value v) w := by simp [execOp, ho, hx, hr, Result.andThen]
theorem x_nil (x : Operand) {A : Addr} (ho : o.op = .nilCheck x) (hx : a.eval x = .pointer (some A)) : (execOp a.eval o).run P w = .ok (.value (.pointer (some A))) w := by simp [execOp, ho, hx]
theorem x_load (t : TypeId) (x : Operand) {V v : Value} (ho : o.op = .load t x) (hx : a.eval x = V) (hr : (Instr.loadAt t V).run P w = .ok v w) : (execOp a.eval o).run P w = .ok (.value v) w := by simp [execOp, ho, hx, hr, Result.andThen]
theorem x_index (t : TypeId) (x y : Operand) {X Y v : Value} (ho : o.op = .indexAddr t x y) (hx : a.eval x = X) (hy : a.eval y = Y) (hr : (Instr.indexAt t X Y).run P w = .ok v w) : (execOp a.eval o).run P w = .ok (.value v) w := by simp [execOp, ho, hx, hy, hr, Result.andThen]
theorem x_store (t : TypeId) (x y : Operand) {X Y : Value} {w' : World} (ho : o.op = .store t x y) (hx : a.eval x = X) (hy : a.eval y = Y) (hr : (Instr.storeAt t X Y).run P w = .ok () w') : (execOp a.eval o).run P w = .ok .skip w' := by simp [execOp, ho, hx, hy, hr, Result.andThen]
theorem x_extract (x : Operand) (i : Nat) {vs : Array Value} {v : Value} (ho : o.op = .extract x i) (hx : a.eval x = .tuple vs) (hr : vs[i]? = some v) : (execOp a.eval o).run P w = .ok (.value v) w := by simp [execOp, ho, hx, Instr.extract, hr]
theorem x_entry (t : TypeId) (x y : Operand) {X Y v : Value} {w' : World} (ho : o.op = .mapEntry t x y) (hx : a.eval x = X) (hy : a.eval y = Y) (hr : (Instr.mapEntry t X Y).run P w = .ok v w') : (execOp a.eval o).run P w = .ok (.value v) w' := by simp [execOp, ho, hx, hy, hr, Result.andThen]
theorem x_estore (t : TypeId) (x y z : Operand) {X Y Z : Value} {w' : World} (ho : o.op = .entryStore t x y z) (hx : a.eval x = X) (hy : a.eval y = Y) (hz : a.eval z = Z) (hr : (Instr.entryStore t X Y Z).run P w = .ok () w') : (execOp a.eval o).run P w = .ok .skip w' := by simp [execOp, ho, hx, hy, hz, hr, Result.andThen]
theorem x_mapupd (t : TypeId) (x y z : Operand) {X Y Z : Value} {w' : World} (ho : o.op = .mapUpdate t x y z) (hx : a.eval x = X) (hy : a.eval y = Y) (hz : a.eval z = Z) (hr : (Instr.mapUpdate t X Y Z).run P w = .ok () w') : (execOp a.eval o).run P w = .ok .skip w' := by simp [execOp, ho, hx, hy, hz, hr, Result.andThen]
theorem x_slice (t : TypeId) (x y : Operand) {X Y v : Value} (ho : o.op = .slice t x none (some y) none) (hx : a.eval x = X) (hy : a.eval y = Y) (hr : (Instr.sliceAt t X none (some Y) none).run P w = .ok v w) : (execOp a.eval o).run P w = .ok (.value v) w := by simp [execOp, ho, hx, hy, hr, Result.andThen]
theorem x_bslice (t : TypeId) (n : Nat) (ps : Array (Nat × Operand)) {v : Value} {w' : World} (ho : o.op = .buildSlice t n ps) (hr : (Instr.buildSlice t n (ps.map fun (i, x) => (i, a.eval x))).run P w = .ok v w') : (execOp a.eval o).run P w = .ok (.value v) w' := by simp [execOp, ho, hr, Result.andThen]
theorem x_len (x : Operand) (t e : TypeId) {A : Option Addr} {n c : Nat} (ho : o.op = .call { callee := .builtin .len, args := #[x], argTypes := #[t] }) (ht : P.underlying t = some (.slice e)) (hx : a.eval x = .slice A n c) : (execOp a.eval o).run P w = .ok (.value (.int .i64 (n : Int))) w := by
  simp [execOp, ho, resolve, invoke, builtin, hx, Builtin.len_, Result.andThen, run_underlying ht, goInt]
theorem x_append (x y : Operand) (t t2 : TypeId) {X Y v : Value} {w' : World} (ho : o.op = .call { callee := .builtin .append, args := #[x, y], argTypes := #[t, t2] }) (hx : a.eval x = X) (hy : a.eval y = Y) (hr : (Builtin.append_ #[t, t2] o.type #[X, Y]).run P w = .ok v w') : (execOp a.eval o).run P w = .ok (.value v) w' := by
  simp [execOp, ho, resolve, invoke, builtin, hx, hy, hr, Result.andThen]
theorem x_delete (x y : Operand) (t t2 : TypeId) {X Y : Value} {w' : World} (ho : o.op = .call { callee := .builtin .delete, args := #[x, y], argTypes := #[t, t2] }) (hx : a.eval x = X) (hy : a.eval y = Y) (hr : (Builtin.delete_ #[t, t2] o.type #[X, Y]).run P w = .ok (.tuple #[]) w') : (execOp a.eval o).run P w = .ok (.value (.tuple #[])) w' := by
  simp [execOp, ho, resolve, invoke, builtin, hx, hy, hr, Result.andThen]
theorem x_fcall (f : FuncId) (xs : List Operand) (tys : Array TypeId) (ho : o.op = .call { callee := .value (.func f), args := xs.toArray, argTypes := tys }) (hf : plainFn P f = true) : (execOp a.eval o).run P w = .ok (.enter f (xs.map a.eval).toArray) w := by
  unfold plainFn at hf
  split at hf
  · rename_i fn hfn
    simp only [Bool.and_eq_true, Bool.not_eq_true'] at hf
    have h1 : fn.name ≠ "runtime.NumGoroutine" := by simpa using hf.1
    have h2 : fn.body ≠ none := by intro e; rw [e] at hf; simp at hf
    simp [execOp, ho, resolve, invoke, Act.eval, Deferred.ofValue, callFunc, Result.andThen, hfn, h1, h2]
  · cases hf
end
section
variable {P : Program} {ops : Array Oper} {Φ : Nat → Value → World → Prop} {a0 : Act}
/-- An operation that ends in a world of the same stage. -/
theorem opS_run {ws : List Nat} {W : Nat → World → Prop} {i : Nat} {o : Oper} (hg : o.guard = none) (hi : ws.contains i = false)
    (h : ∀ (L : Nat → Bool) (a : Act) (w : World), Stg ws W L w → L i = false → Closed ops L → (∀ t, oldB ops t = true → a.tmps.getD t undef = a0.tmps.getD t undef) →
      (∀ (j : Nat) (oj : Oper) (d : Tmp), (o.after.toList.any fun e => e.on == j && Region.binds .any e) = true → ops[j]? = some oj → oj.dst = some d → Φ j (a.tmps.getD d undef) w) → ∃ v w', (execOp a.eval o).run P w = .ok (.value v) w' ∧ Φ i v w' ∧ (∀ k, W k w → W k w') ∧ ∀ j x, L j = true → Φ j x w → Φ j x w') : OpS P ops Φ (Stg ws W) a0 i o := by
  intro L a w hJ hl hc _ _ ho hd
  rw [if_pos (by simp [Region.wanted, hg])]
  obtain ⟨v, w', hr, hv, hw, hk⟩ := h L a w hJ hl hc ho hd
  unfold Oper.wp
  rw [hr]
  exact ⟨⟨v, rfl, hv⟩, hJ.same hi hw, hk⟩
/-- A call that leaves the world alone. -/
theorem opS_call {ws : List Nat} {W : Nat → World → Prop} {i : Nat} {o : Oper} (hg : o.guard = none) (hi : ws.contains i = false)
    (h : ∀ (L : Nat → Bool) (a : Act) (w : World), Stg ws W L w → L i = false → Closed ops L → (∀ t, oldB ops t = true → a.tmps.getD t undef = a0.tmps.getD t undef) →
      (∀ (j : Nat) (oj : Oper) (d : Tmp), (o.after.toList.any fun e => e.on == j && Region.binds .any e) = true → ops[j]? = some oj → oj.dst = some d → Φ j (a.tmps.getD d undef) w) → ∃ f args v, (execOp a.eval o).run P w = .ok (.enter f args) w ∧ Φ i v w ∧ Calls P f args w fun e w' => e = .returned v ∧ w' = w) : OpS P ops Φ (Stg ws W) a0 i o := by
  intro L a w hJ hl hc _ _ ho hd
  rw [if_pos (by simp [Region.wanted, hg])]
  obtain ⟨f, args, v, hr, hv, hcall⟩ := h L a w hJ hl hc ho hd
  unfold Oper.wp
  rw [hr]
  refine Calls.mono hcall fun e w' ⟨he, hw⟩ => ?_
  subst he
  subst hw
  exact ⟨⟨v, rfl, hv⟩, hJ.same hi (fun _ h => h), fun _ _ _ h => h⟩
/-- A call that makes memory. -/
theorem opS_callUp {ws : List Nat} {W : Nat → World → Prop} {i : Nat} {o : Oper} (hg : o.guard = none) (hi : ws.contains i = false) (hW : ∀ k w w', W k w → Up w w' → W k w') (hF : ∀ j x w w', Φ j x w → Up w w' → Φ j x w')
    (h : ∀ (L : Nat → Bool) (a : Act) (w : World), Stg ws W L w → L i = false → Closed ops L → (∀ t, oldB ops t = true → a.tmps.getD t undef = a0.tmps.getD t undef) →
      (∀ (j : Nat) (oj : Oper) (d : Tmp), (o.after.toList.any fun e => e.on == j && Region.binds .any e) = true → ops[j]? = some oj → oj.dst = some d → Φ j (a.tmps.getD d undef) w) → ∃ f args, (execOp a.eval o).run P w = .ok (.enter f args) w ∧ Calls P f args w fun e w' => ∃ v, e = .returned v ∧ Up w w' ∧ Φ i v w') : OpS P ops Φ (Stg ws W) a0 i o := by
  intro L a w hJ hl hc _ _ ho hd
  rw [if_pos (by simp [Region.wanted, hg])]
  obtain ⟨f, args, hr, hcall⟩ := h L a w hJ hl hc ho hd
  unfold Oper.wp
  rw [hr]
  refine Calls.mono hcall fun e w' ⟨v, he, hu, hv⟩ => ?_
  subst he
  exact ⟨⟨v, rfl, hv⟩, hJ.same hi (fun k hk => hW k w w' hk hu), fun j x _ hj => hF j x w w' hj hu⟩
/-- The j-th that turns the world, where it is a call of the language. -/
theorem opS_writeV {ws : List Nat} {W : Nat → World → Prop} {i j : Nat} {o : Oper} (hg : o.guard = none) (hn : ws.Nodup) (hx : ws[j]? = some i) (hp : ∀ y, ws[j - 1]? = some y → 0 < j → (o.after.toList.any fun e => e.on == y && Region.binds .any e) = true)
    (h : ∀ (a : Act) (w : World), W j w → (∀ t, oldB ops t = true → a.tmps.getD t undef = a0.tmps.getD t undef) →
      (∀ (j : Nat) (oj : Oper) (d : Tmp), (o.after.toList.any fun e => e.on == j && Region.binds .any e) = true → ops[j]? = some oj → oj.dst = some d → Φ j (a.tmps.getD d undef) w) → ∃ v w', (execOp a.eval o).run P w = .ok (.value v) w' ∧ W (j + 1) w' ∧ Φ i v w' ∧ ∀ j x, j ≠ i → Φ j x w → Φ j x w') : OpS P ops Φ (Stg ws W) a0 i o := by
  intro L a w hJ hl hc hall _ ho hd
  rw [if_pos (by simp [Region.wanted, hg])]
  have hprev : ∀ y, ws[j - 1]? = some y → 0 < j → L y = true := fun y hy h0 => by
    have := hp y hy h0
    rw [List.any_eq_true] at this
    obtain ⟨e, he, h2⟩ := this
    simp only [Bool.and_eq_true, beq_iff_eq] at h2
    have := hall e (by simpa using he) h2.2
    rwa [h2.1] at this
  obtain ⟨hWj, hnext⟩ := hJ.write hn hx hl hprev
  obtain ⟨v, w', hr, hw', hv, hk⟩ := h a w hWj ho hd
  unfold Oper.wp
  rw [hr]
  exact ⟨⟨v, rfl, hv⟩, hnext w' hw', fun j x hlj => hk j x (fun e => by subst e; rw [hl] at hlj; cases hlj)⟩
theorem SInv.done {ws : List Nat} {W : Nat → World → Prop} {L : Nat → Bool} {a : Act} {w : World} (h : SInv ops Φ (Stg ws W) a0 L a w) (hall : ∀ i, i < ops.size → L i = true) (hin : ∀ x ∈ ws, x < ops.size) : ∃ k, ws.length ≤ k ∧ W k w := by
  obtain ⟨k, h1, h2⟩ := h.world
  refine ⟨k, ?_, h2⟩
  rcases Nat.eq_zero_or_pos ws.length with h0 | h0
  · omega
  · have hlt : ws.length - 1 < ws.length := by omega
    have := (h1 (ws.length - 1) ws[ws.length - 1] (by simp [hlt])).1 (hall _ (hin _ (List.getElem_mem hlt)))
    omega
theorem SInv.get {J : (Nat → Bool) → World → Prop} {L : Nat → Bool} {a : Act} {w : World} (h : SInv ops Φ J a0 L a w) (hall : ∀ i, i < ops.size → L i = true) {i : Nat} {oi : Oper} {d : Tmp} (hi : ops[i]? = some oi) (hd : oi.dst = some d) : Φ i (a.tmps.getD d undef) w :=
  h.facts i oi d hi (hall i (Array.getElem?_eq_some_iff.1 hi).1) hd
end
/-! Blocks and draws behind a world. -/
def Grown (w w' : World) : Prop := Up w w' ∧ w.drawn ≤ w'.drawn
theorem Grown.refl (w : World) : Grown w w := ⟨Up.refl w, Nat.le_refl _⟩
theorem Grown.trans {a b c : World} (h : Grown a b) (k : Grown b c) : Grown a c := ⟨h.1.trans k.1, Nat.le_trans h.2 k.2⟩
theorem Grown.alloc (w : World) (o : Obj) : Grown w (w.alloc o) := ⟨(Below.refl _ _).alloc (Nat.le_refl _) o, Nat.le_refl _⟩
theorem Grown.drew (w : World) : Grown w w.drew := ⟨Up.drew w, Nat.le_succ _⟩
end Go.Proofs.Ythncpkjnalmpkaa
namespace Go.Proofs.Ythncpkjnalmpkaa
open Go Go.RowKit
set_option linter.unusedVariables false
section
variable {P : Program} {o : Oper} {a : Act} {w : World}
theorem x_bin (op : BinOp) (tx ty : TypeId) (x y : Operand) {X Y v : Value} (ho : o.op = .binOp op tx x y ty) (hx : a.eval x = X) (hy : a.eval y = Y) (hg : (eqGuard op tx x y X Y).run P w = .ok () w) (hr : (binOp op tx X Y).run P w = .ok v w) : (execOp a.eval o).run P w = .ok (.value v) w := by simp [execOp, ho, hx, hy, hg, hr, Result.andThen]
theorem x_pick (c x y : Operand) {b : Bool} {X Y : Value} (ho : o.op = .pick c x y) (hc : a.eval c = .bool b) (hx : b = true → a.eval x = X) (hy : b = false → a.eval y = Y) : (execOp a.eval o).run P w = .ok (.value (if b then X else Y)) w := by
  cases b with
  | true => simp [execOp, ho, hc, asBool, hx rfl]
  | false => simp [execOp, ho, hc, asBool, hy rfl]
theorem x_conv (s d : TypeId) (x : Operand) {X v : Value} (ho : o.op = .convert s d x) (hx : a.eval x = X) (hr : (convert s d X).run P w = .ok v w) : (execOp a.eval o).run P w = .ok (.value v) w := by simp [execOp, ho, hx, hr, Result.andThen]
/-- The place of an element. -/
theorem run_indexT {T E : TypeId} {s : Nat} (hT : P.underlying T = some (.slice E)) (hs : (Go.sizeOf E).run P w = .ok s w) {A : Addr} {n c i : Nat} (hi : i < n) : (Instr.indexAt T (.slice (some A) n c) (.int .i64 (i : Int))).run P w = .ok (.pointer (some (A.add (i * s)))) w := by
  have h1 : (0 : Int) ≤ i ∧ (i : Int) < n := by omega
  simp [Instr.indexAt, asIntOf, run_underlying hT, Result.andThen, h1, Nat.not_le.2 hi, hs]
/-- A store of one cell, of whose block only the cell is known. -/
theorem run_store1c {t : TypeId} (ht : ∀ w, (Go.sizeOf t).run P w = .ok 1 w) {b j : Nat} {v : Value} (hc : (w.cell? ⟨b, j, none⟩).isSome = true) (hf : w.frozen? ⟨b, j, none⟩ = false) (h1 : v.oneCell' = true) (h2 : v.cells = #[v]) :
    (Instr.storeAt t (.pointer (some ⟨b, j, none⟩)) v).run P w = .ok () (w.setCell ⟨b, j, none⟩ v) := by
  have := run_storeCells_cells (P := P) b j [v] 0 w (fun k hk => by
    have : k = 0 := by simpa using hk
    subst this; exact hc) (fun k hk => by
    have : k = 0 := by simpa using hk
    subst this; exact hf) (by simpa using h1)
  simp [Instr.storeAt, Instr.sureAddr, storeVar, ht, h2, Result.andThen]
  simpa [World.setCells] using this
end
def Tru : Value → World → Prop := fun _ _ => True
/-- It asks nothing of the world. -/
def Free (φ : Value → World → Prop) : Prop := ∀ v w w', φ v w → φ v w'
theorem free_is (x : Value) : Free (Is x) := fun _ _ _ h => h
theorem free_tru : Free Tru := fun _ _ _ _ => trivial
theorem facts_free {l : List (Value → World → Prop)} (h : ∀ φ ∈ l, Free φ) (i : Nat) (v : Value) {w w' : World} (hf : facts l i v w) : facts l i v w' := by
  unfold facts at *
  rw [List.getD] at *
  cases hx : l[i]? with
  | none => simp
  | some φ =>
    rw [hx] at hf
    exact h φ (List.mem_of_getElem? hx) v w w' hf
section
variable {P : Program} {ops : Array Oper} {Φ : Nat → Value → World → Prop} {a0 : Act}
/-- A guarded operation that is carried out and leaves the world alone. -/
theorem opS_sameG {ws : List Nat} {W : Nat → World → Prop} {i : Nat} {o : Oper} (j : Nat) (b : Bool) (oj : Oper) (d : Tmp) (hg : o.guard = some (j, b)) (hin : (o.after.toList.any fun e => e.on == j && Region.binds .any e) = true) (hj : ops[j]? = some oj) (hdj : oj.dst = some d) (hv : ∀ v w, Φ j v w → v = .bool b) (hi : ws.contains i = false)
    (h : ∀ (L : Nat → Bool) (a : Act) (w : World), Stg ws W L w → L i = false → Closed ops L → (∀ t, oldB ops t = true → a.tmps.getD t undef = a0.tmps.getD t undef) →
      (∀ (j : Nat) (oj : Oper) (d : Tmp), (o.after.toList.any fun e => e.on == j && Region.binds .any e) = true → ops[j]? = some oj → oj.dst = some d → Φ j (a.tmps.getD d undef) w) → ∃ v, (execOp a.eval o).run P w = .ok (.value v) w ∧ Φ i v w) : OpS P ops Φ (Stg ws W) a0 i o := by
  intro L a w hJ hl hc _ _ ho hd
  have hy := yielded_of (tmps := a.tmps) hj hdj (hv _ w (hd j oj d hin hj hdj))
  rw [if_pos (by simp [Region.wanted, hg, hy])]
  obtain ⟨v, hr, hv⟩ := h L a w hJ hl hc ho hd
  unfold Oper.wp
  rw [hr]
  exact ⟨⟨v, rfl, hv⟩, hJ.same hi (fun _ h => h), fun _ _ _ h => h⟩
/-- One that its guard passes over. -/
theorem opS_skip {ws : List Nat} {W : Nat → World → Prop} {i : Nat} {o : Oper} (j : Nat) (b c : Bool) (hbc : c ≠ b) (oj : Oper) (d : Tmp) (hg : o.guard = some (j, b)) (hin : (o.after.toList.any fun e => e.on == j && Region.binds .any e) = true) (hj : ops[j]? = some oj) (hdj : oj.dst = some d) (hv : ∀ v w, Φ j v w → v = .bool c) (hi : ws.contains i = false) (hΦ : ∀ w, Φ i undef w) : OpS P ops Φ (Stg ws W) a0 i o := by
  intro L a w hJ hl hc _ _ ho hd
  have hy := yielded_of (tmps := a.tmps) hj hdj (hv _ w (hd j oj d hin hj hdj))
  rw [if_neg (by simp [Region.wanted, hg, hy, hbc])]
  exact ⟨hΦ w, hJ.same hi (fun _ h => h)⟩
end
end Go.Proofs.Ythncpkjnalmpkaa
namespace Go.Proofs.Ythncpkjnalmpkaa
open Go Go.RowKit
set_option linter.unusedVariables false
/-! A region that draws its order, whose last operation waits for all others: it is met with all slots at hand. -/
section
variable {P : Program} {ops : Array Oper} {Φ : Nat → Value → World → Prop} {J : (Nat → Bool) → World → Prop} {a0 : Act}
theorem wpAny_all {Q : Exit → Act → World → Prop} {fuel : Nat} {listed : Array Bool} {a : Act} {w : World} (hs : listed.size = ops.size) (hall : ∀ i, i < ops.size → listed.getD i false = true) (hq : Q .normal a w) : wpAny P .any ops Q fuel listed a w := by
  have hno : ∀ i, i ∉ Region.ready .any ops listed := fun i hi => by
    obtain ⟨h0, o, ho, _⟩ := mem_ready.1 hi
    have hlt := (Array.getElem?_eq_some_iff.1 ho).1
    have h2 := hall i hlt
    have hlt2 : i < listed.size := by omega
    simp [Array.getD_eq_getD_getElem?, hlt2] at h0 h2
    rw [h0] at h2; cases h2
  have hr : Region.ready .any ops listed = [] := by
    rcases List.eq_nil_or_concat (Region.ready .any ops listed) with h | ⟨l, i, h⟩
    · exact h
    · exact absurd (by rw [h]; simp) (hno i)
  cases fuel with
  | zero => exact ⟨hr, hq⟩
  | succ fuel => exact ⟨fun _ => hq, fun i hi => absurd hi (hno i)⟩
theorem wpAny_last {n m : Nat} (hn : a0.tmps.size = n) (hd : dstB ops n = true) (hac : acyclicA ops = true) (hm : ops.size = m + 1) (hre : ∀ i, i < m → reachB ops ops.size i m = true)
    {Q : Exit → Act → World → Prop} (hok : ∀ i o, i < m → ops[i]? = some o → OpS P ops Φ J a0 i o)
    (hl : ∀ o, ops[m]? = some o → o.guard = none ∧ ∀ L a w, SInv ops Φ J a0 L a w → (∀ i, i < m → L i = true) → o.wp P a w (fun a' w' => Q .normal a' w') NoExit) :
    ∀ (fuel : Nat) (listed : Array Bool) (a : Act) (w : World), listed.size = ops.size → (listed.toList.filter (! ·)).length ≤ fuel → listed.getD m false = false → SInv ops Φ J a0 (lst listed) a w →
      wpAny P .any ops Q fuel listed a w := by
  intro fuel
  induction fuel with
  | zero =>
    intro listed a w hs hc hmm hI
    exfalso
    have hlt : m < listed.size := by omega
    have hf : listed[m] = false := by simpa [Array.getD_eq_getD_getElem?, hlt] using hmm
    have : listed.toList.filter (! ·) = [] := List.eq_nil_of_length_eq_zero (by omega)
    have hmem : false ∈ listed.toList.filter (! ·) := List.mem_filter.2 ⟨by rw [← hf]; simp, rfl⟩
    rw [this] at hmem
    cases hmem
  | succ fuel ih =>
    intro listed a w hs hc hmm hI
    refine ⟨fun hr => ?_, fun i hi => ?_⟩
    · exfalso
      have := ready_of_unlistedA hac hs hr m (by omega)
      rw [hmm] at this; cases this
    · obtain ⟨h0, o, ho, hall⟩ := mem_ready.1 hi
      have hlt : i < listed.size := by rw [hs]; exact (Array.getElem?_eq_some_iff.1 ho).1
      have hlf : listed[i] = false := by simpa [Array.getD_eq_getD_getElem?, hlt] using h0
      have hcount : ((listed.setIfInBounds i true).toList.filter (! ·)).length ≤ fuel := by
        have hx : ∀ (l : List Bool) (k : Nat), l[k]? = some false → ((l.set k true).filter (! ·)).length + 1 = (l.filter (! ·)).length := by
          intro l
          induction l with
          | nil => intro k hk; simp at hk
          | cons b l ih2 =>
            intro k hk
            cases k with
            | zero => simp at hk; subst hk; simp
            | succ k =>
              simp at hk
              have := ih2 k hk
              cases b <;> simp [this] <;> omega
        have := hx listed.toList i (by simp [hlt, hlf])
        rw [Array.toList_setIfInBounds]
        omega
      unfold wpOp
      simp only [ho]
      by_cases him : i = m
      · subst him
        obtain ⟨hg, hlast⟩ := hl o ho
        have hdone : ∀ j, j < i → lst listed j = true := fun j hj => by
          have h := hre j hj
          rw [hm] at h
          unfold reachB at h
          rw [ho] at h
          simp only [List.any_eq_true, Bool.and_eq_true, Bool.or_eq_true, beq_iff_eq] at h
          obtain ⟨e, he, hb, h1⟩ := h
          have hle : lst listed e.on = true := hall e (by simpa using he) hb
          rcases h1 with h1 | h1
          · rw [← h1]; exact hle
          · exact reach_spec hI.closed _ _ h1 hle
        rw [if_pos (by simp [Region.wanted, hg])]
        refine .inl (Oper.wp_mono2 (fun a' w' hq => ?_) (hlast (lst listed) a w hI hdone))
        refine wpAny_all (by simpa using hs) (fun j hj => ?_) hq
        by_cases hji : j = i
        · subst hji; simp [Array.getD_eq_getD_getElem?, hlt]
        · have := hdone j (by omega)
          unfold lst at this
          simpa [Array.getD_eq_getD_getElem?, Array.getElem?_setIfInBounds_ne (Ne.symm hji)] using this
      · have hok' := hok i o (by omega) ho (lst listed) a w hI.world (by unfold lst; simp [Array.getD_eq_getD_getElem?, hlt, hlf]) hI.closed hall hI.size hI.old (fun j oj d hj hoj hdj => hI.facts j oj d hoj (by
          rw [List.any_eq_true] at hj
          obtain ⟨x, hx, h2⟩ := hj
          simp only [Bool.and_eq_true, beq_iff_eq] at h2
          have := hall x (by simpa using hx) h2.2
          rwa [h2.1] at this) hdj)
        have hmm' : (listed.setIfInBounds i true).getD m false = false := by
          have : listed.getD m false = (listed.setIfInBounds i true).getD m false := by simp [Array.getD_eq_getD_getElem?, Array.getElem?_setIfInBounds_ne him]
          rw [← this]; exact hmm
        split
        · rename_i hw
          simp only [hw, if_true] at hok'
          refine .inl (Oper.wp_mono2 (fun a' w' ⟨⟨v, ha, hv⟩, hJ, hk⟩ => ?_) hok')
          subst ha
          exact ih _ _ _ (by simpa using hs) hcount hmm' (by rw [lst_upd hlt]; exact hI.step hn hd ho hall hJ hv hk)
        · rename_i hw
          simp only [hw] at hok'
          exact ih _ _ _ (by simpa using hs) hcount hmm' (by rw [lst_upd hlt]; exact hI.step hn hd ho hall hok'.2 hok'.1 (fun _ _ _ h => h))
theorem staged_last {l : List Oper} {last : Oper} {id : Nat} {w0 : World} (hmx : P.follows .mixedOrders = true) (Φ : Nat → Value → World → Prop) (J : (Nat → Bool) → World → Prop) (n : Nat) (hn : a0.tmps.size = n) (hd : dstB (l ++ [last]).toArray n = true) (hac : acyclicA (l ++ [last]).toArray = true)
    (hre : ((List.range l.length).all fun i => reachB (l ++ [last]).toArray (l.length + 1) i l.length) = true) (hg : last.guard = none)
    {Q : Exit → Act → World → Prop} (h0 : J (fun _ => false) w0.drew) (hok : AllS P (l ++ [last]).toArray Φ J a0 0 l)
    (hQ : ∀ L a w, SInv (l ++ [last]).toArray Φ J a0 L a w → (∀ i, i < l.length → L i = true) → last.wp P a w (fun a' w' => Q .normal a' w') NoExit) : (Code.region id (l ++ [last]).toArray true).wp P Q a0 w0 := by
  have e0 : lst (Array.replicate (l ++ [last]).toArray.size false) = fun _ => false := by
    funext j
    unfold lst
    by_cases h : j < (l ++ [last]).toArray.size
    · simp only [Array.getD_eq_getD_getElem?, Array.getElem?_replicate, if_pos h, Option.getD_some]
    · simp only [Array.getD_eq_getD_getElem?, Array.getElem?_replicate, if_neg h, Option.getD_none]
  have hz : (l ++ [last]).toArray.size = l.length + 1 := by simp
  refine wp_region_any hmx (wpAny_last (m := l.length) (Φ := Φ) (J := J) hn hd hac hz (fun i hi => ?_) (fun i o hi ho => ?_) (fun o ho => ?_) _ _ _ _ (by simp) ?_ ?_ ?_)
  · rw [List.all_eq_true] at hre
    rw [hz]
    have := hre i (List.mem_range.2 hi)
    exact this
  · have := allS_spec l 0 hok i o (by
      have h1 : (l ++ [last])[i]? = some o := by simpa using ho
      rwa [List.getElem?_append_left hi] at h1)
    rwa [Nat.zero_add] at this
  · have h1 : o = last := by
      have h1 : (l ++ [last])[l.length]? = some o := by simpa using ho
      rw [List.getElem?_append_right (Nat.le_refl _), Nat.sub_self] at h1
      simpa using h1.symm
    subst h1
    exact ⟨hg, hQ⟩
  · refine Nat.le_trans (List.length_filter_le _ _) (by simp)
  · simp
  · rw [e0]
    exact ⟨h0, fun i o _ h => (Bool.false_ne_true h).elim, rfl, rfl, fun _ _ => rfl, fun i o d hi hl => (Bool.false_ne_true hl).elim⟩
end
end Go.Proofs.Ythncpkjnalmpkaa
