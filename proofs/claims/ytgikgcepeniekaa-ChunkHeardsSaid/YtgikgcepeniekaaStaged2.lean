import Derived.Test.YtgikgcepeniekaaStaged
namespace Go.Proofs.Ytgikgcepeniekaa
open Go Go.RowKit
set_option linter.unusedVariables false
/-! Staged, with a slot's old value known until the operation that writes it. -/
/-- No operation that writes t has been carried out. -/
def notYet (ops : Array Oper) (L : Nat → Bool) (t : Tmp) : Prop := ∀ i o, ops[i]? = some o → o.dst = some t → L i = false
theorem notYet_old {ops : Array Oper} {L : Nat → Bool} {t : Tmp} (h : oldB ops t = true) : notYet ops L t := fun i o hi hd => absurd hd (old_spec h hi)
theorem notYet_upd {ops : Array Oper} {L : Nat → Bool} {i : Nat} {t : Tmp} {o : Oper} (hi : ops[i]? = some o) (h : notYet ops (upd L i) t) : notYet ops L t ∧ o.dst ≠ some t := by
  refine ⟨fun j oj hj hd => ?_, fun e => ?_⟩
  · have := h j oj hj hd
    unfold upd at this
    split at this
    · cases this
    · exact this
  · have := h i o hi e
    unfold upd at this
    rw [if_pos rfl] at this
    cases this
section
variable (P : Program) (ops : Array Oper) (Φ : Nat → Value → World → Prop) (J : (Nat → Bool) → World → Prop) (a0 : Act)
/-- What is known while a region runs in whatever order; J: what is known of the world. -/
structure SInv2 (L : Nat → Bool) (a : Act) (w : World) : Prop where
  world : J L w
  closed : Closed ops L
  size : a.tmps.size = a0.tmps.size
  defers : a.defers = a0.defers
  old : ∀ t, notYet ops L t → a.tmps.getD t undef = a0.tmps.getD t undef
  facts : ∀ (i : Nat) (o : Oper) (d : Tmp), ops[i]? = some o → L i = true → o.dst = some d → Φ i (a.tmps.getD d undef) w
/-- What is asked of one operation. -/
def OpS2 (i : Nat) (o : Oper) : Prop :=
  ∀ (L : Nat → Bool) (a : Act) (w : World), J L w → L i = false → Closed ops L → (∀ e ∈ o.after, Region.binds .any e = true → L e.on = true) → a.tmps.size = a0.tmps.size →
    (∀ t, notYet ops L t → a.tmps.getD t undef = a0.tmps.getD t undef) →
    (∀ (j : Nat) (oj : Oper) (d : Tmp), (o.after.toList.any fun e => e.on == j && Region.binds .any e) = true → ops[j]? = some oj → oj.dst = some d → Φ j (a.tmps.getD d undef) w) →
    if Region.wanted o (yielded ops a.tmps) then o.wp P a w (fun a' w' => (∃ v, a' = a.put o.dst v ∧ Φ i v w') ∧ J (upd L i) w' ∧ ∀ j x, L j = true → Φ j x w → Φ j x w') NoExit else Φ i undef w ∧ J (upd L i) w
end
section
variable {P : Program} {ops : Array Oper} {Φ : Nat → Value → World → Prop} {J : (Nat → Bool) → World → Prop} {a0 : Act}
theorem SInv2.step {n : Nat} (hn : a0.tmps.size = n) (hd : dstB ops n = true) {L : Nat → Bool} {a : Act} {w : World} (h : SInv2 ops Φ J a0 L a w) {i : Nat} {o : Oper} (hi : ops[i]? = some o) (hdone : ∀ e ∈ o.after, Region.binds .any e = true → L e.on = true) {v : Value} {w' : World} (hJ : J (upd L i) w') (hv : Φ i v w') (hk : ∀ j x, L j = true → Φ j x w → Φ j x w') :
    SInv2 ops Φ J a0 (upd L i) (a.put o.dst v) w' := by
  refine ⟨hJ, fun j oj hj hl e he hb => ?_, by rw [size_put]; exact h.size, by rw [defers_put]; exact h.defers, fun t ht => ?_, fun j oj d hj hl dj => ?_⟩
  · unfold upd at hl ⊢
    by_cases hx : e.on = i
    · rw [if_pos hx]
    · rw [if_neg hx]
      by_cases hji : j = i
      · subst hji
        obtain rfl : o = oj := by rw [hi] at hj; exact Option.some.inj hj
        exact hdone e he hb
      · rw [if_neg hji] at hl
        exact h.closed j oj hj hl e he hb
  · rw [getD_put_ne v (notYet_upd hi ht).2]; exact h.old t (notYet_upd hi ht).1
  · by_cases hji : i = j
    · subst hji
      obtain rfl : o = oj := by rw [hi] at hj; exact Option.some.inj hj
      have hlt := (dst_spec hd hi dj).1
      rw [dj, getD_put_same v (by rw [h.size, hn]; exact hlt)]
      exact hv
    · have hne : o.dst ≠ some d := fun e => hji ((dst_spec hd hi e).2 j oj hj dj)
      rw [getD_put_ne v hne]
      have hlj : L j = true := by unfold upd at hl; rwa [if_neg (fun e => hji e.symm)] at hl
      exact hk j _ hlj (h.facts j oj d hj hlj dj)
theorem wpAny_staged2 {n : Nat} (hn : a0.tmps.size = n) (hd : dstB ops n = true) (hac : acyclicA ops = true)
    {Q : Exit → Act → World → Prop} (hok : ∀ i o, ops[i]? = some o → OpS2 P ops Φ J a0 i o)
    (hQ : ∀ L a w, SInv2 ops Φ J a0 L a w → (∀ i, i < ops.size → L i = true) → Q .normal a w) :
    ∀ (fuel : Nat) (listed : Array Bool) (a : Act) (w : World), listed.size = ops.size → (listed.toList.filter (! ·)).length ≤ fuel → SInv2 ops Φ J a0 (lst listed) a w →
      wpAny P .any ops Q fuel listed a w := by
  have hfin : ∀ (listed : Array Bool) (a : Act) (w : World), listed.size = ops.size → SInv2 ops Φ J a0 (lst listed) a w → Region.ready .any ops listed = [] → Q .normal a w :=
    fun listed a w hs hI hr => hQ _ a w hI (ready_of_unlistedA hac hs hr)
  intro fuel
  induction fuel with
  | zero =>
    intro listed a w hs hc hI
    have hr : Region.ready .any ops listed = [] := by
      rcases List.eq_nil_or_concat (Region.ready .any ops listed) with h | ⟨l, i, h⟩
      · exact h
      · exfalso
        have hm : i ∈ Region.ready .any ops listed := by rw [h]; simp
        obtain ⟨h0, o, hi, _⟩ := mem_ready.1 hm
        have hlt : i < listed.size := by rw [hs]; exact (Array.getElem?_eq_some_iff.1 hi).1
        have : listed.toList.filter (! ·) = [] := List.eq_nil_of_length_eq_zero (by omega)
        have hf : listed[i] = false := by simpa [Array.getD_eq_getD_getElem?, hlt] using h0
        have hmem : false ∈ listed.toList.filter (! ·) := List.mem_filter.2 ⟨by rw [← hf]; simp, rfl⟩
        rw [this] at hmem
        cases hmem
    exact ⟨hr, hfin listed a w hs hI hr⟩
  | succ fuel ih =>
    intro listed a w hs hc hI
    refine ⟨hfin listed a w hs hI, fun i hi => ?_⟩
    obtain ⟨h0, o, ho, hall⟩ := mem_ready.1 hi
    have hlt : i < listed.size := by rw [hs]; exact (Array.getElem?_eq_some_iff.1 ho).1
    have hlf : listed[i] = false := by simpa [Array.getD_eq_getD_getElem?, hlt] using h0
    have hcount : ((listed.setIfInBounds i true).toList.filter (! ·)).length ≤ fuel := by
      have hx : ∀ (l : List Bool) (k : Nat), l[k]? = some false → ((l.set k true).filter (! ·)).length + 1 = (l.filter (! ·)).length := by
        intro l
        induction l with
        | nil => intro k hk; simp at hk
        | cons b l ih2 =>
          intro k hk
          cases k with
          | zero => simp at hk; subst hk; simp
          | succ k =>
            simp at hk
            have := ih2 k hk
            cases b <;> simp [this] <;> omega
      have := hx listed.toList i (by simp [hlt, hlf])
      rw [Array.toList_setIfInBounds]
      omega
    have hok' := hok i o ho (lst listed) a w hI.world (by unfold lst; simp [Array.getD_eq_getD_getElem?, hlt, hlf]) hI.closed hall hI.size hI.old (fun j oj d hj hoj hdj => hI.facts j oj d hoj (by
      rw [List.any_eq_true] at hj
      obtain ⟨x, hx, h2⟩ := hj
      simp only [Bool.and_eq_true, beq_iff_eq] at h2
      have := hall x (by simpa using hx) h2.2
      rwa [h2.1] at this) hdj)
    unfold wpOp
    simp only [ho]
    split
    · rename_i hw
      simp only [hw, if_true] at hok'
      refine .inl (Oper.wp_mono2 (fun a' w' ⟨⟨v, ha, hv⟩, hJ, hk⟩ => ?_) hok')
      subst ha
      exact ih _ _ _ (by simpa using hs) hcount (by rw [lst_upd hlt]; exact hI.step hn hd ho hall hJ hv hk)
    · rename_i hw
      simp only [hw] at hok'
      exact ih _ _ _ (by simpa using hs) hcount (by rw [lst_upd hlt]; exact hI.step hn hd ho hall hok'.2 hok'.1 (fun _ _ _ h => h))
/-- **A region that draws its order, with stores among its operations: one obligation an operation.** -/
theorem staged2 {id : Nat} {w0 : World} (hm : P.follows .mixedOrders = true) (Φ : Nat → Value → World → Prop) (J : (Nat → Bool) → World → Prop) (n : Nat) (hn : a0.tmps.size = n) (hd : dstB ops n = true) (hac : acyclicA ops = true)
    {Q : Exit → Act → World → Prop} (h0 : J (fun _ => false) w0.drew) (hok : ∀ i o, ops[i]? = some o → OpS2 P ops Φ J a0 i o)
    (hQ : ∀ L a w, SInv2 ops Φ J a0 L a w → (∀ i, i < ops.size → L i = true) → Q .normal a w) : (Code.region id ops true).wp P Q a0 w0 := by
  have e0 : lst (Array.replicate ops.size false) = fun _ => false := by
    funext j
    unfold lst
    by_cases h : j < ops.size
    · simp [Array.getD_eq_getD_getElem?, h]
    · simp [Array.getD_eq_getD_getElem?, h]
  refine wp_region_any hm (wpAny_staged2 hn hd hac hok hQ _ _ _ _ (by simp) ?_ ?_)
  · refine Nat.le_trans (List.length_filter_le _ _) (by simp)
  · rw [e0]
    exact ⟨h0, fun i o _ h => (Bool.false_ne_true h).elim, rfl, rfl, fun _ _ => rfl, fun i o d hi hl => (Bool.false_ne_true hl).elim⟩
end

/-- The list of obligations. -/
def AllS2 (P : Program) (ops : Array Oper) (Φ : Nat → Value → World → Prop) (J : (Nat → Bool) → World → Prop) (a0 : Act) : Nat → List Oper → Prop
  | _, [] => True
  | k, o :: l => OpS2 P ops Φ J a0 k o ∧ AllS2 P ops Φ J a0 (k + 1) l
section
variable {P : Program} {ops : Array Oper} {Φ : Nat → Value → World → Prop} {J : (Nat → Bool) → World → Prop} {a0 : Act}
theorem allS_spec2 : ∀ (l : List Oper) (k : Nat), AllS2 P ops Φ J a0 k l → ∀ i o, l[i]? = some o → OpS2 P ops Φ J a0 (k + i) o := by
  intro l
  induction l with
  | nil => intro k _ i o h; simp at h
  | cons x l ih =>
    intro k h i o hi
    cases i with
    | zero => simp at hi; subst hi; exact h.1
    | succ i =>
      simp at hi
      have := ih (k + 1) h.2 i o hi
      rwa [show k + 1 + i = k + (i + 1) by omega] at this
theorem staged_lit2 {l : List Oper} {id : Nat} {w0 : World} (hm : P.follows .mixedOrders = true) (Φ : Nat → Value → World → Prop) (J : (Nat → Bool) → World → Prop) (n : Nat) (hn : a0.tmps.size = n) (hd : dstB l.toArray n = true) (hac : acyclicA l.toArray = true)
    {Q : Exit → Act → World → Prop} (h0 : J (fun _ => false) w0.drew) (hok : AllS2 P l.toArray Φ J a0 0 l)
    (hQ : ∀ L a w, SInv2 l.toArray Φ J a0 L a w → (∀ i, i < l.toArray.size → L i = true) → Q .normal a w) : (Code.region id l.toArray true).wp P Q a0 w0 :=
  staged2 hm Φ J n hn hd hac h0 (fun i o hi => by
    have := allS_spec2 l 0 hok i o (by simpa using hi)
    rwa [Nat.zero_add] at this) hQ
/-- An operation that leaves the world alone. -/
theorem opS2_same {ws : List Nat} {W : Nat → World → Prop} {i : Nat} {o : Oper} (hg : o.guard = none) (hi : ws.contains i = false)
    (h : ∀ (L : Nat → Bool) (a : Act) (w : World), Stg ws W L w → L i = false → Closed ops L → (∀ t, notYet ops L t → a.tmps.getD t undef = a0.tmps.getD t undef) →
      (∀ (j : Nat) (oj : Oper) (d : Tmp), (o.after.toList.any fun e => e.on == j && Region.binds .any e) = true → ops[j]? = some oj → oj.dst = some d → Φ j (a.tmps.getD d undef) w) → ∃ v, (execOp a.eval o).run P w = .ok (.value v) w ∧ Φ i v w) : OpS2 P ops Φ (Stg ws W) a0 i o := by
  intro L a w hJ hl hc _ _ ho hd
  rw [if_pos (by simp [Region.wanted, hg])]
  obtain ⟨v, hr, hv⟩ := h L a w hJ hl hc ho hd
  unfold Oper.wp
  rw [hr]
  exact ⟨⟨v, rfl, hv⟩, hJ.same hi (fun _ h => h), fun _ _ _ h => h⟩
/-- An operation that makes memory. -/
theorem opS2_grow {ws : List Nat} {W : Nat → World → Prop} {i : Nat} {o : Oper} (hg : o.guard = none) (hi : ws.contains i = false) (hW : ∀ k w w', W k w → Up w w' → W k w') (hF : ∀ j x w w', Φ j x w → Up w w' → Φ j x w')
    (h : ∀ (L : Nat → Bool) (a : Act) (w : World), Stg ws W L w → L i = false → Closed ops L → (∀ t, notYet ops L t → a.tmps.getD t undef = a0.tmps.getD t undef) →
      (∀ (j : Nat) (oj : Oper) (d : Tmp), (o.after.toList.any fun e => e.on == j && Region.binds .any e) = true → ops[j]? = some oj → oj.dst = some d → Φ j (a.tmps.getD d undef) w) → Fine P o a w (Φ i)) : OpS2 P ops Φ (Stg ws W) a0 i o := by
  intro L a w hJ hl hc _ _ ho hd
  rw [if_pos (by simp [Region.wanted, hg])]
  exact Oper.wp_mono2 (fun a' w' ⟨hu, v, ha, hv⟩ => ⟨⟨v, ha, hv⟩, hJ.same hi (fun k hk => hW k w w' hk hu), fun j x _ hj => hF j x w w' hj hu⟩) (h L a w hJ hl hc ho hd)
/-- The j-th that turns the world, where it is a call of the language. -/
theorem opS2_writeV {ws : List Nat} {W : Nat → World → Prop} {i j : Nat} {o : Oper} (hg : o.guard = none) (hn : ws.Nodup) (hx : ws[j]? = some i) (hp : ∀ y, ws[j - 1]? = some y → 0 < j → (o.after.toList.any fun e => e.on == y && Region.binds .any e) = true)
    (h : ∀ (L : Nat → Bool) (a : Act) (w : World), W j w → L i = false → Closed ops L → (∀ t, notYet ops L t → a.tmps.getD t undef = a0.tmps.getD t undef) →
      (∀ (j : Nat) (oj : Oper) (d : Tmp), (o.after.toList.any fun e => e.on == j && Region.binds .any e) = true → ops[j]? = some oj → oj.dst = some d → Φ j (a.tmps.getD d undef) w) → ∃ v w', (execOp a.eval o).run P w = .ok (.value v) w' ∧ W (j + 1) w' ∧ Φ i v w' ∧ ∀ j x, j ≠ i → L j = true → Φ j x w → Φ j x w') : OpS2 P ops Φ (Stg ws W) a0 i o := by
  intro L a w hJ hl hc hall _ ho hd
  rw [if_pos (by simp [Region.wanted, hg])]
  have hprev : ∀ y, ws[j - 1]? = some y → 0 < j → L y = true := fun y hy h0 => by
    have := hp y hy h0
    rw [List.any_eq_true] at this
    obtain ⟨e, he, h2⟩ := this
    simp only [Bool.and_eq_true, beq_iff_eq] at h2
    have := hall e (by simpa using he) h2.2
    rwa [h2.1] at this
  obtain ⟨hWj, hnext⟩ := hJ.write hn hx hl hprev
  obtain ⟨v, w', hr, hw', hv, hk⟩ := h L a w hWj hl hc ho hd
  unfold Oper.wp
  rw [hr]
  exact ⟨⟨v, rfl, hv⟩, hnext w' hw', fun j x hlj => hk j x (fun e => by subst e; rw [hl] at hlj; cases hlj) hlj⟩
theorem SInv2.done {ws : List Nat} {W : Nat → World → Prop} {L : Nat → Bool} {a : Act} {w : World} (h : SInv2 ops Φ (Stg ws W) a0 L a w) (hall : ∀ i, i < ops.size → L i = true) (hin : ∀ x ∈ ws, x < ops.size) : ∃ k, ws.length ≤ k ∧ W k w := by
  obtain ⟨k, h1, h2⟩ := h.world
  refine ⟨k, ?_, h2⟩
  rcases Nat.eq_zero_or_pos ws.length with h0 | h0
  · omega
  · have hlt : ws.length - 1 < ws.length := by omega
    have := (h1 (ws.length - 1) ws[ws.length - 1] (by simp [hlt])).1 (hall _ (hin _ (List.getElem_mem hlt)))
    omega
theorem SInv2.get {J : (Nat → Bool) → World → Prop} {L : Nat → Bool} {a : Act} {w : World} (h : SInv2 ops Φ J a0 L a w) (hall : ∀ i, i < ops.size → L i = true) {i : Nat} {oi : Oper} {d : Tmp} (hi : ops[i]? = some oi) (hd : oi.dst = some d) : Φ i (a.tmps.getD d undef) w :=
  h.facts i oi d hi (hall i (Array.getElem?_eq_some_iff.1 hi).1) hd
end
end Go.Proofs.Ytgikgcepeniekaa
