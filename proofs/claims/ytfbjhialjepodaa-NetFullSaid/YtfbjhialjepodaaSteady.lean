import Derived.WalkKit
import Derived.Orders
import Derived.Deep.Draws
namespace Go.Proofs.Ytfbjhialjepodaa
open Go Go.RowKit

/-- Nothing that was there has turned. -/
def Up (w w' : World) : Prop := Below w.heap.size w w'
theorem Up.refl (w : World) : Up w w := Below.refl _ _
theorem Up.trans {a b c : World} (h : Up a b) (k : Up b c) : Up a c := Below.trans h (Below.mono k h.size)
theorem Up.drew (w : World) : Up w w.drew := (Below.refl _ _).drew

/-- No way out but the normal one. -/
def NoExit : Exit → Act → World → Prop := fun _ _ _ => False

theorem Oper.wp_mono2 {P : Program} {o : Oper} {a : Act} {w : World} {K K' : Act → World → Prop} {Q : Exit → Act → World → Prop}
    (h : ∀ a w, K a w → K' a w) (hh : o.wp P a w K NoExit) : o.wp P a w K' Q := by
  unfold Oper.wp at *
  generalize (execOp a.eval o).run P w = r at *
  cases r with
  | ok n w' =>
    cases n <;> simp only [Oper.upon] at hh ⊢
    case value u => exact h _ _ hh
    case skip => exact h _ _ hh
    case defer d => exact h _ _ hh
    case enter f args =>
      refine Calls.mono hh fun e w'' he => ?_
      cases e with
      | returned u => exact h _ _ he
      | panicked c => exact (he : False).elim
      | outgrown => obtain ⟨_, _, hf⟩ := (he : LetsOut NoExit); exact hf.elim
    case row row args => exact Rows.mono hh fun u w'' he => h _ _ he
  | halt x w' =>
    cases x <;> simp only [Oper.upon] at hh ⊢
    case panic u => exact (hh : False).elim

section
variable (P : Program) (ops : Array Oper) (Φ : Nat → Value → World → Prop) (a0 : Act) (w0 : World)

/-- No operation writes this slot. -/
def oldB (t : Tmp) : Bool := ops.toList.all fun o => o.dst != some t
/-- What is known while a region runs in whatever order. -/
structure RInv (listed : Array Bool) (a : Act) (w : World) : Prop where
  world : Up w0 w
  size : a.tmps.size = a0.tmps.size
  defers : a.defers = a0.defers
  old : ∀ t, oldB ops t = true → a.tmps.getD t undef = a0.tmps.getD t undef
  facts : ∀ (i : Nat) (o : Oper) (d : Tmp), ops[i]? = some o → listed.getD i false = true → o.dst = some d → Φ i (a.tmps.getD d undef) w

/-- What is asked of one operation: from the facts on what it waits for, its own. -/
def OpOk (i : Nat) (o : Oper) : Prop :=
  ∀ (a : Act) (w : World), Up w0 w → a.tmps.size = a0.tmps.size →
    (∀ t, oldB ops t = true → a.tmps.getD t undef = a0.tmps.getD t undef) →
    (∀ (j : Nat) (oj : Oper) (d : Tmp), (o.after.toList.any fun e => e.on == j && Region.binds .any e) = true → ops[j]? = some oj → oj.dst = some d → Φ j (a.tmps.getD d undef) w) →
    if Region.wanted o (yielded ops a.tmps) then o.wp P a w (fun a' w' => Up w w' ∧ ∃ v, a' = a.put o.dst v ∧ Φ i v w') NoExit else Φ i undef w

/-- Nobody waits for one behind it. -/
def acyclicB : Bool := (List.range ops.size).all fun i => ((ops[i]?).map fun o => o.after.all fun e => decide (e.on < i)).getD true
/-- Each writes a slot of its own, that is there. -/
def dstB (n : Nat) : Bool := let l := ops.toList.filterMap (·.dst); l.all (fun d => decide (d < n)) && decide (l.Pairwise (· ≠ ·))

end

section
variable {P : Program} {ops : Array Oper} {Φ : Nat → Value → World → Prop} {a0 : Act} {w0 : World}

theorem acyclic_spec (h : acyclicB ops = true) {i : Nat} {o : Oper} (hi : ops[i]? = some o) : ∀ e ∈ o.after, e.on < i := by
  intro e he
  unfold acyclicB at h
  rw [List.all_eq_true] at h
  have hlt : i < ops.size := (Array.getElem?_eq_some_iff.1 hi).1
  have h1 := h i (List.mem_range.2 hlt)
  simp only [hi, Option.map_some, Option.getD_some] at h1
  rw [Array.all_eq_true_iff_forall_mem] at h1
  simpa using h1 e he

theorem pairwise_dst : ∀ (l : List Oper), (l.filterMap (·.dst)).Pairwise (· ≠ ·) → ∀ (i j : Nat) (oi oj : Oper) (d : Tmp), l[i]? = some oi → l[j]? = some oj → oi.dst = some d → oj.dst = some d → i = j := by
  intro l
  induction l with
  | nil => intro _ i j oi oj d hi; simp at hi
  | cons x l ih =>
    intro hp i j oi oj d hi hj di dj
    have hmem : ∀ (k : Nat) (o : Oper), l[k]? = some o → o.dst = some d → d ∈ l.filterMap (·.dst) := fun k o hk ho =>
      List.mem_filterMap.2 ⟨o, List.mem_of_getElem? hk, ho⟩
    have htail : (l.filterMap (·.dst)).Pairwise (· ≠ ·) := by
      rw [List.filterMap_cons] at hp
      split at hp
      · exact hp
      · exact (List.pairwise_cons.1 hp).2
    have hhead : x.dst = some d → d ∉ l.filterMap (·.dst) := fun hx hm => by
      rw [List.filterMap_cons, hx] at hp
      exact (List.pairwise_cons.1 hp).1 d hm rfl
    match i, j with
    | 0, 0 => rfl
    | 0, j + 1 =>
      simp at hi hj; subst hi
      exact (hhead di (hmem j oj hj dj)).elim
    | i + 1, 0 =>
      simp at hi hj; subst hj
      exact (hhead dj (hmem i oi hi di)).elim
    | i + 1, j + 1 =>
      simp at hi hj
      rw [ih htail i j oi oj d hi hj di dj]

theorem dst_spec {n : Nat} (h : dstB ops n = true) {i : Nat} {oi : Oper} {d : Tmp} (hi : ops[i]? = some oi) (di : oi.dst = some d) :
    d < n ∧ ∀ j oj, ops[j]? = some oj → oj.dst = some d → i = j := by
  unfold dstB at h
  simp only [Bool.and_eq_true, List.all_eq_true, decide_eq_true_eq] at h
  refine ⟨h.1 d (List.mem_filterMap.2 ⟨oi, ?_, di⟩), fun j oj hj dj => ?_⟩
  · rw [Array.mem_toList_iff]; exact Array.mem_of_getElem? hi
  · exact pairwise_dst ops.toList h.2 i j oi oj d (by simpa using hi) (by simpa using hj) di dj

theorem getD_put_same {a : Act} {d : Tmp} (v : Value) (h : d < a.tmps.size) : (a.put (some d) v).tmps.getD d undef = v := by
  simp [Act.put, Array.getD_eq_getD_getElem?, h]
theorem getD_put_ne {a : Act} {o : Option Tmp} {t : Tmp} (v : Value) (h : o ≠ some t) : (a.put o v).tmps.getD t undef = a.tmps.getD t undef := by
  cases o with
  | none => rfl
  | some d =>
    have hne : d ≠ t := fun e => h (e ▸ rfl)
    simp [Act.put, Array.getD_eq_getD_getElem?, Array.getElem?_setIfInBounds_ne hne]
theorem size_put {a : Act} {o : Option Tmp} (v : Value) : (a.put o v).tmps.size = a.tmps.size := by cases o <;> simp [Act.put]
theorem defers_put {a : Act} {o : Option Tmp} (v : Value) : (a.put o v).defers = a.defers := by cases o <;> rfl

theorem old_spec {t : Tmp} (h : oldB ops t = true) {i : Nat} {o : Oper} (hi : ops[i]? = some o) : o.dst ≠ some t := by
  unfold oldB at h
  rw [List.all_eq_true] at h
  have := h o (by rw [Array.mem_toList_iff]; exact Array.mem_of_getElem? hi)
  simpa using this
theorem RInv.step (hst : ∀ i v w w', Φ i v w → Up w w' → Φ i v w') {n : Nat} (hn : a0.tmps.size = n) (hd : dstB ops n = true) {listed : Array Bool} {a : Act} {w : World} (h : RInv ops Φ a0 w0 listed a w) {i : Nat} {o : Oper} (hi : ops[i]? = some o) {v : Value} {w' : World} (hu : Up w w') (hv : Φ i v w') :
    RInv ops Φ a0 w0 (listed.setIfInBounds i true) (a.put o.dst v) w' := by
  refine ⟨h.world.trans hu, by rw [size_put]; exact h.size, by rw [defers_put]; exact h.defers, fun t ht => ?_, fun j oj d hj hl dj => ?_⟩
  · rw [getD_put_ne v (old_spec ht hi)]; exact h.old t ht
  · by_cases hji : i = j
    · subst hji
      obtain rfl : o = oj := by rw [hi] at hj; exact Option.some.inj hj
      have hlt := (dst_spec hd hi dj).1
      rw [dj, getD_put_same v (by rw [h.size, hn]; exact hlt)]
      exact hv
    · have hne : o.dst ≠ some d := fun e => hji ((dst_spec hd hi e).2 j oj hj dj)
      rw [getD_put_ne v hne]
      refine hst j _ _ _ (h.facts j oj d hj ?_ dj) hu
      simpa [Array.getD_eq_getD_getElem?, Array.getElem?_setIfInBounds_ne hji] using hl

theorem ready_of_unlisted (hac : acyclicB ops = true) {md : Region.Mode} {listed : Array Bool} (hs : listed.size = ops.size) :
    Region.ready md ops listed = [] → ∀ i, i < ops.size → listed.getD i false = true := by
  intro hr i
  induction i using Nat.strongRecOn with
  | _ i ih =>
    intro hi
    cases hc : listed.getD i false with
    | true => rfl
    | false =>
      exfalso
      have hm : i ∈ Region.ready md ops listed := by
        rw [mem_ready]
        refine ⟨?_, ops[i], by simp [hi], fun e he _ => ?_⟩
        · have : i < listed.size := by omega
          simpa [Array.getD_eq_getD_getElem?, this] using hc
        · have := acyclic_spec hac (i := i) (o := ops[i]) (by simp [hi]) e he
          exact ih e.on this (by omega)
      rw [hr] at hm
      cases hm

theorem wpAny_steady (hst : ∀ i v w w', Φ i v w → Up w w' → Φ i v w') {n : Nat} (hn : a0.tmps.size = n) (hd : dstB ops n = true) (hac : acyclicB ops = true)
    {Q : Exit → Act → World → Prop} (hok : ∀ i o, ops[i]? = some o → OpOk P ops Φ a0 w0 i o)
    (hQ : ∀ a w, RInv ops Φ a0 w0 (Array.replicate ops.size true) a w → Q .normal a w) :
    ∀ (fuel : Nat) (listed : Array Bool) (a : Act) (w : World), listed.size = ops.size → (listed.toList.filter (! ·)).length ≤ fuel → RInv ops Φ a0 w0 listed a w →
      wpAny P .any ops Q fuel listed a w := by
  have hfin : ∀ (listed : Array Bool) (a : Act) (w : World), listed.size = ops.size → RInv ops Φ a0 w0 listed a w → Region.ready .any ops listed = [] → Q .normal a w := by
    intro listed a w hs hI hr
    have hall := ready_of_unlisted hac hs hr
    refine hQ a w ⟨hI.world, hI.size, hI.defers, hI.old, fun i o d hi _ hdd => hI.facts i o d hi (hall i (Array.getElem?_eq_some_iff.1 hi).1) hdd⟩
  intro fuel
  induction fuel with
  | zero =>
    intro listed a w hs hc hI
    have hr : Region.ready .any ops listed = [] := by
      rcases List.eq_nil_or_concat (Region.ready .any ops listed) with h | ⟨l, i, h⟩
      · exact h
      · exfalso
        have hm : i ∈ Region.ready .any ops listed := by rw [h]; simp
        obtain ⟨h0, o, hi, _⟩ := mem_ready.1 hm
        have hlt : i < listed.size := by rw [hs]; exact (Array.getElem?_eq_some_iff.1 hi).1
        have : listed.toList.filter (! ·) = [] := List.eq_nil_of_length_eq_zero (by omega)
        have hf : listed[i] = false := by simpa [Array.getD_eq_getD_getElem?, hlt] using h0
        have hmem : false ∈ listed.toList.filter (! ·) := List.mem_filter.2 ⟨by rw [← hf]; simp, rfl⟩
        rw [this] at hmem
        cases hmem
    exact ⟨hr, hfin listed a w hs hI hr⟩
  | succ fuel ih =>
    intro listed a w hs hc hI
    refine ⟨hfin listed a w hs hI, fun i hi => ?_⟩
    obtain ⟨h0, o, ho, hall⟩ := mem_ready.1 hi
    have hlt : i < listed.size := by rw [hs]; exact (Array.getElem?_eq_some_iff.1 ho).1
    have hlf : listed[i] = false := by simpa [Array.getD_eq_getD_getElem?, hlt] using h0
    have hcount : ((listed.setIfInBounds i true).toList.filter (! ·)).length ≤ fuel := by
      have hx : ∀ (l : List Bool) (k : Nat), l[k]? = some false → ((l.set k true).filter (! ·)).length + 1 = (l.filter (! ·)).length := by
        intro l
        induction l with
        | nil => intro k hk; simp at hk
        | cons b l ih2 =>
          intro k hk
          cases k with
          | zero => simp at hk; subst hk; simp
          | succ k =>
            simp at hk
            have := ih2 k hk
            cases b <;> simp [this] <;> omega
      have := hx listed.toList i (by simp [hlt, hlf])
      rw [Array.toList_setIfInBounds]
      omega
    have hok' := hok i o ho a w hI.world hI.size hI.old (fun j oj d hj hoj hdj => hI.facts j oj d hoj (by
      rw [List.any_eq_true] at hj
      obtain ⟨x, hx, h2⟩ := hj
      simp only [Bool.and_eq_true, beq_iff_eq] at h2
      have := hall x (by simpa using hx) h2.2
      rwa [h2.1] at this) hdj)
    unfold wpOp
    simp only [ho]
    split
    · rename_i hw
      simp only [hw, if_true] at hok'
      refine .inl (Oper.wp_mono2 (fun a' w' ⟨hu, v, ha, hv⟩ => ?_) hok')
      subst ha
      exact ih _ _ _ (by simpa using hs) hcount (hI.step hst hn hd ho hu hv)
    · rename_i hw
      simp only [hw] at hok'
      exact ih _ _ _ (by simpa using hs) hcount (hI.step hst hn hd ho (Up.refl w) hok')

/-- **A region that draws its order, whose operations only make new memory: one obligation an operation.** -/
theorem steady {id : Nat} (hm : P.follows .mixedOrders = true) (Φ : Nat → Value → World → Prop) (hst : ∀ i v w w', Φ i v w → Up w w' → Φ i v w') (n : Nat) (hn : a0.tmps.size = n) (hd : dstB ops n = true) (hac : acyclicB ops = true)
    {Q : Exit → Act → World → Prop} (hok : ∀ i o, ops[i]? = some o → OpOk P ops Φ a0 w0 i o)
    (hQ : ∀ a w, RInv ops Φ a0 w0 (Array.replicate ops.size true) a w → Q .normal a w) : (Code.region id ops true).wp P Q a0 w0 := by
  refine wp_region_any hm (wpAny_steady hst hn hd hac hok hQ _ _ _ _ (by simp) ?_ ?_)
  · refine Nat.le_trans (List.length_filter_le _ _) (by simp)
  · exact ⟨Up.drew w0, rfl, rfl, fun _ _ => rfl, fun i o d hi hl => by
      have hlt := (Array.getElem?_eq_some_iff.1 hi).1
      simp [Array.getD_eq_getD_getElem?, hlt] at hl⟩
end
end Go.Proofs.Ytfbjhialjepodaa
