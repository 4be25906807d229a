import Derived.Test.YtahpejcejbgcpaaSteady
namespace Go.Proofs.Ytahpejcejbgcpaa
open Go Go.RowKit
/-- The block that a slice value lies in. -/
def blkOf (v : Value) : Nat := v.ownBlock.getD 0
/-- The slot that an assignment takes its value from. -/
def srcOf (o : Oper) : Option Tmp := match o.op with | .assign (.tmp t) => some t | .move (.tmp t) => some t | _ => none
/-- An assignment waits for whatever writes the slot that it takes its value from. -/
def copyB (ops : Array Oper) : Bool := ops.toList.all fun o => match srcOf o with
  | none => true
  | some t => (List.range ops.size).all fun j => match ops[j]? with
    | none => true
    | some oj => oj.dst != some t || o.after.toList.any fun e => e.on == j && Region.binds .any e
section
variable (P : Program) (ops : Array Oper) (S : Nat → Bool) (Φ : Nat → Value → World → Prop) (a0 : Act) (w0 : World)
/-- What is known while a region runs in whatever order; the operations of S each make a block of their own. -/
structure RInvX (listed : Array Bool) (a : Act) (w : World) : Prop where
  base : RInv ops Φ a0 w0 listed a w
  low : ∀ (i : Nat) (o : Oper) (d : Tmp), S i = true → ops[i]? = some o → listed.getD i false = true → o.dst = some d → blkOf (a.tmps.getD d undef) < w.heap.size
  apart : ∀ (i j : Nat) (oi oj : Oper) (di dj : Tmp), S i = true → S j = true → i ≠ j → ops[i]? = some oi → ops[j]? = some oj → listed.getD i false = true → listed.getD j false = true → oi.dst = some di → oj.dst = some dj →
    blkOf (a.tmps.getD di undef) ≠ blkOf (a.tmps.getD dj undef)
  copy : ∀ (i : Nat) (o : Oper) (d t : Tmp), ops[i]? = some o → listed.getD i false = true → o.dst = some d → srcOf o = some t → a.tmps.getD d undef = a.tmps.getD t undef
  done : ∀ (i j : Nat) (o oj : Oper) (t : Tmp), ops[i]? = some o → listed.getD i false = true → srcOf o = some t → ops[j]? = some oj → oj.dst = some t → listed.getD j false = true
/-- A new block. -/
def NewBlk (w : World) (v : Value) (w' : World) : Prop := w.heap.size ≤ blkOf v ∧ blkOf v < w'.heap.size
def OpOkX (i : Nat) (o : Oper) : Prop :=
  ∀ (a : Act) (w : World), Up w0 w → a.tmps.size = a0.tmps.size →
    (∀ t, oldB ops t = true → a.tmps.getD t undef = a0.tmps.getD t undef) →
    (∀ (j : Nat) (oj : Oper) (d : Tmp), (o.after.toList.any fun e => e.on == j && Region.binds .any e) = true → ops[j]? = some oj → oj.dst = some d → Φ j (a.tmps.getD d undef) w) →
    Region.wanted o (yielded ops a.tmps) = true ∧ Fine P o a w (fun v w' => (Φ i v w' ∧ (S i = true → NewBlk w v w')) ∧ ∀ t, srcOf o = some t → v = a.tmps.getD t undef)
end
section
variable {P : Program} {ops : Array Oper} {S : Nat → Bool} {Φ : Nat → Value → World → Prop} {a0 : Act} {w0 : World}
theorem copy_spec (h : copyB ops = true) {i j : Nat} {o oj : Oper} {t : Tmp} (hi : ops[i]? = some o) (hs : srcOf o = some t) (hj : ops[j]? = some oj) (hd : oj.dst = some t) : (o.after.toList.any fun e => e.on == j && Region.binds .any e) = true := by
  unfold copyB at h
  rw [List.all_eq_true] at h
  have h1 := h o (by rw [Array.mem_toList_iff]; exact Array.mem_of_getElem? hi)
  rw [hs] at h1
  simp only [List.all_eq_true] at h1
  have h2 := h1 j (List.mem_range.2 (Array.getElem?_eq_some_iff.1 hj).1)
  rw [hj] at h2
  simpa [hd] using h2
theorem RInvX.step (hcp : copyB ops = true) (hst : ∀ i v w w', Φ i v w → Up w w' → Φ i v w') {n : Nat} (hn : a0.tmps.size = n) (hd : dstB ops n = true) {listed : Array Bool} {a : Act} {w : World} (h : RInvX ops S Φ a0 w0 listed a w) {i : Nat} {o : Oper} (hi : ops[i]? = some o) (hun : listed.getD i false = false) (hdone : ∀ j, (o.after.toList.any fun e => e.on == j && Region.binds .any e) = true → listed.getD j false = true) {v : Value} {w' : World} (hu : Up w w') (hv : Φ i v w') (hs : S i = true → NewBlk w v w') (hc : ∀ t, srcOf o = some t → v = a.tmps.getD t undef) :
    RInvX ops S Φ a0 w0 (listed.setIfInBounds i true) (a.put o.dst v) w' := by
  have hput : ∀ (j : Nat) (oj : Oper) (d : Tmp), i ≠ j → ops[j]? = some oj → oj.dst = some d → (a.put o.dst v).tmps.getD d undef = a.tmps.getD d undef := fun j oj d hij hj dj =>
    getD_put_ne v fun e => hij ((dst_spec hd hi e).2 j oj hj dj)
  have hown : ∀ (oi : Oper) (d : Tmp), ops[i]? = some oi → oi.dst = some d → (a.put o.dst v).tmps.getD d undef = v := fun oi d hoi hdd => by
    obtain rfl : o = oi := by rw [hi] at hoi; exact Option.some.inj hoi
    have hlt := (dst_spec hd hi hdd).1
    rw [hdd, getD_put_same v (by rw [h.base.size, hn]; exact hlt)]
  have hlist : ∀ j, i ≠ j → (listed.setIfInBounds i true).getD j false = true → listed.getD j false = true := fun j hij hl => by
    simpa [Array.getD_eq_getD_getElem?, Array.getElem?_setIfInBounds_ne hij] using hl
  have hself : ∀ j, listed.getD j false = true → (listed.setIfInBounds i true).getD j false = true := fun j hl => by
    by_cases hij : i = j
    · subst hij; rw [hun] at hl; cases hl
    · simpa [Array.getD_eq_getD_getElem?, Array.getElem?_setIfInBounds_ne hij] using hl
  refine ⟨RInv.step hst hn hd h.base hi hu hv, fun j oj d sj hj hl dj => ?_, fun j k oj ok dj dk sj sk hjk hj hk lj lk ddj ddk => ?_, fun j oj d t hj hl hdj hsj => ?_, fun j k oj ok t hj hl hsj hk hdk => ?_⟩
  · by_cases hij : i = j
    · subst hij
      rw [hown oj d hj dj]
      exact (hs sj).2
    · rw [hput j oj d hij hj dj]
      exact Nat.lt_of_lt_of_le (h.low j oj d sj hj (hlist j hij hl) dj) hu.size
  · by_cases hij : i = j
    · subst hij
      rw [hown oj dj hj ddj, hput k ok dk hjk hk ddk]
      have := h.low k ok dk sk hk (hlist k hjk lk) ddk
      have := (hs sj).1
      omega
    · by_cases hik : i = k
      · subst hik
        rw [hown ok dk hk ddk, hput j oj dj hij hj ddj]
        have := h.low j oj dj sj hj (hlist j hij lj) ddj
        have := (hs sk).1
        omega
      · rw [hput j oj dj hij hj ddj, hput k ok dk hik hk ddk]
        exact h.apart j k oj ok dj dk sj sk hjk hj hk (hlist j hij lj) (hlist k hik lk) ddj ddk
  · have hkeep : ∀ (t : Tmp), (∀ (k : Nat) (ok : Oper), ops[k]? = some ok → ok.dst = some t → listed.getD k false = true) → (a.put o.dst v).tmps.getD t undef = a.tmps.getD t undef := fun t hk => by
      refine getD_put_ne v fun e => ?_
      have := hk i o hi e
      rw [hun] at this
      cases this
    by_cases hij : i = j
    · subst hij
      obtain rfl : o = oj := by rw [hi] at hj; exact Option.some.inj hj
      rw [hown o d hi hdj, hkeep t fun k ok hk hdk => hdone k (copy_spec hcp hi hsj hk hdk)]
      exact hc t hsj
    · have hl' := hlist j hij hl
      rw [hput j oj d hij hj hdj, hkeep t fun k ok hk hdk => h.done j k oj ok t hj hl' hsj hk hdk]
      exact h.copy j oj d t hj hl' hdj hsj
  · by_cases hij : i = j
    · subst hij
      obtain rfl : o = oj := by rw [hi] at hj; exact Option.some.inj hj
      exact hself k (hdone k (copy_spec hcp hi hsj hk hdk))
    · exact hself k (h.done j k oj ok t hj (hlist j hij hl) hsj hk hdk)

theorem wpAny_steadyX (hcp : copyB ops = true) (hst : ∀ i v w w', Φ i v w → Up w w' → Φ i v w') {n : Nat} (hn : a0.tmps.size = n) (hd : dstB ops n = true) (hac : acyclicB ops = true)
    {Q : Exit → Act → World → Prop} (hok : ∀ i o, ops[i]? = some o → OpOkX P ops S Φ a0 w0 i o)
    (hQ : ∀ a w, RInvX ops S Φ a0 w0 (Array.replicate ops.size true) a w → Q .normal a w) :
    ∀ (fuel : Nat) (listed : Array Bool) (a : Act) (w : World), listed.size = ops.size → (listed.toList.filter (! ·)).length ≤ fuel → RInvX ops S Φ a0 w0 listed a w →
      wpAny P .any ops Q fuel listed a w := by
  have hfin : ∀ (listed : Array Bool) (a : Act) (w : World), listed.size = ops.size → RInvX ops S Φ a0 w0 listed a w → Region.ready .any ops listed = [] → Q .normal a w := by
    intro listed a w hs hI hr
    have hall := ready_of_unlisted hac hs hr
    have hl : ∀ (i : Nat) (o : Oper), ops[i]? = some o → listed.getD i false = true := fun i o hi => hall i (Array.getElem?_eq_some_iff.1 hi).1
    exact hQ a w ⟨⟨hI.base.world, hI.base.size, hI.base.defers, hI.base.old, fun i o d hi _ hdd => hI.base.facts i o d hi (hl i o hi) hdd⟩, fun i o d si hi _ hdd => hI.low i o d si hi (hl i o hi) hdd,
      fun i j oi oj di dj si sj hij hi hj _ _ hdi hdj => hI.apart i j oi oj di dj si sj hij hi hj (hl i oi hi) (hl j oj hj) hdi hdj, fun i o d t hi _ hdd hs => hI.copy i o d t hi (hl i o hi) hdd hs,
      fun i j o oj t hi _ _ hj _ => by have := (Array.getElem?_eq_some_iff.1 hj).1; simp [Array.getD_eq_getD_getElem?, this]⟩
  intro fuel
  induction fuel with
  | zero =>
    intro listed a w hs hc hI
    have hr : Region.ready .any ops listed = [] := by
      rcases List.eq_nil_or_concat (Region.ready .any ops listed) with h | ⟨l, i, h⟩
      · exact h
      · exfalso
        have hm : i ∈ Region.ready .any ops listed := by rw [h]; simp
        obtain ⟨h0, o, hi, _⟩ := mem_ready.1 hm
        have hlt : i < listed.size := by rw [hs]; exact (Array.getElem?_eq_some_iff.1 hi).1
        have : listed.toList.filter (! ·) = [] := List.eq_nil_of_length_eq_zero (by omega)
        have hf : listed[i] = false := by simpa [Array.getD_eq_getD_getElem?, hlt] using h0
        have hmem : false ∈ listed.toList.filter (! ·) := List.mem_filter.2 ⟨by rw [← hf]; simp, rfl⟩
        rw [this] at hmem
        cases hmem
    exact ⟨hr, hfin listed a w hs hI hr⟩
  | succ fuel ih =>
    intro listed a w hs hc hI
    refine ⟨hfin listed a w hs hI, fun i hi => ?_⟩
    obtain ⟨h0, o, ho, hall⟩ := mem_ready.1 hi
    have hlt : i < listed.size := by rw [hs]; exact (Array.getElem?_eq_some_iff.1 ho).1
    have hlf : listed[i] = false := by simpa [Array.getD_eq_getD_getElem?, hlt] using h0
    have hcount : ((listed.setIfInBounds i true).toList.filter (! ·)).length ≤ fuel := by
      have hx : ∀ (l : List Bool) (k : Nat), l[k]? = some false → ((l.set k true).filter (! ·)).length + 1 = (l.filter (! ·)).length := by
        intro l
        induction l with
        | nil => intro k hk; simp at hk
        | cons b l ih2 =>
          intro k hk
          cases k with
          | zero => simp at hk; subst hk; simp
          | succ k =>
            simp at hk
            have := ih2 k hk
            cases b <;> simp [this] <;> omega
      have := hx listed.toList i (by simp [hlt, hlf])
      rw [Array.toList_setIfInBounds]
      omega
    have hok' := hok i o ho a w hI.base.world hI.base.size hI.base.old (fun j oj d hj hoj hdj => hI.base.facts j oj d hoj (by
      rw [List.any_eq_true] at hj
      obtain ⟨x, hx, h2⟩ := hj
      simp only [Bool.and_eq_true, beq_iff_eq] at h2
      have := hall x (by simpa using hx) h2.2
      rwa [h2.1] at this) hdj)
    unfold wpOp
    simp only [ho]
    rw [if_pos hok'.1]
    refine .inl (Oper.wp_mono2 (fun a' w' ⟨hu, v, ha, hv⟩ => ?_) hok'.2)
    subst ha
    exact ih _ _ _ (by simpa using hs) hcount (hI.step hcp hst hn hd ho (by simp [Array.getD_eq_getD_getElem?, hlt, hlf]) (fun j hj => by
      rw [List.any_eq_true] at hj
      obtain ⟨x, hx, h2⟩ := hj
      simp only [Bool.and_eq_true, beq_iff_eq] at h2
      have := hall x (by simpa using hx) h2.2
      rwa [h2.1] at this) hu hv.1.1 hv.1.2 hv.2)

theorem opOkX_plain {i : Nat} {o : Oper} (hg : o.guard = none) (hS : S i = false) (hc : srcOf o = none)
    (h : ∀ (a : Act) (w : World), Up w0 w → (∀ t, oldB ops t = true → a.tmps.getD t undef = a0.tmps.getD t undef) →
      (∀ (j : Nat) (oj : Oper) (d : Tmp), (o.after.toList.any fun e => e.on == j && Region.binds .any e) = true → ops[j]? = some oj → oj.dst = some d → Φ j (a.tmps.getD d undef) w) → Fine P o a w (Φ i)) : OpOkX P ops S Φ a0 w0 i o := by
  intro a w hu _ ho hd
  refine ⟨by simp [Region.wanted, hg], Oper.wp_mono2 (fun a' w' ⟨h1, v, h2, h3⟩ => ⟨h1, v, h2, ⟨h3, fun hs => by rw [hS] at hs; cases hs⟩, fun t ht => by rw [hc] at ht; cases ht⟩) (h a w hu ho hd)⟩
theorem opOkX_new {i : Nat} {o : Oper} (hg : o.guard = none) (hc : srcOf o = none)
    (h : ∀ (a : Act) (w : World), Up w0 w → (∀ t, oldB ops t = true → a.tmps.getD t undef = a0.tmps.getD t undef) →
      (∀ (j : Nat) (oj : Oper) (d : Tmp), (o.after.toList.any fun e => e.on == j && Region.binds .any e) = true → ops[j]? = some oj → oj.dst = some d → Φ j (a.tmps.getD d undef) w) → Fine P o a w (fun v w' => Φ i v w' ∧ (S i = true → NewBlk w v w'))) : OpOkX P ops S Φ a0 w0 i o := by
  intro a w hu _ ho hd
  refine ⟨by simp [Region.wanted, hg], Oper.wp_mono2 (fun a' w' ⟨h1, v, h2, h3⟩ => ⟨h1, v, h2, ⟨h3.1, h3.2⟩, fun t ht => by rw [hc] at ht; cases ht⟩) (h a w hu ho hd)⟩
theorem eval_tmp (a : Act) (t : Tmp) : a.eval (.tmp t) = a.tmps.getD t undef := rfl
theorem opOkX_copy {i : Nat} {o : Oper} (t : Tmp) (hg : o.guard = none) (hS : S i = false) (ho : o.op = .assign (.tmp t) ∨ o.op = .move (.tmp t))
    (h : ∀ (a : Act) (w : World), Up w0 w → (∀ t, oldB ops t = true → a.tmps.getD t undef = a0.tmps.getD t undef) →
      (∀ (j : Nat) (oj : Oper) (d : Tmp), (o.after.toList.any fun e => e.on == j && Region.binds .any e) = true → ops[j]? = some oj → oj.dst = some d → Φ j (a.tmps.getD d undef) w) → Φ i (a.tmps.getD t undef) w) : OpOkX P ops S Φ a0 w0 i o := by
  intro a w hu _ ho' hd
  refine ⟨by simp [Region.wanted, hg], ?_⟩
  have key : ∀ s, srcOf o = some s → a.tmps.getD t undef = a.tmps.getD s undef := fun s hs => by
    rcases ho with e | e
    · unfold srcOf at hs; rw [e] at hs; cases hs; rfl
    · unfold srcOf at hs; rw [e] at hs; cases hs; rfl
  have hx := h a w hu ho' hd
  rcases ho with e | e
  · exact fine_assign (.tmp t) e ⟨⟨hx, fun hs => by rw [hS] at hs; cases hs⟩, key⟩
  · exact fine_move (.tmp t) e ⟨⟨hx, fun hs => by rw [hS] at hs; cases hs⟩, key⟩
/-- The list of obligations. -/
def AllOkX (P : Program) (ops : Array Oper) (S : Nat → Bool) (Φ : Nat → Value → World → Prop) (a0 : Act) (w0 : World) : Nat → List Oper → Prop
  | _, [] => True
  | k, o :: l => OpOkX P ops S Φ a0 w0 k o ∧ AllOkX P ops S Φ a0 w0 (k + 1) l
theorem allOkX_spec : ∀ (l : List Oper) (k : Nat), AllOkX P ops S Φ a0 w0 k l → ∀ i o, l[i]? = some o → OpOkX P ops S Φ a0 w0 (k + i) o := by
  intro l
  induction l with
  | nil => intro k _ i o h; simp at h
  | cons x l ih =>
    intro k h i o hi
    cases i with
    | zero => simp at hi; subst hi; exact h.1
    | succ i =>
      simp at hi
      have := ih (k + 1) h.2 i o hi
      rwa [show k + 1 + i = k + (i + 1) by omega] at this
/-- A region that draws its order, some of whose operations make blocks of their own: these are all different. -/
theorem steadyX_lit {l : List Oper} {id : Nat} (hm : P.follows .mixedOrders = true) (S : Nat → Bool) (Φ : Nat → Value → World → Prop) (hst : ∀ i v w w', Φ i v w → Up w w' → Φ i v w') (n : Nat) (hn : a0.tmps.size = n) (hd : dstB l.toArray n = true) (hac : acyclicB l.toArray = true) (hcp : copyB l.toArray = true)
    {Q : Exit → Act → World → Prop} (hok : AllOkX P l.toArray S Φ a0 w0 0 l)
    (hQ : ∀ a w, RInvX l.toArray S Φ a0 w0 (Array.replicate l.toArray.size true) a w → Q .normal a w) : (Code.region id l.toArray true).wp P Q a0 w0 := by
  refine wp_region_any hm (wpAny_steadyX hcp hst hn hd hac (fun i o hi => by
    have := allOkX_spec l 0 hok i o (by simpa using hi)
    rwa [Nat.zero_add] at this) hQ _ _ _ _ (by simp) ?_ ?_)
  · refine Nat.le_trans (List.length_filter_le _ _) (by simp)
  · have hno : ∀ (i : Nat) (o : Oper), l.toArray[i]? = some o → ¬ (Array.replicate l.toArray.size false).getD i false = true := fun i o hi hl => by
      have hlt : i < l.length := by simpa using (Array.getElem?_eq_some_iff.1 hi).1
      simp [Array.getD_eq_getD_getElem?, hlt] at hl
    exact ⟨⟨Up.drew w0, rfl, rfl, fun _ _ => rfl, fun i o d hi hl => (hno i o hi hl).elim⟩, fun i o d _ hi hl => (hno i o hi hl).elim, fun i j oi oj di dj _ _ _ hi _ hl => (hno i oi hi hl).elim, fun i o d t hi hl => (hno i o hi hl).elim, fun i j o oj t hi hl => (hno i o hi hl).elim⟩
theorem act_lit (a : Act) (n : Nat) (h : a.tmps.size = n) : a = { tmps := ((List.range n).map fun t => a.tmps.getD t undef).toArray, defers := a.defers } := by
  subst h
  cases a with
  | mk tmps defers =>
    congr 1
    apply Array.toList_inj.1
    apply List.ext_getElem?
    intro i
    by_cases hi : i < tmps.size
    · simp [hi, Array.getD_eq_getD_getElem?]
    · simp [hi]
end
end Go.Proofs.Ytahpejcejbgcpaa
