import Derived.Test.YthncpkjnalmpkaaSteady
import Derived.Laws.BitsAllLaws
import Derived.Deep.RegionLawGrows
import Derived.WalkSpells
import Derived.Laws.BytesArg
import Derived.Laws.BytesString
namespace Go.Proofs.Ythncpkjnalmpkaa
open Go Go.RowKit
set_option linter.unusedVariables false
/-- Bytes as plain numbers. -/
def nats (xs : List Int) : List Nat := xs.map Int.toNat
/-- Each fits a byte. -/
def Byt (xs : List Int) : Prop := ∀ x ∈ xs, 0 ≤ x ∧ x < 256
theorem nats_lt {xs : List Int} (h : Byt xs) : ∀ b ∈ nats xs, b < 256 := by
  intro b hb
  simp only [nats, List.mem_map] at hb
  obtain ⟨x, hx, rfl⟩ := hb
  have := h x hx
  omega
theorem nats_append (xs ys : List Int) : nats (xs ++ ys) = nats xs ++ nats ys := by simp [nats]
theorem byt_nil : Byt [] := by intro x hx; cases hx
theorem Byt.append {xs ys : List Int} (h : Byt xs) (k : Byt ys) : Byt (xs ++ ys) := fun x hx => by
  rcases List.mem_append.1 hx with h1 | h1
  · exact h x h1
  · exact k x h1
theorem Byt.take {xs : List Int} (h : Byt xs) (n : Nat) : Byt (xs.take n) := fun x hx => h x (List.mem_of_mem_take hx)
theorem Byt.drop {xs : List Int} (h : Byt xs) (n : Nat) : Byt (xs.drop n) := fun x hx => h x (List.mem_of_mem_drop hx)
/-- A slice of bytes. -/
structure InB (w : World) (A : Option Addr) (n cap : Nat) (xs : List Int) : Prop where
  cells : Cells w A (ints .u8 xs)
  byt : Byt xs
  cap : n ≤ cap
  len : xs.length = n
theorem InB.up {w w' : World} {A : Option Addr} {n cap : Nat} {xs : List Int} (h : InB w A n cap xs) (hu : Below w.heap.size w w') : InB w' A n cap xs := ⟨h.cells.up hu, h.byt, h.cap, h.len⟩
theorem inB_nil (w : World) : InB w none 0 0 [] := ⟨Cells.nil _ _, byt_nil, Nat.le_refl _, rfl⟩
theorem own_inB {E : TypeId} {w : World} {base : Nat} {A : Option Addr} {c n : Nat} {xs : List Int} (h : OwnI .u8 E base w A n c xs) (hb : Byt xs) : InB w A n c xs := ⟨h.cells, hb, h.cap, h.len⟩
/-- The s lowest bytes of n, the highest first. -/
def be (n : Int) : Nat → List Int
  | 0 => []
  | s + 1 => n / 2 ^ (8 * s) % 256 :: be n s
theorem be_length (n : Int) (s : Nat) : (be n s).length = s := by induction s <;> simp_all [be]
theorem be_byt (n : Int) (s : Nat) : Byt (be n s) := by
  induction s with
  | zero => simp [be, Byt]
  | succ s ih =>
    intro x hx
    simp only [be, List.mem_cons] at hx
    rcases hx with rfl | hx
    · omega
    · exact ih x hx
theorem be_step {n : Int} {k : Nat} {ys xs : List Int} {s : Nat} (h : ys ++ be n (k + 1) = xs ++ be n s) : (ys ++ [n / 2 ^ (8 * k) % 256]) ++ be n k = xs ++ be n s := by
  rw [← h, be]; simp
/-- The number that these bytes are, behind v. -/
def num : Int → List Int → Int
  | v, [] => v
  | v, x :: l => num (v * 256 + x) l
theorem num_snoc (l : List Int) (x : Int) : ∀ v, num v (l ++ [x]) = num v l * 256 + x := by
  induction l with
  | nil => intro v; rfl
  | cons y l ih => intro v; simp only [List.cons_append, num]; exact ih _
theorem num_bd (l : List Int) (hb : ∀ x ∈ l, 0 ≤ x ∧ x < 256) : 0 ≤ num 0 l ∧ num 0 l < 256 ^ l.length := by
  suffices h : ∀ (l : List Int) (v : Int) (k : Nat), (∀ x ∈ l, 0 ≤ x ∧ x < 256) → 0 ≤ v → v < 256 ^ k → 0 ≤ num v l ∧ num v l < 256 ^ (k + l.length) from by
    simpa using h l 0 0 hb (by omega) (by simp)
  intro l
  induction l with
  | nil => intro v k _ h0 h1; exact ⟨h0, by simpa [num] using h1⟩
  | cons x l ih =>
    intro v k hb h0 h1
    have hx := hb x (by simp)
    have h2 : v * 256 + x < 256 ^ (k + 1) := by rw [Int.pow_succ]; omega
    have := ih (v * 256 + x) (k + 1) (fun y hy => hb y (by simp [hy])) (by omega) h2
    simpa [num, Nat.add_assoc, Nat.add_comm 1] using this
theorem pow256_le {j : Nat} (h : j ≤ 8) : (256 : Int) ^ j ≤ 18446744073709551616 := by
  match j, h with
  | 0, _ => decide
  | 1, _ => decide
  | 2, _ => decide
  | 3, _ => decide
  | 4, _ => decide
  | 5, _ => decide
  | 6, _ => decide
  | 7, _ => decide
  | 8, _ => decide
theorem num_u64 (l : List Int) (hb : Byt l) (hl : l.length ≤ 8) : 0 ≤ num 0 l ∧ num 0 l < 18446744073709551616 := by
  have h := num_bd l hb
  have := pow256_le hl
  omega
/-- What is written is what was read. -/
theorem be_num (l : List Int) (hb : Byt l) : be (num 0 l) l.length = l := by
  have key : ∀ (l : List Int) (v : Int), Byt l → 0 ≤ v → be (num v l) l.length = l ∧ num v l / 256 ^ l.length = v := by
    intro l
    induction l with
    | nil => intro v _ _; exact ⟨rfl, by simp [num]⟩
    | cons x l ih =>
      intro v hb h0
      have hx := hb x (by simp)
      obtain ⟨h1, h2⟩ := ih (v * 256 + x) (fun y hy => hb y (by simp [hy])) (by omega)
      have e1 : (2 : Int) ^ (8 * l.length) = 256 ^ l.length := by rw [Int.pow_mul]; rfl
      refine ⟨?_, ?_⟩
      · simp only [List.length_cons, be, num]
        rw [h1, e1, h2]
        congr 1
        omega
      · simp only [List.length_cons, num]
        rw [Int.pow_succ, ← Int.ediv_ediv_of_nonneg (Int.pow_nonneg (by omega)), h2]
        omega
  exact (key l 0 hb (by omega)).1
end Go.Proofs.Ythncpkjnalmpkaa
namespace Go.Proofs.Ythncpkjnalmpkaa
open Go Go.RowKit
/-- The block that a slice value lies in. -/
def blkOf (v : Value) : Nat := v.ownBlock.getD 0
/-- The slot that an assignment takes its value from. -/
def srcOf (o : Oper) : Option Tmp := match o.op with | .assign (.tmp t) => some t | .move (.tmp t) => some t | _ => none
/-- An assignment waits for whatever writes the slot that it takes its value from. -/
def copyB (ops : Array Oper) : Bool := ops.toList.all fun o => match srcOf o with
  | none => true
  | some t => (List.range ops.size).all fun j => match ops[j]? with
    | none => true
    | some oj => oj.dst != some t || o.after.toList.any fun e => e.on == j && Region.binds .any e
section
variable (P : Program) (ops : Array Oper) (S : Nat → Bool) (Φ : Nat → Value → World → Prop) (a0 : Act) (w0 : World)
/-- What is known while a region runs in whatever order; the operations of S each make a block of their own. -/
structure RInvX (listed : Array Bool) (a : Act) (w : World) : Prop where
  base : RInv ops Φ a0 w0 listed a w
  low : ∀ (i : Nat) (o : Oper) (d : Tmp), S i = true → ops[i]? = some o → listed.getD i false = true → o.dst = some d → blkOf (a.tmps.getD d undef) < w.heap.size
  apart : ∀ (i j : Nat) (oi oj : Oper) (di dj : Tmp), S i = true → S j = true → i ≠ j → ops[i]? = some oi → ops[j]? = some oj → listed.getD i false = true → listed.getD j false = true → oi.dst = some di → oj.dst = some dj →
    blkOf (a.tmps.getD di undef) ≠ blkOf (a.tmps.getD dj undef)
  copy : ∀ (i : Nat) (o : Oper) (d t : Tmp), ops[i]? = some o → listed.getD i false = true → o.dst = some d → srcOf o = some t → a.tmps.getD d undef = a.tmps.getD t undef
  done : ∀ (i j : Nat) (o oj : Oper) (t : Tmp), ops[i]? = some o → listed.getD i false = true → srcOf o = some t → ops[j]? = some oj → oj.dst = some t → listed.getD j false = true
/-- A new block. -/
def NewBlk (w : World) (v : Value) (w' : World) : Prop := w.heap.size ≤ blkOf v ∧ blkOf v < w'.heap.size
def OpOkX (i : Nat) (o : Oper) : Prop :=
  ∀ (a : Act) (w : World), Up w0 w → a.tmps.size = a0.tmps.size →
    (∀ t, oldB ops t = true → a.tmps.getD t undef = a0.tmps.getD t undef) →
    (∀ (j : Nat) (oj : Oper) (d : Tmp), (o.after.toList.any fun e => e.on == j && Region.binds .any e) = true → ops[j]? = some oj → oj.dst = some d → Φ j (a.tmps.getD d undef) w) →
    Region.wanted o (yielded ops a.tmps) = true ∧ Fine P o a w (fun v w' => (Φ i v w' ∧ (S i = true → NewBlk w v w')) ∧ ∀ t, srcOf o = some t → v = a.tmps.getD t undef)
end
section
variable {P : Program} {ops : Array Oper} {S : Nat → Bool} {Φ : Nat → Value → World → Prop} {a0 : Act} {w0 : World}
theorem copy_spec (h : copyB ops = true) {i j : Nat} {o oj : Oper} {t : Tmp} (hi : ops[i]? = some o) (hs : srcOf o = some t) (hj : ops[j]? = some oj) (hd : oj.dst = some t) : (o.after.toList.any fun e => e.on == j && Region.binds .any e) = true := by
  unfold copyB at h
  rw [List.all_eq_true] at h
  have h1 := h o (by rw [Array.mem_toList_iff]; exact Array.mem_of_getElem? hi)
  rw [hs] at h1
  simp only [List.all_eq_true] at h1
  have h2 := h1 j (List.mem_range.2 (Array.getElem?_eq_some_iff.1 hj).1)
  rw [hj] at h2
  simpa [hd] using h2
theorem RInvX.step (hcp : copyB ops = true) (hst : ∀ i v w w', Φ i v w → Up w w' → Φ i v w') {n : Nat} (hn : a0.tmps.size = n) (hd : dstB ops n = true) {listed : Array Bool} {a : Act} {w : World} (h : RInvX ops S Φ a0 w0 listed a w) {i : Nat} {o : Oper} (hi : ops[i]? = some o) (hun : listed.getD i false = false) (hdone : ∀ j, (o.after.toList.any fun e => e.on == j && Region.binds .any e) = true → listed.getD j false = true) {v : Value} {w' : World} (hu : Up w w') (hv : Φ i v w') (hs : S i = true → NewBlk w v w') (hc : ∀ t, srcOf o = some t → v = a.tmps.getD t undef) :
    RInvX ops S Φ a0 w0 (listed.setIfInBounds i true) (a.put o.dst v) w' := by
  have hput : ∀ (j : Nat) (oj : Oper) (d : Tmp), i ≠ j → ops[j]? = some oj → oj.dst = some d → (a.put o.dst v).tmps.getD d undef = a.tmps.getD d undef := fun j oj d hij hj dj =>
    getD_put_ne v fun e => hij ((dst_spec hd hi e).2 j oj hj dj)
  have hown : ∀ (oi : Oper) (d : Tmp), ops[i]? = some oi → oi.dst = some d → (a.put o.dst v).tmps.getD d undef = v := fun oi d hoi hdd => by
    obtain rfl : o = oi := by rw [hi] at hoi; exact Option.some.inj hoi
    have hlt := (dst_spec hd hi hdd).1
    rw [hdd, getD_put_same v (by rw [h.base.size, hn]; exact hlt)]
  have hlist : ∀ j, i ≠ j → (listed.setIfInBounds i true).getD j false = true → listed.getD j false = true := fun j hij hl => by
    simpa [Array.getD_eq_getD_getElem?, Array.getElem?_setIfInBounds_ne hij] using hl
  have hself : ∀ j, listed.getD j false = true → (listed.setIfInBounds i true).getD j false = true := fun j hl => by
    by_cases hij : i = j
    · subst hij; rw [hun] at hl; cases hl
    · simpa [Array.getD_eq_getD_getElem?, Array.getElem?_setIfInBounds_ne hij] using hl
  refine ⟨RInv.step hst hn hd h.base hi hu hv, fun j oj d sj hj hl dj => ?_, fun j k oj ok dj dk sj sk hjk hj hk lj lk ddj ddk => ?_, fun j oj d t hj hl hdj hsj => ?_, fun j k oj ok t hj hl hsj hk hdk => ?_⟩
  · by_cases hij : i = j
    · subst hij
      rw [hown oj d hj dj]
      exact (hs sj).2
    · rw [hput j oj d hij hj dj]
      exact Nat.lt_of_lt_of_le (h.low j oj d sj hj (hlist j hij hl) dj) hu.size
  · by_cases hij : i = j
    · subst hij
      rw [hown oj dj hj ddj, hput k ok dk hjk hk ddk]
      have := h.low k ok dk sk hk (hlist k hjk lk) ddk
      have := (hs sj).1
      omega
    · by_cases hik : i = k
      · subst hik
        rw [hown ok dk hk ddk, hput j oj dj hij hj ddj]
        have := h.low j oj dj sj hj (hlist j hij lj) ddj
        have := (hs sk).1
        omega
      · rw [hput j oj dj hij hj ddj, hput k ok dk hik hk ddk]
        exact h.apart j k oj ok dj dk sj sk hjk hj hk (hlist j hij lj) (hlist k hik lk) ddj ddk
  · have hkeep : ∀ (t : Tmp), (∀ (k : Nat) (ok : Oper), ops[k]? = some ok → ok.dst = some t → listed.getD k false = true) → (a.put o.dst v).tmps.getD t undef = a.tmps.getD t undef := fun t hk => by
      refine getD_put_ne v fun e => ?_
      have := hk i o hi e
      rw [hun] at this
      cases this
    by_cases hij : i = j
    · subst hij
      obtain rfl : o = oj := by rw [hi] at hj; exact Option.some.inj hj
      rw [hown o d hi hdj, hkeep t fun k ok hk hdk => hdone k (copy_spec hcp hi hsj hk hdk)]
      exact hc t hsj
    · have hl' := hlist j hij hl
      rw [hput j oj d hij hj hdj, hkeep t fun k ok hk hdk => h.done j k oj ok t hj hl' hsj hk hdk]
      exact h.copy j oj d t hj hl' hdj hsj
  · by_cases hij : i = j
    · subst hij
      obtain rfl : o = oj := by rw [hi] at hj; exact Option.some.inj hj
      exact hself k (hdone k (copy_spec hcp hi hsj hk hdk))
    · exact hself k (h.done j k oj ok t hj (hlist j hij hl) hsj hk hdk)

theorem wpAny_steadyX (hcp : copyB ops = true) (hst : ∀ i v w w', Φ i v w → Up w w' → Φ i v w') {n : Nat} (hn : a0.tmps.size = n) (hd : dstB ops n = true) (hac : acyclicB ops = true)
    {Q : Exit → Act → World → Prop} (hok : ∀ i o, ops[i]? = some o → OpOkX P ops S Φ a0 w0 i o)
    (hQ : ∀ a w, RInvX ops S Φ a0 w0 (Array.replicate ops.size true) a w → Q .normal a w) :
    ∀ (fuel : Nat) (listed : Array Bool) (a : Act) (w : World), listed.size = ops.size → (listed.toList.filter (! ·)).length ≤ fuel → RInvX ops S Φ a0 w0 listed a w →
      wpAny P .any ops Q fuel listed a w := by
  have hfin : ∀ (listed : Array Bool) (a : Act) (w : World), listed.size = ops.size → RInvX ops S Φ a0 w0 listed a w → Region.ready .any ops listed = [] → Q .normal a w := by
    intro listed a w hs hI hr
    have hall := ready_of_unlisted hac hs hr
    have hl : ∀ (i : Nat) (o : Oper), ops[i]? = some o → listed.getD i false = true := fun i o hi => hall i (Array.getElem?_eq_some_iff.1 hi).1
    exact hQ a w ⟨⟨hI.base.world, hI.base.size, hI.base.defers, hI.base.old, fun i o d hi _ hdd => hI.base.facts i o d hi (hl i o hi) hdd⟩, fun i o d si hi _ hdd => hI.low i o d si hi (hl i o hi) hdd,
      fun i j oi oj di dj si sj hij hi hj _ _ hdi hdj => hI.apart i j oi oj di dj si sj hij hi hj (hl i oi hi) (hl j oj hj) hdi hdj, fun i o d t hi _ hdd hs => hI.copy i o d t hi (hl i o hi) hdd hs,
      fun i j o oj t hi _ _ hj _ => by have := (Array.getElem?_eq_some_iff.1 hj).1; simp [Array.getD_eq_getD_getElem?, this]⟩
  intro fuel
  induction fuel with
  | zero =>
    intro listed a w hs hc hI
    have hr : Region.ready .any ops listed = [] := by
      rcases List.eq_nil_or_concat (Region.ready .any ops listed) with h | ⟨l, i, h⟩
      · exact h
      · exfalso
        have hm : i ∈ Region.ready .any ops listed := by rw [h]; simp
        obtain ⟨h0, o, hi, _⟩ := mem_ready.1 hm
        have hlt : i < listed.size := by rw [hs]; exact (Array.getElem?_eq_some_iff.1 hi).1
        have : listed.toList.filter (! ·) = [] := List.eq_nil_of_length_eq_zero (by omega)
        have hf : listed[i] = false := by simpa [Array.getD_eq_getD_getElem?, hlt] using h0
        have hmem : false ∈ listed.toList.filter (! ·) := List.mem_filter.2 ⟨by rw [← hf]; simp, rfl⟩
        rw [this] at hmem
        cases hmem
    exact ⟨hr, hfin listed a w hs hI hr⟩
  | succ fuel ih =>
    intro listed a w hs hc hI
    refine ⟨hfin listed a w hs hI, fun i hi => ?_⟩
    obtain ⟨h0, o, ho, hall⟩ := mem_ready.1 hi
    have hlt : i < listed.size := by rw [hs]; exact (Array.getElem?_eq_some_iff.1 ho).1
    have hlf : listed[i] = false := by simpa [Array.getD_eq_getD_getElem?, hlt] using h0
    have hcount : ((listed.setIfInBounds i true).toList.filter (! ·)).length ≤ fuel := by
      have hx : ∀ (l : List Bool) (k : Nat), l[k]? = some false → ((l.set k true).filter (! ·)).length + 1 = (l.filter (! ·)).length := by
        intro l
        induction l with
        | nil => intro k hk; simp at hk
        | cons b l ih2 =>
          intro k hk
          cases k with
          | zero => simp at hk; subst hk; simp
          | succ k =>
            simp at hk
            have := ih2 k hk
            cases b <;> simp [this] <;> omega
      have := hx listed.toList i (by simp [hlt, hlf])
      rw [Array.toList_setIfInBounds]
      omega
    have hok' := hok i o ho a w hI.base.world hI.base.size hI.base.old (fun j oj d hj hoj hdj => hI.base.facts j oj d hoj (by
      rw [List.any_eq_true] at hj
      obtain ⟨x, hx, h2⟩ := hj
      simp only [Bool.and_eq_true, beq_iff_eq] at h2
      have := hall x (by simpa using hx) h2.2
      rwa [h2.1] at this) hdj)
    unfold wpOp
    simp only [ho]
    rw [if_pos hok'.1]
    refine .inl (Oper.wp_mono2 (fun a' w' ⟨hu, v, ha, hv⟩ => ?_) hok'.2)
    subst ha
    exact ih _ _ _ (by simpa using hs) hcount (hI.step hcp hst hn hd ho (by simp [Array.getD_eq_getD_getElem?, hlt, hlf]) (fun j hj => by
      rw [List.any_eq_true] at hj
      obtain ⟨x, hx, h2⟩ := hj
      simp only [Bool.and_eq_true, beq_iff_eq] at h2
      have := hall x (by simpa using hx) h2.2
      rwa [h2.1] at this) hu hv.1.1 hv.1.2 hv.2)

theorem opOkX_plain {i : Nat} {o : Oper} (hg : o.guard = none) (hS : S i = false) (hc : srcOf o = none)
    (h : ∀ (a : Act) (w : World), Up w0 w → (∀ t, oldB ops t = true → a.tmps.getD t undef = a0.tmps.getD t undef) →
      (∀ (j : Nat) (oj : Oper) (d : Tmp), (o.after.toList.any fun e => e.on == j && Region.binds .any e) = true → ops[j]? = some oj → oj.dst = some d → Φ j (a.tmps.getD d undef) w) → Fine P o a w (Φ i)) : OpOkX P ops S Φ a0 w0 i o := by
  intro a w hu _ ho hd
  refine ⟨by simp [Region.wanted, hg], Oper.wp_mono2 (fun a' w' ⟨h1, v, h2, h3⟩ => ⟨h1, v, h2, ⟨h3, fun hs => by rw [hS] at hs; cases hs⟩, fun t ht => by rw [hc] at ht; cases ht⟩) (h a w hu ho hd)⟩
theorem opOkX_new {i : Nat} {o : Oper} (hg : o.guard = none) (hc : srcOf o = none)
    (h : ∀ (a : Act) (w : World), Up w0 w → (∀ t, oldB ops t = true → a.tmps.getD t undef = a0.tmps.getD t undef) →
      (∀ (j : Nat) (oj : Oper) (d : Tmp), (o.after.toList.any fun e => e.on == j && Region.binds .any e) = true → ops[j]? = some oj → oj.dst = some d → Φ j (a.tmps.getD d undef) w) → Fine P o a w (fun v w' => Φ i v w' ∧ (S i = true → NewBlk w v w'))) : OpOkX P ops S Φ a0 w0 i o := by
  intro a w hu _ ho hd
  refine ⟨by simp [Region.wanted, hg], Oper.wp_mono2 (fun a' w' ⟨h1, v, h2, h3⟩ => ⟨h1, v, h2, ⟨h3.1, h3.2⟩, fun t ht => by rw [hc] at ht; cases ht⟩) (h a w hu ho hd)⟩
theorem eval_tmp (a : Act) (t : Tmp) : a.eval (.tmp t) = a.tmps.getD t undef := rfl
theorem opOkX_copy {i : Nat} {o : Oper} (t : Tmp) (hg : o.guard = none) (hS : S i = false) (ho : o.op = .assign (.tmp t) ∨ o.op = .move (.tmp t))
    (h : ∀ (a : Act) (w : World), Up w0 w → (∀ t, oldB ops t = true → a.tmps.getD t undef = a0.tmps.getD t undef) →
      (∀ (j : Nat) (oj : Oper) (d : Tmp), (o.after.toList.any fun e => e.on == j && Region.binds .any e) = true → ops[j]? = some oj → oj.dst = some d → Φ j (a.tmps.getD d undef) w) → Φ i (a.tmps.getD t undef) w) : OpOkX P ops S Φ a0 w0 i o := by
  intro a w hu _ ho' hd
  refine ⟨by simp [Region.wanted, hg], ?_⟩
  have key : ∀ s, srcOf o = some s → a.tmps.getD t undef = a.tmps.getD s undef := fun s hs => by
    rcases ho with e | e
    · unfold srcOf at hs; rw [e] at hs; cases hs; rfl
    · unfold srcOf at hs; rw [e] at hs; cases hs; rfl
  have hx := h a w hu ho' hd
  rcases ho with e | e
  · exact fine_assign (.tmp t) e ⟨⟨hx, fun hs => by rw [hS] at hs; cases hs⟩, key⟩
  · exact fine_move (.tmp t) e ⟨⟨hx, fun hs => by rw [hS] at hs; cases hs⟩, key⟩
/-- The list of obligations. -/
def AllOkX (P : Program) (ops : Array Oper) (S : Nat → Bool) (Φ : Nat → Value → World → Prop) (a0 : Act) (w0 : World) : Nat → List Oper → Prop
  | _, [] => True
  | k, o :: l => OpOkX P ops S Φ a0 w0 k o ∧ AllOkX P ops S Φ a0 w0 (k + 1) l
theorem allOkX_spec : ∀ (l : List Oper) (k : Nat), AllOkX P ops S Φ a0 w0 k l → ∀ i o, l[i]? = some o → OpOkX P ops S Φ a0 w0 (k + i) o := by
  intro l
  induction l with
  | nil => intro k _ i o h; simp at h
  | cons x l ih =>
    intro k h i o hi
    cases i with
    | zero => simp at hi; subst hi; exact h.1
    | succ i =>
      simp at hi
      have := ih (k + 1) h.2 i o hi
      rwa [show k + 1 + i = k + (i + 1) by omega] at this
/-- A region that draws its order, some of whose operations make blocks of their own: these are all different. -/
theorem steadyX_lit {l : List Oper} {id : Nat} (hm : P.follows .mixedOrders = true) (S : Nat → Bool) (Φ : Nat → Value → World → Prop) (hst : ∀ i v w w', Φ i v w → Up w w' → Φ i v w') (n : Nat) (hn : a0.tmps.size = n) (hd : dstB l.toArray n = true) (hac : acyclicB l.toArray = true) (hcp : copyB l.toArray = true)
    {Q : Exit → Act → World → Prop} (hok : AllOkX P l.toArray S Φ a0 w0 0 l)
    (hQ : ∀ a w, RInvX l.toArray S Φ a0 w0 (Array.replicate l.toArray.size true) a w → Q .normal a w) : (Code.region id l.toArray true).wp P Q a0 w0 := by
  refine wp_region_any hm (wpAny_steadyX hcp hst hn hd hac (fun i o hi => by
    have := allOkX_spec l 0 hok i o (by simpa using hi)
    rwa [Nat.zero_add] at this) hQ _ _ _ _ (by simp) ?_ ?_)
  · refine Nat.le_trans (List.length_filter_le _ _) (by simp)
  · have hno : ∀ (i : Nat) (o : Oper), l.toArray[i]? = some o → ¬ (Array.replicate l.toArray.size false).getD i false = true := fun i o hi hl => by
      have hlt : i < l.length := by simpa using (Array.getElem?_eq_some_iff.1 hi).1
      simp [Array.getD_eq_getD_getElem?, hlt] at hl
    exact ⟨⟨Up.drew w0, rfl, rfl, fun _ _ => rfl, fun i o d hi hl => (hno i o hi hl).elim⟩, fun i o d _ hi hl => (hno i o hi hl).elim, fun i j oi oj di dj _ _ _ hi _ hl => (hno i oi hi hl).elim, fun i o d t hi hl => (hno i o hi hl).elim, fun i j o oj t hi hl => (hno i o hi hl).elim⟩
theorem act_lit (a : Act) (n : Nat) (h : a.tmps.size = n) : a = { tmps := ((List.range n).map fun t => a.tmps.getD t undef).toArray, defers := a.defers } := by
  subst h
  cases a with
  | mk tmps defers =>
    congr 1
    apply Array.toList_inj.1
    apply List.ext_getElem?
    intro i
    by_cases hi : i < tmps.size
    · simp [hi, Array.getD_eq_getD_getElem?]
    · simp [hi]
end
end Go.Proofs.Ythncpkjnalmpkaa
namespace Go.Proofs.Ythncpkjnalmpkaa
set_option linter.unusedVariables false
open Go Go.RowKit
theorem OwnI.up {k : IntKind} {E : TypeId} {base : Nat} {w w' : World} {A : Option Addr} {N c : Nat} {xs : List Int} (h : OwnI k E base w A N c xs) (hu : Up w w') : OwnI k E base w' A N c xs := by
  refine World.ownsRow.kept (row := some w.heap.size) h ⟨hu.os, hu.tape, hu.output, hu.size, fun i hi _ => hu.block i hi⟩ ?_
  right
  intro e
  have := (World.ownsRow.lt h _ e).2
  omega
theorem OwnI.other {k : IntKind} {E : TypeId} {base : Nat} {w : World} {g N c : Nat} {xs : List Int} (h : OwnI k E base w (some ⟨g, 0, none⟩) N c xs) {g' j : Nat} (hne : g ≠ g') (u : Value) : OwnI k E base (w.setCell ⟨g', j, none⟩ u) (some ⟨g, 0, none⟩) N c xs := by
  refine World.ownsRow.kept (row := some g') h ⟨rfl, rfl, rfl, by simp, fun i _ hi => heap_setCell_other w ⟨g', j, none⟩ i u (fun e => hi (by rw [e]))⟩ ?_
  right
  intro e
  simp [Value.ownBlock] at e
  exact hne e
theorem OwnI.mono {k : IntKind} {E : TypeId} {base base' : Nat} {w : World} {A : Option Addr} {N c : Nat} {xs : List Int} (h : OwnI k E base w A N c xs) (hb : base' ≤ base) : OwnI k E base' w A N c xs :=
  ⟨h.1, h.2.imp id fun ⟨g, cap, cur, h1, h2, h3⟩ => ⟨g, cap, cur, h1, Nat.le_trans hb h2, h3⟩⟩
section
variable {P : Program} {o : Oper} {a : Act} {w : World} {φ : Value → World → Prop}
/-- 'append' onto a slice without room: a row of its own. -/
theorem fine_appendNew (s x : Operand) (t : TypeId) (ho : o.op = .call { callee := .builtin .append, args := #[s, x], argTypes := #[t, t] }) (k : IntKind) (E : TypeId) (bytes : Nat) (ht : P.underlying t = some (.slice E))
    (hinfo : (P.info? E).map (fun i => (i.zero, i.size, i.bytes)) = some (some (.int k 0), 1, bytes)) (base : Nat) (A0 : Option Addr) (hs : a.eval s = .slice A0 0 0) (h0 : OwnI k E base w A0 0 0 [])
    (B : Option Addr) (m c : Nat) (ys : List Int) (hx : a.eval x = .slice B m c) (hl : ys.length = m) (hr : Cells w B (ints k ys)) (h63 : m ≤ 9223372036854775807) (hbytes : m * bytes ≤ 140737488355328) (hbase : base ≤ w.heap.size)
    (h : ∀ A' c' w', Up w w' → OwnI k E base w' A' m c' ys → (0 < m → NewBlk w (.slice A' m c') w') → φ (.slice A' m c') w') : Fine P o a w φ := by
  obtain ⟨i, hi, hz, hsz, hb⟩ := info_parts hinfo
  have hrun : ∃ A' c' w', (Builtin.append_ #[t, t] o.type #[.slice A0 0 0, .slice B m c]).run P w = .ok (.slice A' m c') w' ∧ Up w w' ∧ OwnI k E base w' A' m c' ys ∧ (0 < m → NewBlk w (.slice A' m c') w') := by
    rcases Nat.eq_zero_or_pos m with hm | hm
    · subst hm
      obtain rfl : ys = [] := List.eq_nil_of_length_eq_zero hl
      refine ⟨A0, 0, w, ?_, Up.refl w, h0, fun h => absurd h (Nat.lt_irrefl 0)⟩
      cases B with
      | none => cases A0 <;> simp [Builtin.append_, run_underlying ht, sizeOf, typeInfo, hi, Builtin.lenOf, Builtin.firstCells, storeCells]
      | some b =>
        obtain ⟨v', w', h1, h2, h3, h4⟩ : ∃ v' w', (Builtin.append_ #[t, t] o.type #[.slice A0 0 0, .slice (some b) 0 c]).run P w = .ok v' w' ∧ v' = .slice A0 0 0 ∧ w' = w ∧ True := by
          cases A0 <;> simp [Builtin.append_, run_underlying ht, sizeOf, typeInfo, hi, Builtin.lenOf, Builtin.firstCells, storeCells, loadCells, loadCellsFrom]
        rw [h1, h2, h3]
    · obtain ⟨b, off, rfl, hlt, hc⟩ := hr (by intro e; have := congrArg List.length e; rw [ints_length, List.length_nil] at this; omega)
      have hnews : ∀ (j : Nat) (u : Value), (ints k ys)[j]? = some u → w.cell? ((⟨b, off, none⟩ : Addr).add j) = some u := fun j u hu => by rw [add_flat]; exact hc j u hu
      have hgrow : ∃ v' w', (Builtin.append_ #[t, t] o.type #[.slice A0 0 0, .slice (some ⟨b, off, none⟩) m c]).run P w = .ok v' w' ∧ w'.ownsRow w.heap.size E 1 v' (0 + m) ([] ++ ints k ys) ∧ w.grownBy w' none := by
        cases A0 with
        | some g0 => exact run_append_arg_grows (P := P) w t o.type E i _ 1 bytes ht hi hz hsz hb rfl (by omega) g0 0 0 [] rfl (by simp) ⟨b, off, none⟩ m c (ints k ys) (by rw [ints_length]; omega) hnews (by omega) (by unfold maxLen; omega) (by simpa using hbytes)
        | none =>
          obtain ⟨v', w', h1, h2, h3, _⟩ := run_append_own (P := P) w w.heap.size t o.type E i _ 1 bytes ht hi hz hsz hb rfl (by omega) (.slice none 0 0) 0 [] (World.ownsRow_nil w _ E 1) ⟨b, off, none⟩ m c (ints k ys) (by rw [ints_length]; omega) hnews (ints_one k ys) (by unfold maxLen; omega) (by simpa using hbytes) (Nat.le_refl _)
          exact ⟨v', w', h1, h2, h3⟩
      obtain ⟨v', w', h1, h2, h3⟩ := hgrow
      obtain ⟨A', c', rfl⟩ := own_form h2
      rw [Nat.zero_add, List.nil_append] at h2
      rw [Nat.zero_add] at h1
      have hup : Up w w' := ⟨h3.os, h3.tape, h3.output, h3.size, fun i hi => h3.block i hi (by simp)⟩
      refine ⟨A', c', w', h1, hup, OwnI.mono h2 hbase, fun _ => ?_⟩
      obtain ⟨g, rfl, hg1, hg2⟩ := OwnI.at_ (k := k) (xs := ys) h2 hm
      exact ⟨hg1, hg2⟩
  obtain ⟨A', c', w', h1, h2, h3, h4⟩ := hrun
  refine fine_run (.slice A' m c') w' ?_ h2 (h A' c' w' h2 h3 h4)
  simp [execOp, ho, resolve, invoke, builtin, hs, hx, h1, Result.andThen]
/-- '[]T{}'. -/
theorem fine_slice0 (t : TypeId) (k : IntKind) (E : TypeId) (base : Nat) (ho : o.op = .buildSlice t 0 #[]) (hr : ∀ W : World, (execOp a.eval o).run P W = .ok (.value (.slice (some ⟨W.heap.size, 0, none⟩) 0 0)) (W.alloc (.cells #[] E))) (hb : base ≤ w.heap.size)
    (h : ∀ A w', Up w w' → OwnI k E base w' A 0 0 [] → φ (.slice A 0 0) w') : Fine P o a w φ :=
  fine_run _ _ (hr w) ((Below.refl _ _).alloc (Nat.le_refl _) _) (h _ _ ((Below.refl _ _).alloc (Nat.le_refl _) _) (ownI_newAt k E w hb))
theorem map_add0 (A : Option Addr) : A.map (·.add 0) = A := by cases A <;> simp [Addr.add]
/-- A slice that reads as these integers. -/
def IsI (k : IntKind) (xs : List Int) (v : Value) (w : World) : Prop := IsS w v (ints k xs)
theorem keeps_isI (k : IntKind) (xs : List Int) : Keeps (IsI k xs) := fun _ _ _ h hu => IsS.up h hu
theorem fine_sliceHi (x h : Operand) (T E : TypeId) (k : IntKind) (ht : P.underlying T = some (.slice E)) (hs1 : (P.info? E).map (·.size) = some 1) (xs : List Int) (n : Nat) (ho : o.op = .slice T x none (some h) none) (hx : IsI k xs (a.eval x) w) (hh : a.eval h = .int .i64 (n : Nat)) (hn : n ≤ xs.length)
    (hφ : ∀ A c, n ≤ c → Cells w A (ints k (xs.take n)) → φ (.slice A n c) w) : Fine P o a w φ := by
  obtain ⟨A, c, e, hc, hcl⟩ := hx
  rw [ints_length] at e hc
  have hel : P.elem T = E := by simp [Program.elem, ht]
  have hu : P.underlying T = some (.slice (P.elem T)) := by rw [hel]; exact ht
  have hsz : (sizeOf E).run P w = .ok 1 w := by
    cases hi : P.info? E with
    | none => rw [hi] at hs1; cases hs1
    | some i =>
      rw [hi] at hs1
      have : i.size = 1 := by simpa using hs1
      simp [sizeOf, typeInfo, hi, this]
  refine fine_quiet (.slice A n c) ?_ (hφ A c (by omega) ?_)
  · have hr := run_slice_h (P := P) w T A xs.length c hu .i64 (n : Int) (by omega) (by omega)
    rw [hel, hsz, ← run_sliceAt_slice (P := P) w T _ _ _ _ hu] at hr
    have e0 : (if c = 0 then A else A.map (·.add 0)) = A := by split; rfl; exact map_add0 A
    simp only [Result.andThen, sliced, Int.toNat_natCast, Nat.sub_zero, Nat.zero_mul, e0] at hr
    unfold execOp
    simp only [ho, Option.map_some, Option.map_none, e, hh]
    simp [hr, Result.andThen]
  · intro hne
    have := hcl.cut 0 n
    rw [map_add0, List.drop_zero] at this
    exact (show Cells w A (ints k (xs.take n)) by rw [show ints k (xs.take n) = (ints k xs).take n by simp [ints, List.map_take]]; exact this) hne
theorem fine_xor32 (tx ty : TypeId) (x y : Operand) (n m : Nat) (ho : o.op = .binOp .xor tx x y ty) (hx : a.eval x = .int .u32 (n : Int)) (hy : a.eval y = .int .u32 (m : Int)) (hn : n < 4294967296) (hm : m < 4294967296) (h : φ (.int .u32 ((n ^^^ m : Nat) : Int)) w) : Fine P o a w φ := by
  refine fine_bin .xor tx ty x y _ ho ?_ ?_ h
  · rw [hx, hy]; simp [go_sem]
  · rw [hx, hy, ← u32_xor_nat n m hn hm]; first | (simp [go_sem]; done) | rfl | (unfold binOp Op.intBits; rfl)
end
end Go.Proofs.Ythncpkjnalmpkaa
namespace Go.Proofs.Ythncpkjnalmpkaa
open Go Go.RowKit
set_option linter.unusedVariables false
theorem conv_I {P : Program} {T E S : TypeId} (hT : P.underlying T = some (.slice E)) (hE : P.underlying E = some (.int .u8)) (hS : P.underlying S = some .string) {xs : List Int} {v : Value} {w : World} (h : IsI .u8 xs v w) : (convert T S v).run P w = .ok (.string (strOfNums xs)) w := by
  obtain ⟨A, c, rfl, hc, hx⟩ := h
  rw [ints_length]
  by_cases hn : xs = []
  · subst hn
    cases A with
    | none => exact run_convert_bytes_nil w T E hT hE _ _ S hS
    | some a =>
      rw [run_convert_bytes_string w T S E _ _ c hT hE hS]
      have h0 : (loadCells a 0).run P w = .ok #[] w := by simpa using run_loadCells_list (P := P) w a [] (by simp)
      exact run_bytesToString w a 0 c [] (by simpa using h0)
  · obtain ⟨b, o, rfl, hlt, hcl⟩ := hx (by simpa [ints] using hn)
    refine run_convert_bytes_arg w T E hT hE b o _ c xs rfl (fun i hi => ?_) S hS
    refine hcl i _ ?_
    simp [ints, List.getD, hi]
theorem InB.isI {w : World} {A : Option Addr} {n c : Nat} {xs : List Int} (h : InB w A n c xs) : IsI .u8 xs (.slice A n c) w := ⟨A, c, by rw [ints_length, h.len], by rw [ints_length, h.len]; exact h.cap, h.cells⟩
theorem OwnI.isI {k : IntKind} {E : TypeId} {base : Nat} {w : World} {A : Option Addr} {N c : Nat} {xs : List Int} (h : OwnI k E base w A N c xs) : IsI k xs (.slice A N c) w := h.isS
end Go.Proofs.Ythncpkjnalmpkaa
