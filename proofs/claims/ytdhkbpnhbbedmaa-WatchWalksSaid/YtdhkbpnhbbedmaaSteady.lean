import Derived.WalkKit
import Derived.Orders
import Derived.Deep.Draws
import Derived.Laws.CopyOwn
import Derived.Laws.BytesArg
import Derived.KernelRfl
import Derived.Lib.Hide
import Derived.OpenShut
import Derived.Laws.OwnMore
import Derived.MapKept
import Derived.Laws.Rows
import Derived.Laws.IdiomCopy
namespace Go.Proofs.Ytdhkbpnhbbedmaa
open Go Go.RowKit

/-- Nothing that was there has turned. -/
def Up (w w' : World) : Prop := Below w.heap.size w w'
theorem Up.refl (w : World) : Up w w := Below.refl _ _
theorem Up.trans {a b c : World} (h : Up a b) (k : Up b c) : Up a c := Below.trans h (Below.mono k h.size)
theorem Up.drew (w : World) : Up w w.drew := (Below.refl _ _).drew

/-- No way out but the normal one. -/
def NoExit : Exit → Act → World → Prop := fun _ _ _ => False

theorem Oper.wp_mono2 {P : Program} {o : Oper} {a : Act} {w : World} {K K' : Act → World → Prop} {Q : Exit → Act → World → Prop}
    (h : ∀ a w, K a w → K' a w) (hh : o.wp P a w K NoExit) : o.wp P a w K' Q := by
  unfold Oper.wp at *
  generalize (execOp a.eval o).run P w = r at *
  cases r with
  | ok n w' =>
    cases n <;> simp only [Oper.upon] at hh ⊢
    case value u => exact h _ _ hh
    case skip => exact h _ _ hh
    case defer d => exact h _ _ hh
    case enter f args =>
      refine Calls.mono hh fun e w'' he => ?_
      cases e with
      | returned u => exact h _ _ he
      | panicked c => exact (he : False).elim
      | outgrown => obtain ⟨_, _, hf⟩ := (he : LetsOut NoExit); exact hf.elim
    case row row args => exact Rows.mono hh fun u w'' he => h _ _ he
  | halt x w' =>
    cases x <;> simp only [Oper.upon] at hh ⊢
    case panic u => exact (hh : False).elim

section
variable (P : Program) (ops : Array Oper) (Φ : Nat → Value → World → Prop) (a0 : Act) (w0 : World)

/-- No operation writes this slot. -/
def oldB (t : Tmp) : Bool := ops.toList.all fun o => o.dst != some t
/-- What is known while a region runs in whatever order. -/
structure RInv (listed : Array Bool) (a : Act) (w : World) : Prop where
  world : Up w0 w
  size : a.tmps.size = a0.tmps.size
  defers : a.defers = a0.defers
  old : ∀ t, oldB ops t = true → a.tmps.getD t undef = a0.tmps.getD t undef
  facts : ∀ (i : Nat) (o : Oper) (d : Tmp), ops[i]? = some o → listed.getD i false = true → o.dst = some d → Φ i (a.tmps.getD d undef) w

/-- What is asked of one operation: from the facts on what it waits for, its own. -/
def OpOk (i : Nat) (o : Oper) : Prop :=
  ∀ (a : Act) (w : World), Up w0 w → a.tmps.size = a0.tmps.size →
    (∀ t, oldB ops t = true → a.tmps.getD t undef = a0.tmps.getD t undef) →
    (∀ (j : Nat) (oj : Oper) (d : Tmp), (o.after.toList.any fun e => e.on == j && Region.binds .any e) = true → ops[j]? = some oj → oj.dst = some d → Φ j (a.tmps.getD d undef) w) →
    if Region.wanted o (yielded ops a.tmps) then o.wp P a w (fun a' w' => Up w w' ∧ ∃ v, a' = a.put o.dst v ∧ Φ i v w') NoExit else Φ i undef w

/-- Nobody waits for one behind it. -/
def acyclicB : Bool := (List.range ops.size).all fun i => ((ops[i]?).map fun o => o.after.all fun e => decide (e.on < i)).getD true
/-- Each writes a slot of its own, that is there. -/
def dstB (n : Nat) : Bool := let l := ops.toList.filterMap (·.dst); l.all (fun d => decide (d < n)) && decide (l.Pairwise (· ≠ ·))

end

section
variable {P : Program} {ops : Array Oper} {Φ : Nat → Value → World → Prop} {a0 : Act} {w0 : World}

theorem acyclic_spec (h : acyclicB ops = true) {i : Nat} {o : Oper} (hi : ops[i]? = some o) : ∀ e ∈ o.after, e.on < i := by
  intro e he
  unfold acyclicB at h
  rw [List.all_eq_true] at h
  have hlt : i < ops.size := (Array.getElem?_eq_some_iff.1 hi).1
  have h1 := h i (List.mem_range.2 hlt)
  simp only [hi, Option.map_some, Option.getD_some] at h1
  rw [Array.all_eq_true_iff_forall_mem] at h1
  simpa using h1 e he

theorem pairwise_dst : ∀ (l : List Oper), (l.filterMap (·.dst)).Pairwise (· ≠ ·) → ∀ (i j : Nat) (oi oj : Oper) (d : Tmp), l[i]? = some oi → l[j]? = some oj → oi.dst = some d → oj.dst = some d → i = j := by
  intro l
  induction l with
  | nil => intro _ i j oi oj d hi; simp at hi
  | cons x l ih =>
    intro hp i j oi oj d hi hj di dj
    have hmem : ∀ (k : Nat) (o : Oper), l[k]? = some o → o.dst = some d → d ∈ l.filterMap (·.dst) := fun k o hk ho =>
      List.mem_filterMap.2 ⟨o, List.mem_of_getElem? hk, ho⟩
    have htail : (l.filterMap (·.dst)).Pairwise (· ≠ ·) := by
      rw [List.filterMap_cons] at hp
      split at hp
      · exact hp
      · exact (List.pairwise_cons.1 hp).2
    have hhead : x.dst = some d → d ∉ l.filterMap (·.dst) := fun hx hm => by
      rw [List.filterMap_cons, hx] at hp
      exact (List.pairwise_cons.1 hp).1 d hm rfl
    match i, j with
    | 0, 0 => rfl
    | 0, j + 1 =>
      simp at hi hj; subst hi
      exact (hhead di (hmem j oj hj dj)).elim
    | i + 1, 0 =>
      simp at hi hj; subst hj
      exact (hhead dj (hmem i oi hi di)).elim
    | i + 1, j + 1 =>
      simp at hi hj
      rw [ih htail i j oi oj d hi hj di dj]

theorem dst_spec {n : Nat} (h : dstB ops n = true) {i : Nat} {oi : Oper} {d : Tmp} (hi : ops[i]? = some oi) (di : oi.dst = some d) :
    d < n ∧ ∀ j oj, ops[j]? = some oj → oj.dst = some d → i = j := by
  unfold dstB at h
  simp only [Bool.and_eq_true, List.all_eq_true, decide_eq_true_eq] at h
  refine ⟨h.1 d (List.mem_filterMap.2 ⟨oi, ?_, di⟩), fun j oj hj dj => ?_⟩
  · rw [Array.mem_toList_iff]; exact Array.mem_of_getElem? hi
  · exact pairwise_dst ops.toList h.2 i j oi oj d (by simpa using hi) (by simpa using hj) di dj

theorem getD_put_same {a : Act} {d : Tmp} (v : Value) (h : d < a.tmps.size) : (a.put (some d) v).tmps.getD d undef = v := by
  simp [Act.put, Array.getD_eq_getD_getElem?, h]
theorem getD_put_ne {a : Act} {o : Option Tmp} {t : Tmp} (v : Value) (h : o ≠ some t) : (a.put o v).tmps.getD t undef = a.tmps.getD t undef := by
  cases o with
  | none => rfl
  | some d =>
    have hne : d ≠ t := fun e => h (e ▸ rfl)
    simp [Act.put, Array.getD_eq_getD_getElem?, Array.getElem?_setIfInBounds_ne hne]
theorem size_put {a : Act} {o : Option Tmp} (v : Value) : (a.put o v).tmps.size = a.tmps.size := by cases o <;> simp [Act.put]
theorem defers_put {a : Act} {o : Option Tmp} (v : Value) : (a.put o v).defers = a.defers := by cases o <;> rfl

theorem old_spec {t : Tmp} (h : oldB ops t = true) {i : Nat} {o : Oper} (hi : ops[i]? = some o) : o.dst ≠ some t := by
  unfold oldB at h
  rw [List.all_eq_true] at h
  have := h o (by rw [Array.mem_toList_iff]; exact Array.mem_of_getElem? hi)
  simpa using this
theorem RInv.step (hst : ∀ i v w w', Φ i v w → Up w w' → Φ i v w') {n : Nat} (hn : a0.tmps.size = n) (hd : dstB ops n = true) {listed : Array Bool} {a : Act} {w : World} (h : RInv ops Φ a0 w0 listed a w) {i : Nat} {o : Oper} (hi : ops[i]? = some o) {v : Value} {w' : World} (hu : Up w w') (hv : Φ i v w') :
    RInv ops Φ a0 w0 (listed.setIfInBounds i true) (a.put o.dst v) w' := by
  refine ⟨h.world.trans hu, by rw [size_put]; exact h.size, by rw [defers_put]; exact h.defers, fun t ht => ?_, fun j oj d hj hl dj => ?_⟩
  · rw [getD_put_ne v (old_spec ht hi)]; exact h.old t ht
  · by_cases hji : i = j
    · subst hji
      obtain rfl : o = oj := by rw [hi] at hj; exact Option.some.inj hj
      have hlt := (dst_spec hd hi dj).1
      rw [dj, getD_put_same v (by rw [h.size, hn]; exact hlt)]
      exact hv
    · have hne : o.dst ≠ some d := fun e => hji ((dst_spec hd hi e).2 j oj hj dj)
      rw [getD_put_ne v hne]
      refine hst j _ _ _ (h.facts j oj d hj ?_ dj) hu
      simpa [Array.getD_eq_getD_getElem?, Array.getElem?_setIfInBounds_ne hji] using hl

theorem ready_of_unlisted (hac : acyclicB ops = true) {md : Region.Mode} {listed : Array Bool} (hs : listed.size = ops.size) :
    Region.ready md ops listed = [] → ∀ i, i < ops.size → listed.getD i false = true := by
  intro hr i
  induction i using Nat.strongRecOn with
  | _ i ih =>
    intro hi
    cases hc : listed.getD i false with
    | true => rfl
    | false =>
      exfalso
      have hm : i ∈ Region.ready md ops listed := by
        rw [mem_ready]
        refine ⟨?_, ops[i], by simp [hi], fun e he _ => ?_⟩
        · have : i < listed.size := by omega
          simpa [Array.getD_eq_getD_getElem?, this] using hc
        · have := acyclic_spec hac (i := i) (o := ops[i]) (by simp [hi]) e he
          exact ih e.on this (by omega)
      rw [hr] at hm
      cases hm

theorem wpAny_steady (hst : ∀ i v w w', Φ i v w → Up w w' → Φ i v w') {n : Nat} (hn : a0.tmps.size = n) (hd : dstB ops n = true) (hac : acyclicB ops = true)
    {Q : Exit → Act → World → Prop} (hok : ∀ i o, ops[i]? = some o → OpOk P ops Φ a0 w0 i o)
    (hQ : ∀ a w, RInv ops Φ a0 w0 (Array.replicate ops.size true) a w → Q .normal a w) :
    ∀ (fuel : Nat) (listed : Array Bool) (a : Act) (w : World), listed.size = ops.size → (listed.toList.filter (! ·)).length ≤ fuel → RInv ops Φ a0 w0 listed a w →
      wpAny P .any ops Q fuel listed a w := by
  have hfin : ∀ (listed : Array Bool) (a : Act) (w : World), listed.size = ops.size → RInv ops Φ a0 w0 listed a w → Region.ready .any ops listed = [] → Q .normal a w := by
    intro listed a w hs hI hr
    have hall := ready_of_unlisted hac hs hr
    refine hQ a w ⟨hI.world, hI.size, hI.defers, hI.old, fun i o d hi _ hdd => hI.facts i o d hi (hall i (Array.getElem?_eq_some_iff.1 hi).1) hdd⟩
  intro fuel
  induction fuel with
  | zero =>
    intro listed a w hs hc hI
    have hr : Region.ready .any ops listed = [] := by
      rcases List.eq_nil_or_concat (Region.ready .any ops listed) with h | ⟨l, i, h⟩
      · exact h
      · exfalso
        have hm : i ∈ Region.ready .any ops listed := by rw [h]; simp
        obtain ⟨h0, o, hi, _⟩ := mem_ready.1 hm
        have hlt : i < listed.size := by rw [hs]; exact (Array.getElem?_eq_some_iff.1 hi).1
        have : listed.toList.filter (! ·) = [] := List.eq_nil_of_length_eq_zero (by omega)
        have hf : listed[i] = false := by simpa [Array.getD_eq_getD_getElem?, hlt] using h0
        have hmem : false ∈ listed.toList.filter (! ·) := List.mem_filter.2 ⟨by rw [← hf]; simp, rfl⟩
        rw [this] at hmem
        cases hmem
    exact ⟨hr, hfin listed a w hs hI hr⟩
  | succ fuel ih =>
    intro listed a w hs hc hI
    refine ⟨hfin listed a w hs hI, fun i hi => ?_⟩
    obtain ⟨h0, o, ho, hall⟩ := mem_ready.1 hi
    have hlt : i < listed.size := by rw [hs]; exact (Array.getElem?_eq_some_iff.1 ho).1
    have hlf : listed[i] = false := by simpa [Array.getD_eq_getD_getElem?, hlt] using h0
    have hcount : ((listed.setIfInBounds i true).toList.filter (! ·)).length ≤ fuel := by
      have hx : ∀ (l : List Bool) (k : Nat), l[k]? = some false → ((l.set k true).filter (! ·)).length + 1 = (l.filter (! ·)).length := by
        intro l
        induction l with
        | nil => intro k hk; simp at hk
        | cons b l ih2 =>
          intro k hk
          cases k with
          | zero => simp at hk; subst hk; simp
          | succ k =>
            simp at hk
            have := ih2 k hk
            cases b <;> simp [this] <;> omega
      have := hx listed.toList i (by simp [hlt, hlf])
      rw [Array.toList_setIfInBounds]
      omega
    have hok' := hok i o ho a w hI.world hI.size hI.old (fun j oj d hj hoj hdj => hI.facts j oj d hoj (by
      rw [List.any_eq_true] at hj
      obtain ⟨x, hx, h2⟩ := hj
      simp only [Bool.and_eq_true, beq_iff_eq] at h2
      have := hall x (by simpa using hx) h2.2
      rwa [h2.1] at this) hdj)
    unfold wpOp
    simp only [ho]
    split
    · rename_i hw
      simp only [hw, if_true] at hok'
      refine .inl (Oper.wp_mono2 (fun a' w' ⟨hu, v, ha, hv⟩ => ?_) hok')
      subst ha
      exact ih _ _ _ (by simpa using hs) hcount (hI.step hst hn hd ho hu hv)
    · rename_i hw
      simp only [hw] at hok'
      exact ih _ _ _ (by simpa using hs) hcount (hI.step hst hn hd ho (Up.refl w) hok')

/-- **A region that draws its order, whose operations only make new memory: one obligation an operation.** -/
theorem steady {id : Nat} (hm : P.follows .mixedOrders = true) (Φ : Nat → Value → World → Prop) (hst : ∀ i v w w', Φ i v w → Up w w' → Φ i v w') (n : Nat) (hn : a0.tmps.size = n) (hd : dstB ops n = true) (hac : acyclicB ops = true)
    {Q : Exit → Act → World → Prop} (hok : ∀ i o, ops[i]? = some o → OpOk P ops Φ a0 w0 i o)
    (hQ : ∀ a w, RInv ops Φ a0 w0 (Array.replicate ops.size true) a w → Q .normal a w) : (Code.region id ops true).wp P Q a0 w0 := by
  refine wp_region_any hm (wpAny_steady hst hn hd hac hok hQ _ _ _ _ (by simp) ?_ ?_)
  · refine Nat.le_trans (List.length_filter_le _ _) (by simp)
  · exact ⟨Up.drew w0, rfl, rfl, fun _ _ => rfl, fun i o d hi hl => by
      have hlt := (Array.getElem?_eq_some_iff.1 hi).1
      simp [Array.getD_eq_getD_getElem?, hlt] at hl⟩
end
end Go.Proofs.Ytdhkbpnhbbedmaa
namespace Go.Proofs.Ytdhkbpnhbbedmaa
open Go Go.RowKit

/-- A byte as the model keeps it. -/
def byte (u : UInt8) : Value := .int .u8 (u.toNat : Int)
/-- The elements that a slice's address leads to. -/
def Cells (w : World) (A : Option Addr) (xs : List Value) : Prop :=
  xs ≠ [] → ∃ b o, A = some ⟨b, o, none⟩ ∧ b < w.heap.size ∧ ∀ j u, xs[j]? = some u → w.cell? ⟨b, o + j, none⟩ = some u
/-- A slice value that reads as these elements, of one cell each. -/
def IsS (w : World) (v : Value) (xs : List Value) : Prop := ∃ A c, v = .slice A xs.length c ∧ xs.length ≤ c ∧ Cells w A xs
/-- A slice of bytes that reads so. -/
def IsB (w : World) (v : Value) (l : List UInt8) : Prop := IsS w v (l.map byte)

theorem Cells.up {w w' : World} {A : Option Addr} {xs : List Value} (h : Cells w A xs) (hb : Below w.heap.size w w') : Cells w' A xs := fun hx => by
  obtain ⟨b, o, e, hlt, hc⟩ := h hx
  exact ⟨b, o, e, Nat.lt_of_lt_of_le hlt hb.size, fun j u hu => (hb.cell (p := ⟨b, o + j, none⟩) hlt).trans (hc j u hu)⟩
theorem IsS.up {w w' : World} {v : Value} {xs : List Value} (h : IsS w v xs) (hb : Below w.heap.size w w') : IsS w' v xs := by
  obtain ⟨A, c, e, hc, hx⟩ := h
  exact ⟨A, c, e, hc, hx.up hb⟩
theorem Cells.nil (w : World) (A : Option Addr) : Cells w A [] := fun h => absurd rfl h
theorem add_flat (b o j : Nat) : (⟨b, o, none⟩ : Addr).add j = ⟨b, o + j, none⟩ := by unfold Addr.add; split <;> simp_all
theorem IsS.of_own {w : World} {base : Nat} {e : TypeId} {v : Value} {n : Nat} {xs : List Value} (h : w.ownsRow base e 1 v n xs) : IsS w v xs := by
  have hl : xs.length = n := by simpa using h.1
  rcases h.2 with ⟨rfl, rfl⟩ | ⟨g, cap, cur, rfl, hb, hg, hn, hc, hs, ht⟩
  · have : xs = [] := List.eq_nil_of_length_eq_zero hl
    subst this
    exact ⟨none, 0, rfl, Nat.le_refl _, Cells.nil _ _⟩
  · refine ⟨some ⟨g, 0, none⟩, cap, by rw [hl], by omega, fun _ => ⟨g, 0, rfl, (Array.getElem?_eq_some_iff.1 hg).1, fun j u hu => ?_⟩⟩
    have := h.cells (g := g) rfl j u hu
    rwa [add_flat] at this

/-- append of elements of one cell, nil or not, onto a row of the call's own. -/
theorem run_append_S {P : Program} (w : World) (base : Nat) (t ty e : TypeId) (z : Value) (bytes : Nat) (ht : P.underlying t = some (.slice e)) (hinfo : (P.info? e).map (fun i => (i.zero, i.size, i.bytes)) = some (some z, 1, bytes)) (hz1 : z.cells.size = 1)
    (v : Value) (n : Nat) (xs : List Value) (hown : w.ownsRow base e 1 v n xs) (A : Option Addr) (m c : Nat) (news : List Value) (hl : news.length = m) (hr : Cells w A news) (h1 : ∀ u ∈ news, u.oneCell' = true)
    (h63 : n + m ≤ maxLen) (hbytes : (n + m) * bytes ≤ 140737488355328) (hbase : base ≤ w.heap.size) :
    ∃ v' w', (Builtin.append_ #[t, t] ty #[v, .slice A m c]).run P w = .ok v' w' ∧ w'.ownsRow base e 1 v' (n + m) (xs ++ news) ∧ w.grownBy w' v.ownBlock := by
  obtain ⟨i, hi, hz, hs, hb⟩ := info_parts hinfo
  cases A with
  | none =>
    have hn : news = [] := by
      cases news with
      | nil => rfl
      | cons x l => obtain ⟨b, o, e, _⟩ := hr (by simp); cases e
    subst hn
    simp at hl
    subst hl
    refine ⟨v, w, ?_, by simpa using hown, World.grownBy.refl w _⟩
    rcases hown.2 with ⟨rfl, rfl⟩ | ⟨g, cap, cur, rfl, _, _, hnc, _⟩
    · simp [Builtin.append_, run_underlying ht, sizeOf, typeInfo, hi, Builtin.lenOf, Builtin.firstCells]
    · simp [Builtin.append_, run_underlying ht, sizeOf, typeInfo, hi, Builtin.lenOf, Builtin.firstCells, hnc, storeCells]
  | some ad =>
    have hcells : ∀ j u, news[j]? = some u → w.cell? (ad.add j) = some u := fun j u hu => by
      obtain ⟨b, o, e, _, hc⟩ := hr (by intro h; rw [h] at hu; simp at hu)
      injection e with e
      subst e
      rw [add_flat]
      exact hc j u hu
    obtain ⟨v', w', hrun, h2, h3, _⟩ := run_append_own (P := P) w base t ty e i z 1 bytes ht hi hz hs hb hz1 (by omega) v n xs hown ad m c news (by omega) hcells h1 h63 hbytes hbase
    exact ⟨v', w', hrun, h2, h3⟩

theorem own_form {w : World} {base : Nat} {e : TypeId} {v : Value} {n : Nat} {xs : List Value} (h : w.ownsRow base e 1 v n xs) : ∃ A c, v = .slice A n c := by
  rcases h.2 with ⟨rfl, rfl⟩ | ⟨g, cap, cur, rfl, _⟩
  · exact ⟨_, _, rfl⟩
  · exact ⟨_, _, rfl⟩

theorem wpList_wanted {P : Program} {w : World} {ops : Array Oper} {rest : List Oper} {o : Oper} {a : Act} {Q : Exit → Act → World → Prop} (hw : Region.wanted o (yielded ops a.tmps) = true)
    (h : ∀ K : Act → World → Prop, (∀ a w, wpList P ops Q rest a w → K a w) → o.wp P a w K Q) : wpList P ops Q (o :: rest) a w :=
  wpList_step fun K hK => by rw [if_pos hw]; exact h K hK
theorem wpList_appendS {P : Program} {w w0 : World} {ops : Array Oper} {rest : List Oper} {o : Oper} {a : Act} {Q : Exit → Act → World → Prop} (hgd : Region.wanted o (yielded ops a.tmps) = true) (s x : Operand) (t : TypeId)
    (ho : o.op = .call { callee := .builtin .append, args := #[s, x], argTypes := #[t, t] }) (base : Nat) (e : TypeId) (z : Value) (bytes : Nat) (ht : P.underlying t = some (.slice e))
    (hinfo : (P.info? e).map (fun i => (i.zero, i.size, i.bytes)) = some (some z, 1, bytes)) (hz1 : z.cells.size = 1)
    (A0 : Option Addr) (n c0 : Nat) (xs : List Value) (hs : a.eval s = .slice A0 n c0) (hown : w.ownsRow base e 1 (.slice A0 n c0) n xs)
    (A : Option Addr) (m c : Nat) (news : List Value) (hx : a.eval x = .slice A m c) (hl : news.length = m) (hr : Cells w A news) (h1 : ∀ u ∈ news, u.oneCell' = true)
    (h63 : n + m ≤ maxLen) (hbytes : (n + m) * bytes ≤ 140737488355328) (hbase : base ≤ w.heap.size) (hb : Below base w0 w)
    (h : ∀ A' c' w', w'.ownsRow base e 1 (.slice A' (n + m) c') (n + m) (xs ++ news) → Below base w0 w' → base ≤ w'.heap.size → wpList P ops Q rest (a.put o.dst (.slice A' (n + m) c')) w') : wpList P ops Q (o :: rest) a w := by
  refine wpList_wanted hgd fun K hK => ?_
  obtain ⟨v', w', hrun, h2, h3⟩ := run_append_S (P := P) w base t o.type e z bytes ht hinfo hz1 _ n xs hown A m c news hl hr h1 h63 hbytes hbase
  obtain ⟨A', c', rfl⟩ := own_form h2
  unfold Oper.wp execOp
  simp only [ho, resolve, invoke, builtin, Sem.run_bind, Sem.run_pure, Result.andThen_ok, List.map_toArray, List.map_cons, List.map_nil, hs, hx, hrun]
  exact hK _ _ (h A' c' w' h2 (hb.grown h3 hbase fun k hk => (hown.lt k hk).1) (Nat.le_trans hbase h3.size))
theorem cells_new (w : World) (x : Value) (e : TypeId) (b : Nat) (hb : b = w.heap.size) : Cells (w.alloc (.cells #[x] e)) (some ⟨b, 0, none⟩) [x] := by
  subst hb
  refine fun _ => ⟨w.heap.size, 0, rfl, by simp, fun j u hu => ?_⟩
  cases j with
  | zero => simp at hu; subst hu; rw [cell_of_row _ _ _ _ _ _ (heap_alloc_new w _)]; rfl
  | succ j => simp at hu
theorem Cells.alloc {w : World} {A : Option Addr} {xs : List Value} (h : Cells w A xs) (o : Obj) : Cells (w.alloc o) A xs := h.up ((Below.refl _ _).alloc (Nat.le_refl _) o)
theorem Cells.cut {w : World} {A : Option Addr} {xs : List Value} (h : Cells w A xs) (a n : Nat) : Cells w (A.map (·.add a)) ((xs.drop a).take n) := fun hne => by
  obtain ⟨b, o, rfl, hlt, hc⟩ := h (by intro e; rw [e] at hne; simp at hne)
  refine ⟨b, o + a, by rw [Option.map_some, add_flat], hlt, fun j u hu => ?_⟩
  rw [List.getElem?_take] at hu
  split at hu
  · rw [List.getElem?_drop] at hu
    rw [Nat.add_assoc]
    exact hc _ u hu
  · cases hu
end Go.Proofs.Ytdhkbpnhbbedmaa
namespace Go.Proofs.Ytdhkbpnhbbedmaa
open Go Go.RowKit

section
variable {P : Program} {o : Oper} {a : Act} {w : World} {φ : Value → World → Prop}
/-- The operation ends, makes new memory alone, and what it yields is good. -/
def Fine (P : Program) (o : Oper) (a : Act) (w : World) (φ : Value → World → Prop) : Prop := o.wp P a w (fun a' w' => Up w w' ∧ ∃ v, a' = a.put o.dst v ∧ φ v w') NoExit
theorem fine_run (v : Value) (w' : World) (h : (execOp a.eval o).run P w = .ok (.value v) w') (hu : Up w w') (hv : φ v w') : Fine P o a w φ := by
  unfold Fine Oper.wp
  rw [h]
  exact ⟨hu, v, rfl, hv⟩
theorem fine_quiet (v : Value) (h : (execOp a.eval o).run P w = .ok (.value v) w) (hv : φ v w) : Fine P o a w φ := fine_run v w h (Up.refl w) hv
/-- What is asked of a call. -/
def Gives (P : Program) (f : FuncId) (args : Array Value) (w : World) (φ : Value → World → Prop) : Prop :=
  Calls P f args w fun e w' => Up w w' ∧ ∃ v, e = .returned v ∧ φ v w'
theorem fine_call (f : FuncId) (args : Array Value) (h : (execOp a.eval o).run P w = .ok (.enter f args) w) (hc : Gives P f args w φ) : Fine P o a w φ := by
  unfold Fine Oper.wp
  rw [h]
  refine Calls.mono hc fun e w' ⟨hu, v, he, hv⟩ => ?_
  subst he
  exact ⟨hu, v, rfl, hv⟩

theorem fine_move (x : Operand) (ho : o.op = .move x) (h : φ (a.eval x) w) : Fine P o a w φ := fine_quiet _ (by simp [execOp, ho]) h
theorem fine_assign (x : Operand) (ho : o.op = .assign x) (h : φ (a.eval x) w) : Fine P o a w φ := fine_quiet _ (by simp [execOp, ho]) h
/-- Function f has a body of its own. -/
def plainFn (P : Program) (f : FuncId) : Bool := match P.funcs[f]? with | some fn => !(fn.name == "runtime.NumGoroutine") && !fn.body.isNone | none => false
theorem fine_fcall (f : FuncId) (xs : List Operand) (tys : Array TypeId) (ho : o.op = .call { callee := .value (.func f), args := xs.toArray, argTypes := tys }) (hf : plainFn P f = true) (h : Gives P f (xs.map a.eval).toArray w φ) : Fine P o a w φ :=
  fine_call f _ (by
    unfold plainFn at hf
    split at hf
    · rename_i fn hfn
      simp only [Bool.and_eq_true, Bool.not_eq_true'] at hf
      have h1 : fn.name ≠ "runtime.NumGoroutine" := by simpa using hf.1
      have h2 : fn.body ≠ none := by intro e; rw [e] at hf; simp at hf
      simp [execOp, ho, resolve, invoke, Act.eval, Deferred.ofValue, callFunc, Result.andThen, hfn, h1, h2]
    · cases hf) h
theorem fine_convert (src dst : TypeId) (x : Operand) (v : Value) (ho : o.op = .convert src dst x) (hr : (convert src dst (a.eval x)).run P w = .ok v w) (h : φ v w) : Fine P o a w φ :=
  fine_quiet v (by simp [execOp, ho, hr, Result.andThen]) h
theorem fine_pick (c x y : Operand) (b : Bool) (ho : o.op = .pick c x y) (hc : a.eval c = .bool b) (h : φ (if b then a.eval x else a.eval y) w) : Fine P o a w φ :=
  fine_quiet _ (by simp [execOp, ho, hc, asBool]) h
theorem fine_bin (op : BinOp) (tx ty : TypeId) (x y : Operand) (v : Value) (ho : o.op = .binOp op tx x y ty) (hg : (eqGuard op tx x y (a.eval x) (a.eval y)).run P w = .ok () w) (hr : (binOp op tx (a.eval x) (a.eval y)).run P w = .ok v w) (h : φ v w) : Fine P o a w φ :=
  fine_quiet v (by simp [execOp, ho, hg, hr, Result.andThen]) h

theorem fine_eqs (tx ty : TypeId) (x y : Operand) (s t : ByteArray) (b : Bool) (ho : o.op = .binOp .eql tx x y ty) (hx : a.eval x = .string s) (hy : a.eval y = .string t) (hb : (s.toList == t.toList) = b) (h : φ (.bool b) w) : Fine P o a w φ := by
  refine fine_bin .eql tx ty x y _ ho ?_ ?_ h
  · rw [hx, hy]; simp [go_sem]
  · rw [hx, hy, ← hb]; simp [go_sem]
theorem fine_eqi (tx ty : TypeId) (x y : Operand) (k : IntKind) (n m : Int) (b : Bool) (ho : o.op = .binOp .eql tx x y ty) (hx : a.eval x = .int k n) (hy : a.eval y = .int k m) (hb : (n == m) = b) (h : φ (.bool b) w) : Fine P o a w φ := by
  refine fine_bin .eql tx ty x y _ ho ?_ ?_ h
  · rw [hx, hy]; simp [go_sem]
  · rw [hx, hy, ← hb]; simp [go_sem]
theorem fine_len (x : Operand) (t e : TypeId) (A : Option Addr) (n c : Nat) (ho : o.op = .call { callee := .builtin .len, args := #[x], argTypes := #[t] }) (ht : P.underlying t = some (.slice e)) (hx : a.eval x = .slice A n c) (h : φ (.int .i64 n) w) : Fine P o a w φ := by
  refine fine_quiet (.int .i64 n) ?_ h
  simp [execOp, ho, resolve, invoke, builtin, hx, Builtin.len_, Result.andThen, run_underlying ht, goInt]

variable {ops : Array Oper} {Φ : Nat → Value → World → Prop} {a0 : Act} {w0 : World} {i : Nat}
theorem opOk_plain (hg : o.guard = none)
    (h : ∀ (a : Act) (w : World), Up w0 w → (∀ t, oldB ops t = true → a.tmps.getD t undef = a0.tmps.getD t undef) →
      (∀ (j : Nat) (oj : Oper) (d : Tmp), (o.after.toList.any fun e => e.on == j && Region.binds .any e) = true → ops[j]? = some oj → oj.dst = some d → Φ j (a.tmps.getD d undef) w) → Fine P o a w (Φ i)) : OpOk P ops Φ a0 w0 i o := by
  intro a w hu _ ho hd
  rw [if_pos (by simp [Region.wanted, hg])]
  exact h a w hu ho hd
theorem yielded_of {tmps : Array Value} {j : Nat} {oj : Oper} {d : Tmp} {b : Bool} (hj : ops[j]? = some oj) (hd : oj.dst = some d) (h : tmps.getD d undef = .bool b) : yielded ops tmps j = some b := by
  have hs : tmps[d]? = some (.bool b) := by
    rw [Array.getD_eq_getD_getElem?] at h
    cases hx : tmps[d]? with
    | none => rw [hx] at h; simp [undef] at h
    | some x => rw [hx] at h; simp at h; rw [h]
  simp [yielded, hj, hd, hs]
theorem opOk_guard (j : Nat) (b : Bool) (oj : Oper) (d : Tmp) (hg : o.guard = some (j, b)) (hin : (o.after.toList.any fun e => e.on == j && Region.binds .any e) = true) (hj : ops[j]? = some oj) (hdj : oj.dst = some d) (hv : ∀ v w, Φ j v w → v = .bool b)
    (h : ∀ (a : Act) (w : World), Up w0 w → (∀ t, oldB ops t = true → a.tmps.getD t undef = a0.tmps.getD t undef) →
      (∀ (j : Nat) (oj : Oper) (d : Tmp), (o.after.toList.any fun e => e.on == j && Region.binds .any e) = true → ops[j]? = some oj → oj.dst = some d → Φ j (a.tmps.getD d undef) w) → Fine P o a w (Φ i)) : OpOk P ops Φ a0 w0 i o := by
  intro a w hu _ ho hd
  have hy := yielded_of (tmps := a.tmps) hj hdj (hv _ w (hd j oj d hin hj hdj))
  rw [if_pos (by simp [Region.wanted, hg, hy])]
  exact h a w hu ho hd

/-- The list of obligations. -/
def AllOk (P : Program) (ops : Array Oper) (Φ : Nat → Value → World → Prop) (a0 : Act) (w0 : World) : Nat → List Oper → Prop
  | _, [] => True
  | k, o :: l => OpOk P ops Φ a0 w0 k o ∧ AllOk P ops Φ a0 w0 (k + 1) l
theorem allOk_spec : ∀ (l : List Oper) (k : Nat), AllOk P ops Φ a0 w0 k l → ∀ i o, l[i]? = some o → OpOk P ops Φ a0 w0 (k + i) o := by
  intro l
  induction l with
  | nil => intro k _ i o h; simp at h
  | cons x l ih =>
    intro k h i o hi
    cases i with
    | zero => simp at hi; subst hi; exact h.1
    | succ i =>
      simp at hi
      have := ih (k + 1) h.2 i o hi
      rwa [show k + 1 + i = k + (i + 1) by omega] at this

/-- 'steady' at a region that is written out. -/
theorem steady_lit {l : List Oper} {id : Nat} (hm : P.follows .mixedOrders = true) (Φ : Nat → Value → World → Prop) (hst : ∀ i v w w', Φ i v w → Up w w' → Φ i v w') (n : Nat) (hn : a0.tmps.size = n) (hd : dstB l.toArray n = true) (hac : acyclicB l.toArray = true)
    {Q : Exit → Act → World → Prop} (hok : AllOk P l.toArray Φ a0 w0 0 l)
    (hQ : ∀ a w, RInv l.toArray Φ a0 w0 (Array.replicate l.toArray.size true) a w → Q .normal a w) : (Code.region id l.toArray true).wp P Q a0 w0 :=
  steady hm Φ hst n hn hd hac (fun i o hi => by
    have := allOk_spec l 0 hok i o (by simpa using hi)
    rwa [Nat.zero_add] at this) hQ
theorem RInv.get {i : Nat} {oi : Oper} {d : Tmp} (h : RInv ops Φ a0 w0 (Array.replicate ops.size true) a w) (hi : ops[i]? = some oi) (hd : oi.dst = some d) : Φ i (a.tmps.getD d undef) w :=
  h.facts i oi d hi (by
    have := (Array.getElem?_eq_some_iff.1 hi).1
    simp [Array.getD_eq_getD_getElem?, this]) hd

/-- The facts of a region as a list. -/
def facts (l : List (Value → World → Prop)) (i : Nat) : Value → World → Prop := l.getD i fun _ _ => True
/-- Kept whatever is made. -/
def Keeps (φ : Value → World → Prop) : Prop := ∀ v w w', φ v w → Up w w' → φ v w'
theorem facts_keep {l : List (Value → World → Prop)} (h : ∀ φ ∈ l, Keeps φ) : ∀ i v w w', facts l i v w → Up w w' → facts l i v w' := by
  intro i v w w' hf hu
  unfold facts at *
  rw [List.getD] at *
  cases hx : l[i]? with
  | none => simp
  | some φ =>
    rw [hx] at hf
    exact h φ (List.mem_of_getElem? hx) v w w' hf hu
/-- It is this very value. -/
def Is (x : Value) : Value → World → Prop := fun v _ => v = x
theorem keeps_is (x : Value) : Keeps (Is x) := fun _ _ _ h _ => h
end
end Go.Proofs.Ytdhkbpnhbbedmaa
namespace Go.Proofs.Ytdhkbpnhbbedmaa
open Go Go.RowKit

/-- Integers of kind k as the model keeps them. -/
def ints (k : IntKind) (zs : List Int) : List Value := zs.map (Value.int k)
/-- What a slice of integers that came in is known to be; 'by_': the bytes of an element. -/
def IntsIn (k : IntKind) (by_ : Nat) (w : World) (a : Option Addr) (len cap : Nat) (zs : List Int) : Prop :=
  IsS w (.slice a zs.length cap) (ints k zs) ∧ len = zs.length ∧ zs.length * by_ + 4096 ≤ 140737488355328 ∧ ∀ x ∈ zs, (Lit.int k x).wf = true
theorem ints_length (k : IntKind) (zs : List Int) : (ints k zs).length = zs.length := by simp [ints]
theorem intsIn_nil (k : IntKind) (by_ : Nat) (w : World) : IntsIn k by_ w none 0 0 [] := ⟨⟨none, 0, rfl, Nat.le_refl _, Cells.nil _ _⟩, rfl, by simp, by simp⟩
theorem intsIn_mk {k : IntKind} {by_ : Nat} {w : World} {x : Addr} {len cap : Nat} {zs : List Int} (hl : len ≤ cap) (hz : zs.length = cap) (hcell : ∀ i, i < zs.length → w.cell? (x.add i) = some (.int k (zs.getD i 0))) (hwz : ∀ n ∈ zs, (Lit.int k n).wf = true) (hr : cap * by_ ≤ 140737488351232) :
    IntsIn k by_ w (some x) len cap (zs.take len) := by
  have hlen : (zs.take len).length = len := by rw [List.length_take]; omega
  have hle : len * by_ ≤ cap * by_ := Nat.mul_le_mul_right _ hl
  refine ⟨⟨some x, cap, by rw [ints_length], by rw [ints_length, hlen]; exact hl, fun hne => ?_⟩, hlen.symm, by rw [hlen]; omega, fun y hy => hwz y (List.mem_of_mem_take hy)⟩
  have h0 : 0 < len := by
    rcases Nat.eq_zero_or_pos len with h | h
    · subst h; simp [ints] at hne
    · exact h
  obtain ⟨b, off, spot⟩ := x
  have hc0 := hcell 0 (by omega)
  have hs : spot = none := by simpa [Addr.add] using World.cell?_spot hc0
  subst hs
  refine ⟨b, off, rfl, by simpa [add_flat] using World.block_lt_of_cell? w _ hc0, fun j u hu => ?_⟩
  have hj : j < len := by
    rcases Nat.lt_or_ge j len with h | h
    · exact h
    · rw [List.getElem?_eq_none (by rw [ints_length, hlen]; exact h)] at hu; cases hu
  have := hcell j (by omega)
  rw [add_flat] at this
  rw [this]
  simp [ints, hj] at hu
  obtain ⟨z, hz', rfl⟩ := hu
  simp [List.getD, hz']
end Go.Proofs.Ytdhkbpnhbbedmaa
namespace Go.Proofs.Ytdhkbpnhbbedmaa
open Go Go.RowKit
/-- A row of integers of the call's own, from block 'base' on. -/
def OwnI (k : IntKind) (E : TypeId) (base : Nat) (w : World) (A : Option Addr) (N c : Nat) (xs : List Int) : Prop := w.ownsRow base E 1 (.slice A N c) N (ints k xs)
theorem ints_one (k : IntKind) (xs : List Int) : ∀ u ∈ ints k xs, u.oneCell' = true := by intro u hu; simp [ints] at hu; obtain ⟨x, _, rfl⟩ := hu; rfl
theorem ints_append (k : IntKind) (xs ys : List Int) : ints k (xs ++ ys) = ints k xs ++ ints k ys := by simp [ints]
section
variable {k : IntKind} {E : TypeId} {base : Nat} {w : World} {A : Option Addr} {N c : Nat} {xs : List Int}
theorem OwnI.len (h : OwnI k E base w A N c xs) : xs.length = N := by have := h.1; simpa [ints_length] using this
theorem OwnI.isS (h : OwnI k E base w A N c xs) : IsS w (.slice A N c) (ints k xs) := IsS.of_own h
theorem OwnI.cells (h : OwnI k E base w A N c xs) : Cells w A (ints k xs) := by
  obtain ⟨A', c', e, hc, hx⟩ := h.isS
  obtain ⟨rfl, -, rfl⟩ : A = A' ∧ N = (ints k xs).length ∧ c = c' := by injection e with a b c; exact ⟨a, b, c⟩
  exact hx
theorem OwnI.cap (h : OwnI k E base w A N c xs) : N ≤ c := by
  obtain ⟨A', c', e, hc, hx⟩ := h.isS
  obtain ⟨rfl, hn, rfl⟩ : A = A' ∧ N = (ints k xs).length ∧ c = c' := by injection e with a b c; exact ⟨a, b, c⟩
  omega
theorem OwnI.alloc (h : OwnI k E base w A N c xs) (o : Obj) : OwnI k E base (w.alloc o) A N c xs := World.ownsRow.alloc h o
theorem OwnI.at_ (h : OwnI k E base w A N c xs) (hn : 0 < N) : ∃ g, A = some ⟨g, 0, none⟩ ∧ base ≤ g ∧ g < w.heap.size := by
  rcases h.2 with ⟨e, rfl⟩ | ⟨g, cap, cur, e, hb, hg, _⟩
  · omega
  · injection e with e1
    exact ⟨g, e1, hb, (Array.getElem?_eq_some_iff.1 hg).1⟩
theorem OwnI.cellAt {g : Nat} (h : OwnI k E base w (some ⟨g, 0, none⟩) N c xs) {j : Nat} {x : Int} (hx : xs[j]? = some x) : w.cell? ⟨g, j, none⟩ = some (.int k x) := by
  have hj : j < xs.length := (List.getElem?_eq_some_iff.1 hx).1
  rw [World.ownsRow.cellAt h j (by have := h.len; omega)]
  simp [ints, hx]
theorem OwnI.frozenAt {g : Nat} (h : OwnI k E base w (some ⟨g, 0, none⟩) N c xs) (j : Nat) : w.frozen? ⟨g, j, none⟩ = false := World.ownsRow.frozenAt h j
theorem OwnI.stored {g : Nat} (h : OwnI k E base w (some ⟨g, 0, none⟩) N c xs) (j : Nat) (x : Int) : OwnI k E base (w.setCell ⟨g, j, none⟩ (.int k x)) (some ⟨g, 0, none⟩) N c (xs.set j x) := by
  have := (World.ownsRow.stored h j (.int k x)).1
  unfold OwnI
  simpa [ints, List.map_set] using this
theorem ownI_new (k : IntKind) (E : TypeId) (w : World) : OwnI k E w.heap.size (w.alloc (.cells #[] E)) (some ⟨w.heap.size, 0, none⟩) 0 0 [] :=
  World.ownsRow_made w _ _ (Nat.le_refl _) (by unfold maxLen; omega) (by simp)
theorem ownI_newAt (k : IntKind) (E : TypeId) (w : World) (hb : base ≤ w.heap.size) : OwnI k E base (w.alloc (.cells #[] E)) (some ⟨w.heap.size, 0, none⟩) 0 0 [] :=
  World.ownsRow_made w _ _ hb (by unfold maxLen; omega) (by simp)
theorem ownI_nil (k : IntKind) (E : TypeId) (base : Nat) (w : World) : OwnI k E base w none 0 0 [] := ⟨by simp [ints], .inl ⟨rfl, rfl⟩⟩
end
theorem wpList_appendI {P : Program} {w w0 : World} {ops : Array Oper} {rest : List Oper} {o : Oper} {a : Act} {Q : Exit → Act → World → Prop} (hgd : Region.wanted o (yielded ops a.tmps) = true) (s x : Operand) (t : TypeId)
    (ho : o.op = .call { callee := .builtin .append, args := #[s, x], argTypes := #[t, t] }) (k : IntKind) (base : Nat) (e : TypeId) (bytes : Nat) (ht : P.underlying t = some (.slice e))
    (hinfo : (P.info? e).map (fun i => (i.zero, i.size, i.bytes)) = some (some (.int k 0), 1, bytes))
    (A0 : Option Addr) (n c0 : Nat) (xs : List Int) (hs : a.eval s = .slice A0 n c0) (hown : OwnI k e base w A0 n c0 xs)
    (A : Option Addr) (m c : Nat) (ys : List Int) (hx : a.eval x = .slice A m c) (hl : ys.length = m) (hr : Cells w A (ints k ys))
    (h63 : n + m ≤ 9223372036854775807) (hbytes : (n + m) * bytes ≤ 140737488355328) (hbase : base ≤ w.heap.size) (hb : Below base w0 w)
    (h : ∀ A' N c' w', Hid (N = n + m) → Hid (OwnI k e base w' A' N c' (xs ++ ys)) → Hid (Below base w0 w') → base ≤ w'.heap.size → wpList P ops Q rest (a.put o.dst (.slice A' N c')) w') : wpList P ops Q (o :: rest) a w :=
  wpList_appendS hgd s x t ho base e (.int k 0) bytes ht hinfo rfl A0 n c0 (ints k xs) hs hown A m c (ints k ys) hx (by rw [ints_length]; exact hl) hr (ints_one k ys) (by unfold maxLen; exact h63) hbytes hbase hb
    fun A' c' w' hown' hb' hsz' => h A' (n + m) c' w' rfl (by show OwnI _ _ _ _ _ _ _ _; unfold OwnI; rw [ints_append]; exact hown') hb' hsz'
end Go.Proofs.Ytdhkbpnhbbedmaa
namespace Go.Proofs.Ytdhkbpnhbbedmaa
open Go Go.RowKit
set_option linter.unusedVariables false
/-- Of the blocks that were there only those of S may have turned. -/
structure Out (S : Nat → Prop) (w w' : World) : Prop where
  os : w'.os = w.os
  tape : w'.tape = w.tape
  output : w'.output = w.output
  size : w.heap.size ≤ w'.heap.size
  block : ∀ k, k < w.heap.size → ¬ S k → w'.heap[k]? = w.heap[k]?
/-- No block. -/
def No : Nat → Prop := fun _ => False
/-- What it may have come to: what was in S, or new. -/
def Sub (S' S : Nat → Prop) (w : World) : Prop := ∀ k, S' k → S k ∨ w.heap.size ≤ k
theorem Sub.refl (S : Nat → Prop) (w : World) : Sub S S w := fun _ h => .inl h
theorem Sub.trans {S S' S'' : Nat → Prop} {w w' : World} (h : Sub S' S w) (k : Sub S'' S' w') (hs : w.heap.size ≤ w'.heap.size) : Sub S'' S w := fun b hb => by
  rcases k b hb with h1 | h1
  · exact h b h1
  · exact .inr (by omega)
theorem Out.refl (S : Nat → Prop) (w : World) : Out S w w := ⟨rfl, rfl, rfl, Nat.le_refl _, fun _ _ _ => rfl⟩
theorem Up.out {w w' : World} (h : Up w w') (S : Nat → Prop) : Out S w w' := ⟨h.os, h.tape, h.output, h.size, fun k hk _ => h.block k hk⟩
theorem Out.up {w w' : World} (h : Out No w w') : Up w w' := ⟨h.os, h.tape, h.output, h.size, fun k hk => h.block k hk (fun h => h)⟩
theorem Out.trans {S S' : Nat → Prop} {a b c : World} (h : Out S a b) (k : Out S' b c) (hs : Sub S' S a) : Out S a c :=
  ⟨k.os.trans h.os, k.tape.trans h.tape, k.output.trans h.output, Nat.le_trans h.size k.size, fun i hi hn => (k.block i (Nat.lt_of_lt_of_le hi h.size) (fun hh => by
    rcases hs i hh with h1 | h1
    · exact hn h1
    · omega)).trans (h.block i hi hn)⟩
theorem Out.mono {S S' : Nat → Prop} {a b : World} (h : Out S a b) (hs : ∀ k, S k → S' k) : Out S' a b := ⟨h.os, h.tape, h.output, h.size, fun i hi hn => h.block i hi (fun hh => hn (hs i hh))⟩
/-- All of it from block B on. -/
def From (B : Nat) (S : Nat → Prop) : Prop := ∀ k, S k → B ≤ k
theorem From.sub {B : Nat} {S S' : Nat → Prop} {w : World} (h : From B S) (hs : Sub S' S w) (hB : B ≤ w.heap.size) : From B S' := fun k hk => by
  rcases hs k hk with h1 | h1
  · exact h k h1
  · omega
theorem Below.out {B : Nat} {S : Nat → Prop} {a w w' : World} (h : Below B a w) (ho : Out S w w') (hS : From B S) (hB : B ≤ w.heap.size) : Below B a w' :=
  h.trans ⟨ho.os, ho.tape, ho.output, ho.size, fun k hk => ho.block k (by omega) (fun hs => by have := hS k hs; omega)⟩
theorem Out.not {S S' : Nat → Prop} {w : World} {g : Nat} (hs : Sub S' S w) (hn : ¬ S g) (hg : g < w.heap.size) : ¬ S' g := fun h => by
  rcases hs g h with h1 | h1
  · exact hn h1
  · omega
theorem Out.cells {S : Nat → Prop} {w w' : World} {b : Nat} {o : Nat} {xs : List Value} (ho : Out S w w') (h : Cells w (some ⟨b, o, none⟩) xs) (hn : ¬ S b) : Cells w' (some ⟨b, o, none⟩) xs := fun hne => by
  obtain ⟨b', o', e, hlt, hc⟩ := h hne
  injection e with e
  injection e with e1 e2
  subst e1; subst e2
  exact ⟨b, o, rfl, Nat.lt_of_lt_of_le hlt ho.size, fun j u hu => (World.cell?_of_block (w := w) (ho.block b hlt hn)).trans (hc j u hu)⟩
/-- A row of the call's own that does not lie in S stays. -/
theorem Out.own {S : Nat → Prop} {w w' : World} {base size n : Nat} {e : TypeId} {v : Value} {xs : List Value} (ho : Out S w w') (h : w.ownsRow base e size v n xs) (hn : ∀ g, v.ownBlock = some g → ¬ S g) : w'.ownsRow base e size v n xs := by
  refine ⟨h.1, ?_⟩
  rcases h.2 with h2 | ⟨g, cap, cur, hv, hg, hh, r⟩
  · exact .inl h2
  · subst hv
    exact .inr ⟨g, cap, cur, rfl, hg, by rw [ho.block g (Array.getElem?_eq_some_iff.1 hh).1 (hn g rfl)]; exact hh, r⟩
theorem Out.blk {S : Nat → Prop} {w w' : World} {g : Nat} {o : Obj} (ho : Out S w w') (h : w.heap[g]? = some o) (hn : ¬ S g) : w'.heap[g]? = some o := by
  rw [ho.block g (Array.getElem?_eq_some_iff.1 h).1 hn]; exact h
theorem up_drewN (w : World) (n : Nat) : Up w (w.drewN n) := ⟨rfl, rfl, rfl, Nat.le_refl _, fun _ _ => rfl⟩
theorem lt_of_blk {w : World} {g : Nat} {o : Obj} (h : w.heap[g]? = some o) : g < w.heap.size := (Array.getElem?_eq_some_iff.1 h).1
end Go.Proofs.Ytdhkbpnhbbedmaa
namespace Go.Proofs.Ytdhkbpnhbbedmaa
open Go Go.RowKit
set_option linter.unusedVariables false
/-! Cells, blocks and stores, of no program. -/
theorem cell_of {w : World} {b : Nat} {cs : Array Value} {t : TypeId} {f : Nat × Nat} (h : w.heap[b]? = some (.cells cs t f)) {j : Nat} {v : Value} (hv : cs[j]? = some v) : w.cell? ⟨b, j, none⟩ = some v := by
  simp [World.cell?, h, hv]
theorem cell_alloc {w : World} {b j : Nat} {v : Value} (h : w.cell? ⟨b, j, none⟩ = some v) (hb : b < w.heap.size) (o : Obj) : (w.alloc o).cell? ⟨b, j, none⟩ = some v := by
  rw [← h]
  exact World.cell?_of_block (MapKept.heap_alloc w o |>.2 b hb)
theorem up_alloc (w : World) (o : Obj) : Up w (w.alloc o) := (Below.refl _ _).alloc (Nat.le_refl _) o
theorem cell_lt {w : World} {A : Addr} {v : Value} (h : w.cell? A = some v) : A.block < w.heap.size := by
  unfold World.cell? at h
  cases hb : w.heap[A.block]? with
  | none => rw [hb] at h; cases h
  | some o => exact (Array.getElem?_eq_some_iff.1 hb).1
theorem cell_up {w w' : World} {A : Addr} {v : Value} (h : w.cell? A = some v) (hu : Up w w') : w'.cell? A = some v := by
  rw [← h]; exact World.cell?_of_block (hu.block _ (cell_lt h))
theorem cell_out {S : Nat → Prop} {w w' : World} {A : Addr} {v : Value} (h : w.cell? A = some v) (ho : Out S w w') (hn : ¬ S A.block) : w'.cell? A = some v := by
  rw [← h]; exact World.cell?_of_block (ho.block _ (cell_lt h) hn)
theorem setCell_out (w : World) (b j : Nat) (v : Value) : Out (fun k => k = b) w (w.setCell ⟨b, j, none⟩ v) := ⟨rfl, rfl, rfl, by simp [World.setCell], fun k hk hn => by
  simp [World.setCell, Array.getElem?_modify, Ne.symm hn]⟩
theorem setCell_at {w : World} {b j : Nat} {cs : Array Value} {T : TypeId} (v : Value) (h : w.heap[b]? = some (.cells cs T (0, 0))) : (w.setCell ⟨b, j, none⟩ v).heap[b]? = some (.cells (cs.setIfInBounds j v) T (0, 0)) := heap_setCell_same w b j cs T v h
theorem frozen_at {w : World} {b j : Nat} {cs : Array Value} {T : TypeId} (h : w.heap[b]? = some (.cells cs T (0, 0))) : w.frozen? ⟨b, j, none⟩ = false := by
  simp [World.frozen?, h]
theorem cell_at {w : World} {b j : Nat} {cs : Array Value} {T : TypeId} (h : w.heap[b]? = some (.cells cs T (0, 0))) (hj : j < cs.size) : (w.cell? ⟨b, j, none⟩).isSome = true := by
  simp [World.cell?, h, hj]
/-- A store of one cell. -/
theorem run_store1 {P : Program} {t : TypeId} (ht : ∀ w, (Go.sizeOf t).run P w = .ok 1 w) {w : World} {b j : Nat} {cs : Array Value} {T : TypeId} {v : Value} (hb : w.heap[b]? = some (.cells cs T (0, 0))) (hj : j < cs.size) (h1 : v.oneCell' = true) (h2 : v.cells = #[v]) :
    (Instr.storeAt t (.pointer (some ⟨b, j, none⟩)) v).run P w = .ok () (w.setCell ⟨b, j, none⟩ v) := by
  have := run_storeCells_cells (P := P) b j [v] 0 w (fun k hk => by
    have : k = 0 := by simpa using hk
    subst this; exact cell_at hb hj) (fun k hk => frozen_at hb) (by simpa using h1)
  simp [Instr.storeAt, Instr.sureAddr, storeVar, ht, h2, Result.andThen]
  simpa [World.setCells] using this
theorem run_load1 {P : Program} {t : TypeId} (h : ∀ w, (isAgg t).run P w = .ok false w) {A : Addr} {v : Value} {w : World} (hc : w.cell? A = some v) : (Instr.loadAt t (.pointer (some A))).run P w = .ok v w := by
  simp [Instr.loadAt, Instr.sureAddr, loadVar, h, Result.andThen, hc]
theorem new_at (w : World) (o : Obj) : (w.alloc o).heap[w.heap.size]? = some o := (MapKept.heap_alloc w o).1
theorem ownBlock_slice (A : Option Addr) (n c : Nat) : (Value.slice A n c).ownBlock = A.map (·.block) := by cases A <;> rfl
theorem own_slice {w : World} {base : Nat} {e : TypeId} {s : Nat} {v : Value} {n : Nat} {xs : List Value} (h : w.ownsRow base e s v n xs) : ∃ A c, v = .slice A n c := by
  rcases h.2 with ⟨h1, h2⟩ | ⟨g, cap, cur, hv, _⟩
  · exact ⟨none, 0, by rw [h1, h2]⟩
  · exact ⟨_, _, hv⟩
theorem own_up {w w' : World} {base : Nat} {e : TypeId} {s : Nat} {v : Value} {n : Nat} {xs : List Value} (h : w.ownsRow base e s v n xs) (hu : Up w w') : w'.ownsRow base e s v n xs := (hu.out No).own h (fun _ _ h => h)
end Go.Proofs.Ytdhkbpnhbbedmaa
