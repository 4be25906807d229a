import Derived.Test.YtahpejcejbgcpaaSteadyX
import Derived.Test.YtahpejcejbgcpaaSteady
import Derived.Deep.RegionLawGrows
import Derived.Laws.BitsAllLaws
import Derived.WalkSpells
namespace Go.Proofs.Ytahpejcejbgcpaa
set_option linter.unusedVariables false
open Go Go.RowKit
theorem OwnI.up {k : IntKind} {E : TypeId} {base : Nat} {w w' : World} {A : Option Addr} {N c : Nat} {xs : List Int} (h : OwnI k E base w A N c xs) (hu : Up w w') : OwnI k E base w' A N c xs := by
  refine World.ownsRow.kept (row := some w.heap.size) h ⟨hu.os, hu.tape, hu.output, hu.size, fun i hi _ => hu.block i hi⟩ ?_
  right
  intro e
  have := (World.ownsRow.lt h _ e).2
  omega
theorem OwnI.other {k : IntKind} {E : TypeId} {base : Nat} {w : World} {g N c : Nat} {xs : List Int} (h : OwnI k E base w (some ⟨g, 0, none⟩) N c xs) {g' j : Nat} (hne : g ≠ g') (u : Value) : OwnI k E base (w.setCell ⟨g', j, none⟩ u) (some ⟨g, 0, none⟩) N c xs := by
  refine World.ownsRow.kept (row := some g') h ⟨rfl, rfl, rfl, by simp, fun i _ hi => heap_setCell_other w ⟨g', j, none⟩ i u (fun e => hi (by rw [e]))⟩ ?_
  right
  intro e
  simp [Value.ownBlock] at e
  exact hne e
theorem OwnI.mono {k : IntKind} {E : TypeId} {base base' : Nat} {w : World} {A : Option Addr} {N c : Nat} {xs : List Int} (h : OwnI k E base w A N c xs) (hb : base' ≤ base) : OwnI k E base' w A N c xs :=
  ⟨h.1, h.2.imp id fun ⟨g, cap, cur, h1, h2, h3⟩ => ⟨g, cap, cur, h1, Nat.le_trans hb h2, h3⟩⟩
section
variable {P : Program} {o : Oper} {a : Act} {w : World} {φ : Value → World → Prop}
/-- 'append' onto a slice without room: a row of its own. -/
theorem fine_appendNew (s x : Operand) (t : TypeId) (ho : o.op = .call { callee := .builtin .append, args := #[s, x], argTypes := #[t, t] }) (k : IntKind) (E : TypeId) (bytes : Nat) (ht : P.underlying t = some (.slice E))
    (hinfo : (P.info? E).map (fun i => (i.zero, i.size, i.bytes)) = some (some (.int k 0), 1, bytes)) (base : Nat) (A0 : Option Addr) (hs : a.eval s = .slice A0 0 0) (h0 : OwnI k E base w A0 0 0 [])
    (B : Option Addr) (m c : Nat) (ys : List Int) (hx : a.eval x = .slice B m c) (hl : ys.length = m) (hr : Cells w B (ints k ys)) (h63 : m ≤ 9223372036854775807) (hbytes : m * bytes ≤ 140737488355328) (hbase : base ≤ w.heap.size)
    (h : ∀ A' c' w', Up w w' → OwnI k E base w' A' m c' ys → (0 < m → NewBlk w (.slice A' m c') w') → φ (.slice A' m c') w') : Fine P o a w φ := by
  obtain ⟨i, hi, hz, hsz, hb⟩ := info_parts hinfo
  have hrun : ∃ A' c' w', (Builtin.append_ #[t, t] o.type #[.slice A0 0 0, .slice B m c]).run P w = .ok (.slice A' m c') w' ∧ Up w w' ∧ OwnI k E base w' A' m c' ys ∧ (0 < m → NewBlk w (.slice A' m c') w') := by
    rcases Nat.eq_zero_or_pos m with hm | hm
    · subst hm
      obtain rfl : ys = [] := List.eq_nil_of_length_eq_zero hl
      refine ⟨A0, 0, w, ?_, Up.refl w, h0, fun h => absurd h (Nat.lt_irrefl 0)⟩
      cases B with
      | none => cases A0 <;> simp [Builtin.append_, run_underlying ht, sizeOf, typeInfo, hi, Builtin.lenOf, Builtin.firstCells, storeCells]
      | some b =>
        obtain ⟨v', w', h1, h2, h3, h4⟩ : ∃ v' w', (Builtin.append_ #[t, t] o.type #[.slice A0 0 0, .slice (some b) 0 c]).run P w = .ok v' w' ∧ v' = .slice A0 0 0 ∧ w' = w ∧ True := by
          cases A0 <;> simp [Builtin.append_, run_underlying ht, sizeOf, typeInfo, hi, Builtin.lenOf, Builtin.firstCells, storeCells, loadCells, loadCellsFrom]
        rw [h1, h2, h3]
    · obtain ⟨b, off, rfl, hlt, hc⟩ := hr (by intro e; have := congrArg List.length e; rw [ints_length, List.length_nil] at this; omega)
      have hnews : ∀ (j : Nat) (u : Value), (ints k ys)[j]? = some u → w.cell? ((⟨b, off, none⟩ : Addr).add j) = some u := fun j u hu => by rw [add_flat]; exact hc j u hu
      have hgrow : ∃ v' w', (Builtin.append_ #[t, t] o.type #[.slice A0 0 0, .slice (some ⟨b, off, none⟩) m c]).run P w = .ok v' w' ∧ w'.ownsRow w.heap.size E 1 v' (0 + m) ([] ++ ints k ys) ∧ w.grownBy w' none := by
        cases A0 with
        | some g0 => exact run_append_arg_grows (P := P) w t o.type E i _ 1 bytes ht hi hz hsz hb rfl (by omega) g0 0 0 [] rfl (by simp) ⟨b, off, none⟩ m c (ints k ys) (by rw [ints_length]; omega) hnews (by omega) (by unfold maxLen; omega) (by simpa using hbytes)
        | none =>
          obtain ⟨v', w', h1, h2, h3, _⟩ := run_append_own (P := P) w w.heap.size t o.type E i _ 1 bytes ht hi hz hsz hb rfl (by omega) (.slice none 0 0) 0 [] (World.ownsRow_nil w _ E 1) ⟨b, off, none⟩ m c (ints k ys) (by rw [ints_length]; omega) hnews (ints_one k ys) (by unfold maxLen; omega) (by simpa using hbytes) (Nat.le_refl _)
          exact ⟨v', w', h1, h2, h3⟩
      obtain ⟨v', w', h1, h2, h3⟩ := hgrow
      obtain ⟨A', c', rfl⟩ := own_form h2
      rw [Nat.zero_add, List.nil_append] at h2
      rw [Nat.zero_add] at h1
      have hup : Up w w' := ⟨h3.os, h3.tape, h3.output, h3.size, fun i hi => h3.block i hi (by simp)⟩
      refine ⟨A', c', w', h1, hup, OwnI.mono h2 hbase, fun _ => ?_⟩
      obtain ⟨g, rfl, hg1, hg2⟩ := OwnI.at_ (k := k) (xs := ys) h2 hm
      exact ⟨hg1, hg2⟩
  obtain ⟨A', c', w', h1, h2, h3, h4⟩ := hrun
  refine fine_run (.slice A' m c') w' ?_ h2 (h A' c' w' h2 h3 h4)
  simp [execOp, ho, resolve, invoke, builtin, hs, hx, h1, Result.andThen]
/-- '[]T{}'. -/
theorem fine_slice0 (t : TypeId) (k : IntKind) (E : TypeId) (base : Nat) (ho : o.op = .buildSlice t 0 #[]) (hr : ∀ W : World, (execOp a.eval o).run P W = .ok (.value (.slice (some ⟨W.heap.size, 0, none⟩) 0 0)) (W.alloc (.cells #[] E))) (hb : base ≤ w.heap.size)
    (h : ∀ A w', Up w w' → OwnI k E base w' A 0 0 [] → φ (.slice A 0 0) w') : Fine P o a w φ :=
  fine_run _ _ (hr w) ((Below.refl _ _).alloc (Nat.le_refl _) _) (h _ _ ((Below.refl _ _).alloc (Nat.le_refl _) _) (ownI_newAt k E w hb))
theorem map_add0 (A : Option Addr) : A.map (·.add 0) = A := by cases A <;> simp [Addr.add]
/-- A slice that reads as these integers. -/
def IsI (k : IntKind) (xs : List Int) (v : Value) (w : World) : Prop := IsS w v (ints k xs)
theorem keeps_isI (k : IntKind) (xs : List Int) : Keeps (IsI k xs) := fun _ _ _ h hu => IsS.up h hu
theorem fine_sliceHi (x h : Operand) (T E : TypeId) (k : IntKind) (ht : P.underlying T = some (.slice E)) (hs1 : (P.info? E).map (·.size) = some 1) (xs : List Int) (n : Nat) (ho : o.op = .slice T x none (some h) none) (hx : IsI k xs (a.eval x) w) (hh : a.eval h = .int .i64 (n : Nat)) (hn : n ≤ xs.length)
    (hφ : ∀ A c, n ≤ c → Cells w A (ints k (xs.take n)) → φ (.slice A n c) w) : Fine P o a w φ := by
  obtain ⟨A, c, e, hc, hcl⟩ := hx
  rw [ints_length] at e hc
  have hel : P.elem T = E := by simp [Program.elem, ht]
  have hu : P.underlying T = some (.slice (P.elem T)) := by rw [hel]; exact ht
  have hsz : (sizeOf E).run P w = .ok 1 w := by
    cases hi : P.info? E with
    | none => rw [hi] at hs1; cases hs1
    | some i =>
      rw [hi] at hs1
      have : i.size = 1 := by simpa using hs1
      simp [sizeOf, typeInfo, hi, this]
  refine fine_quiet (.slice A n c) ?_ (hφ A c (by omega) ?_)
  · have hr := run_slice_h (P := P) w T A xs.length c hu .i64 (n : Int) (by omega) (by omega)
    rw [hel, hsz, ← run_sliceAt_slice (P := P) w T _ _ _ _ hu] at hr
    have e0 : (if c = 0 then A else A.map (·.add 0)) = A := by split; rfl; exact map_add0 A
    simp only [Result.andThen, sliced, Int.toNat_natCast, Nat.sub_zero, Nat.zero_mul, e0] at hr
    unfold execOp
    simp only [ho, Option.map_some, Option.map_none, e, hh]
    simp [hr, Result.andThen]
  · intro hne
    have := hcl.cut 0 n
    rw [map_add0, List.drop_zero] at this
    exact (show Cells w A (ints k (xs.take n)) by rw [show ints k (xs.take n) = (ints k xs).take n by simp [ints, List.map_take]]; exact this) hne
theorem fine_xor32 (tx ty : TypeId) (x y : Operand) (n m : Nat) (ho : o.op = .binOp .xor tx x y ty) (hx : a.eval x = .int .u32 (n : Int)) (hy : a.eval y = .int .u32 (m : Int)) (hn : n < 4294967296) (hm : m < 4294967296) (h : φ (.int .u32 ((n ^^^ m : Nat) : Int)) w) : Fine P o a w φ := by
  refine fine_bin .xor tx ty x y _ ho ?_ ?_ h
  · rw [hx, hy]; simp [go_sem]
  · rw [hx, hy, ← u32_xor_nat n m hn hm]; first | (simp [go_sem]; done) | rfl | (unfold binOp Op.intBits; rfl)
end
end Go.Proofs.Ytahpejcejbgcpaa
