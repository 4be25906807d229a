import Derived.Shelf.Sort.Plain
import Derived.Shelf.Slices.In.SortNone
import Derived.Shelf.Slices.CompactI
import Derived.Test.YtdlehchofmdjbaaSqL
namespace Go.Proofs.Ytdlehchofmdjbaa
open Go Go.RowKit Go.Shelf
set_option linter.unusedVariables false
set_option linter.unusedSimpArgs false
/-! slices.Sort and slices.Compact at ints, laid. -/
def sortIRen : Go.Shelf.Ren := ⟨fun | 125 => 41 | 128 => 54 | 129 => 55 | 189 => 32 | 215 => 63 | 216 => 51 | 257 => 40 | 294 => 45 | 295 => 46 | 296 => 47 | 297 => 48 | 298 => 49 | 299 => 50 | 300 => 52 | 301 => 53 | 328 => 58 | 329 => 59 | 330 => 60 | 331 => 61 | 332 => 62 | 343 => 64 | n => n, fun | 0 => 0 | 3 => 3 | 4 => 4 | 5 => 5 | 9 => 9 | 28 => 35 | 46 => 91 | 51 => 22 | 53 => 86 | 131 => 102 | 182 => 96 | 183 => 97 | 218 => 108 | 222 => 112 | 228 => 114 | 229 => 45 | n => n, fun n => n⟩
set_option maxRecDepth 100000 in
theorem sortIL : Lays.n189 Try.prog sortIRen := {
  mixed := by kernel_rfl,
  f125 := Try.func41.trans (congrArg some (by kernel_rfl)),
  f128 := Try.func54.trans (congrArg some (by kernel_rfl)),
  f129 := Try.func55.trans (congrArg some (by kernel_rfl)),
  f189 := Try.func32.trans (congrArg some (by kernel_rfl)),
  f215 := Try.func63.trans (congrArg some (by kernel_rfl)),
  f216 := Try.func51.trans (congrArg some (by kernel_rfl)),
  f257 := Try.func40.trans (congrArg some (by kernel_rfl)),
  f294 := Try.func45.trans (congrArg some (by kernel_rfl)),
  f295 := Try.func46.trans (congrArg some (by kernel_rfl)),
  f296 := Try.func47.trans (congrArg some (by kernel_rfl)),
  f297 := Try.func48.trans (congrArg some (by kernel_rfl)),
  f298 := Try.func49.trans (congrArg some (by kernel_rfl)),
  f299 := Try.func50.trans (congrArg some (by kernel_rfl)),
  f300 := Try.func52.trans (congrArg some (by kernel_rfl)),
  f301 := Try.func53.trans (congrArg some (by kernel_rfl)),
  f328 := Try.func58.trans (congrArg some (by kernel_rfl)),
  f329 := Try.func59.trans (congrArg some (by kernel_rfl)),
  f330 := Try.func60.trans (congrArg some (by kernel_rfl)),
  f331 := Try.func61.trans (congrArg some (by kernel_rfl)),
  f332 := Try.func62.trans (congrArg some (by kernel_rfl)),
  f343 := Try.func64.trans (congrArg some (by kernel_rfl)),
  t0 := by kernel_rfl,
  a0 := fun w => by kernel_rfl,
  z0 := fun w => by kernel_rfl,
  v0 := fun w => by kernel_rfl,
  t3 := by kernel_rfl,
  a3 := fun w => by kernel_rfl,
  z3 := fun w => by kernel_rfl,
  v3 := fun w => by kernel_rfl,
  t4 := by kernel_rfl,
  a4 := fun w => by kernel_rfl,
  z4 := fun w => by kernel_rfl,
  v4 := fun w => by kernel_rfl,
  t5 := by kernel_rfl,
  a5 := fun w => by kernel_rfl,
  z5 := fun w => by kernel_rfl,
  v5 := fun w => by kernel_rfl,
  t9 := by kernel_rfl,
  a9 := fun w => by kernel_rfl,
  z9 := fun w => by kernel_rfl,
  v9 := fun w => by kernel_rfl,
  t28 := by kernel_rfl,
  a28 := fun w => by kernel_rfl,
  z28 := fun w => by kernel_rfl,
  v28 := fun w => by kernel_rfl,
  t46 := by kernel_rfl,
  a46 := fun w => by kernel_rfl,
  z46 := fun w => by kernel_rfl,
  v46 := fun w => by kernel_rfl,
  t51 := by kernel_rfl,
  a51 := fun w => by kernel_rfl,
  z51 := fun w => by kernel_rfl,
  v51 := fun w => by kernel_rfl,
  t53 := by kernel_rfl,
  a53 := fun w => by kernel_rfl,
  z53 := fun w => by kernel_rfl,
  v53 := fun w => by kernel_rfl,
  t131 := by kernel_rfl,
  a131 := fun w => by kernel_rfl,
  z131 := fun w => by kernel_rfl,
  v131 := fun w => by kernel_rfl,
  t182 := by kernel_rfl,
  a182 := fun w => by kernel_rfl,
  z182 := fun w => by kernel_rfl,
  v182 := fun w => by kernel_rfl,
  t183 := by kernel_rfl,
  a183 := fun w => by kernel_rfl,
  z183 := fun w => by kernel_rfl,
  v183 := fun w => by kernel_rfl,
  t218 := by kernel_rfl,
  a218 := fun w => by kernel_rfl,
  z218 := fun w => by kernel_rfl,
  v218 := fun w => by kernel_rfl,
  t222 := by kernel_rfl,
  a222 := fun w => by kernel_rfl,
  z222 := fun w => by kernel_rfl,
  v222 := fun w => by kernel_rfl,
  t228 := by kernel_rfl,
  a228 := fun w => by kernel_rfl,
  z228 := fun w => by kernel_rfl,
  v228 := fun w => by kernel_rfl,
  t229 := by kernel_rfl,
  a229 := fun w => by kernel_rfl,
  z229 := fun w => by kernel_rfl,
  v229 := fun w => by kernel_rfl }
def compIRen : Go.Shelf.Ren := ⟨fun | 20 => 33 | n => n, fun | 0 => 0 | 3 => 3 | 4 => 4 | 22 => 35 | n => n, fun n => n⟩
set_option maxRecDepth 100000 in
theorem compIL : Lays2.n20 Try.prog compIRen := {
  mixed := by kernel_rfl,
  f20 := Try.func33.trans (congrArg some (by kernel_rfl)),
  t0 := by kernel_rfl,
  a0 := fun w => by kernel_rfl,
  z0 := fun w => by kernel_rfl,
  v0 := fun w => by kernel_rfl,
  t3 := by kernel_rfl,
  a3 := fun w => by kernel_rfl,
  z3 := fun w => by kernel_rfl,
  v3 := fun w => by kernel_rfl,
  t4 := by kernel_rfl,
  a4 := fun w => by kernel_rfl,
  z4 := fun w => by kernel_rfl,
  v4 := fun w => by kernel_rfl,
  t22 := by kernel_rfl,
  a22 := fun w => by kernel_rfl,
  z22 := fun w => by kernel_rfl,
  v22 := fun w => by kernel_rfl,
  i3 := by kernel_rfl }
end Go.Proofs.Ytdlehchofmdjbaa

namespace Go.Proofs.Ytdlehchofmdjbaa
open Go Go.RowKit Go.Shelf Go.Sort Go.Proofs
set_option linter.unusedVariables false
set_option linter.unusedSimpArgs false
/-! Rows of ints of the call's own: sorted, compacted. -/
/-- A row of the call's own that a library function has written anew. -/
theorem own_putRow {base E g n c : Nat} {k : IntKind} {zs : List Int} {w : World} (h : OwnI k E base w (some ⟨g, 0, none⟩) n c zs) (d : Array Int) (hd : d.size = n) (q : Nat) (os : Array Obj) :
    OwnI k E base (grow (putRow (Value.int k) (Sort.ahead w q) g 0 d) os) (some ⟨g, 0, none⟩) n c d.toList ∧ Out (fun j => j = g) w (grow (putRow (Value.int k) (Sort.ahead w q) g 0 d) os) := by
  rcases h.2 with ⟨e1, _⟩ | ⟨g', cap, cur, hv, hg, hh, r1, r2, r3, r4⟩
  · cases e1
  · injection hv with hv _ hv3
    injection hv with hv
    injection hv with hv
    subst hv; subst hv3
    have hlt := lt_of_blk hh
    have hb : (putRow (Value.int k) (Sort.ahead w q) g 0 d).heap[g]? = some (.cells (putCells (Value.int k) 0 d cur) E (0, 0)) := by
      unfold putRow mapBlock
      rw [Array.getElem?_modify, if_pos rfl, heap_ahead, hh]
      rfl
    have hsz : (putRow (Value.int k) (Sort.ahead w q) g 0 d).heap.size = w.heap.size := by simp [Sort.ahead]
    refine ⟨⟨?_, .inr ⟨g, c, _, rfl, hg, by rw [heap_grow_old _ _ (by rw [hsz]; exact hlt)]; exact hb, r1, r2, by unfold putCells; simpa using r3, ?_⟩⟩, ?_⟩
    · rw [ints_length]; simp; omega
    · refine List.ext_getElem? fun t => ?_
      rw [List.getElem?_take]
      by_cases ht : t < n * 1
      · rw [if_pos ht]
        have hc : t < cur.size := by omega
        have hd2 : t < d.size := by omega
        unfold putCells
        simp [hc, hd2, ints]
      · rw [if_neg ht, List.getElem?_eq_none]
        rw [ints_length]; simp; omega
    · refine ⟨rfl, rfl, rfl, by rw [size_grow, hsz]; omega, fun j hj hn => ?_⟩
      rw [heap_grow_old _ _ (by rw [hsz]; exact hj)]
      unfold putRow mapBlock
      rw [Array.getElem?_modify, if_neg (fun e => hn e.symm), heap_ahead]
theorem own_holds {base E g n c : Nat} {k : IntKind} {zs : List Int} {w : World} (h : OwnI k E base w (some ⟨g, 0, none⟩) n c zs) : Holds (Value.int k) w g 0 zs.toArray := by
  intro j hj
  have hj' : j < zs.length := by simpa using hj
  refine ⟨?_, OwnI.frozenAt h _⟩
  rw [Nat.zero_add]
  have := OwnI.cellAt h (j := j) (x := zs[j]) (List.getElem?_eq_getElem hj')
  rw [this]
  simp [hj']
theorem sortInts (base : Nat) (B : Option Addr) (n c : Nat) (zs : List Int) (w : World) (h : OwnI .i64 3 base w B n c zs) (hn : n ≤ 100000) :
    Calls Try.prog 32 #[.slice B n c] w fun e w' => e = .returned (.tuple #[]) ∧ Hid (OwnI .i64 3 base w' B n c (zs.mergeSort fun x y => decide (x ≤ y))) ∧ Hid (Out (fun k => blk? B = some k) w w') := by
  have hl := h.len
  rcases h.2 with ⟨e1, e2⟩ | ⟨g, cap, cur, hv, hg, hh, r1, r2, r3, r4⟩
  · injection e1 with e1 _ e3
    subst e1; subst e3; subst e2
    have ez : zs = [] := List.eq_nil_of_length_eq_zero hl
    subst ez
    exact (Any.slices_Sort_int_none sortIL none 0 w).mono fun e w' ⟨he, hw⟩ => ⟨he, Lib.hid (by rw [hw]; simpa using h), Lib.hid (by rw [hw]; exact Out.refl _ _)⟩
  · injection hv with hv _ hv3
    subst hv; subst hv3
    have hcon := Any.slices_Sort_int sortIL g 0 c zs w (own_holds h) (lt_of_blk hh) (by omega)
    rw [hl] at hcon
    refine Calls.mono (show Calls Try.prog 32 _ _ _ from hcon) fun e w' ⟨he, q, os, hw⟩ => ?_
    obtain ⟨h1, h2⟩ := own_putRow h (zs.mergeSort fun x y => decide (x ≤ y)).toArray (by simp; exact hl) q os
    rw [hw]
    exact ⟨he, Lib.hid (by simpa using h1), Lib.hid (h2.mono fun k hk => by rw [hk]; rfl)⟩
theorem compact_len (zs : List Int) : (Lib.compact zs).length ≤ zs.length := by
  unfold Lib.compact Lib.compactUpTo
  rw [List.length_map]
  exact Nat.le_trans (List.length_filter_le _ _) (by simp)
theorem compInts (base : Nat) (B : Option Addr) (n c : Nat) (zs : List Int) (w : World) (h : OwnI .i64 3 base w B n c zs) (hn : n ≤ 100000) :
    Calls Try.prog 33 #[.slice B n c] w fun e w' => ∃ m, e = .returned (.slice B m c) ∧ Hid (m = (Lib.compact zs).length) ∧ Hid (OwnI .i64 3 base w' B m c (Lib.compact zs)) ∧ Hid (Out (fun k => blk? B = some k) w w') := by
  have hl := h.len
  rcases h.2 with ⟨e1, e2⟩ | ⟨g, cap, cur, hv, hg, hh, r1, r2, r3, r4⟩
  · injection e1 with e1 _ e3
    subst e1; subst e3; subst e2
    have ez : zs = [] := List.eq_nil_of_length_eq_zero hl
    subst ez
    exact (Any.slices_Compact_int_empty compIL none 0 w).mono fun e w' ⟨he, hw⟩ => ⟨0, he, Lib.hid rfl, Lib.hid (by rw [hw]; exact h), Lib.hid (by rw [hw]; exact Out.refl _ _)⟩
  · injection hv with hv _ hv3
    subst hv; subst hv3
    have hcon := Any.slices_Compact_int compIL g 0 c zs w (own_holds h) (by omega) (by rw [hl]; exact r1)
    rw [hl] at hcon
    refine Calls.mono (show Calls Try.prog 33 _ _ _ from hcon) fun e w' ⟨he, q, hw⟩ => ?_
    have hcl := compact_len zs
    obtain ⟨h1, h2⟩ := own_putRow h (Lib.compact zs ++ List.replicate (n - (Lib.compact zs).length) 0).toArray (by simp; omega) q #[]
    rw [grow_empty] at h1 h2
    rw [hw]
    refine ⟨_, he, Lib.hid rfl, Lib.hid ?_, Lib.hid (h2.mono fun k hk => by rw [hk]; rfl)⟩
    simp only [List.append_toArray, Array.toList_append] at h1
    have h3 : OwnI .i64 3 base (putRow (Value.int .i64) (Sort.ahead w q) g 0 (Lib.compact zs ++ List.replicate (n - (Lib.compact zs).length) 0).toArray) (some ⟨g, 0, none⟩) n c (Lib.compact zs ++ List.replicate (n - (Lib.compact zs).length) 0) := by simpa using h1
    unfold OwnI at h3 ⊢
    rw [ints_append] at h3
    exact own_prefix h3 (by omega) (by rw [ints_length]; omega)
end Go.Proofs.Ytdlehchofmdjbaa
