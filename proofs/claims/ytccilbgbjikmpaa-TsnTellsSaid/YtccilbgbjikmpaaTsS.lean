import Derived.Test.YtccilbgbjikmpaaSortL
import Derived.Test.YtccilbgbjikmpaaTsR
namespace Go.Proofs.Ytccilbgbjikmpaa
open Go Go.RowKit Go.Shelf Go.Sort
set_option linter.unusedVariables false
set_option linter.unusedSimpArgs false
/-! The keys of the set, sorted from C on. -/
def encN (C : Nat) (d : Fin 513) : Value := .int .u32 (key (C + d.val))
def cmpN (x y : Fin 513) : Int := if x.val = y.val then 0 else if x.val < y.val then -1 else 1
theorem ord_cmpN (C : Nat) (x y : Fin 513) : ordI 4294967296 (key (C + x.val)) (key (C + y.val)) = cmpN x y := by
  have hx := x.isLt
  have hy := y.isLt
  unfold cmpN
  generalize x.val = a at *
  generalize y.val = b at *
  unfold ordI key
  by_cases h : a = b
  · subst h; rw [if_pos (by omega), if_pos rfl]
  · rw [if_neg (by omega), if_neg h]
    by_cases h2 : a < b
    · rw [if_pos (by omega), if_pos h2]
    · rw [if_neg (by omega), if_pos (by omega), if_neg h2]
theorem lt_cmpN (x y : Fin 513) : ltOf cmpN x y = decide (x.val < y.val) := by
  unfold ltOf cmpN
  by_cases h : x.val = y.val
  · simp [h]
  · rw [if_neg h]
    by_cases h2 : x.val < y.val
    · simp [h2]
    · simp [h2]
theorem swoN : SWO (ltOf cmpN) where
  irrefl x := by rw [lt_cmpN]; simp
  trans x y z h1 h2 := by rw [lt_cmpN] at *; simp only [decide_eq_true_eq] at *; omega
  ntrans x y z h1 h2 := by rw [lt_cmpN] at *; simp only [decide_eq_false_iff_not] at *; omega
theorem grown_grow {w w' : World} (h : Grown w w') : ∃ q os, w' = grow (w.drewN q) os := by
  obtain ⟨hu, hd⟩ := h
  refine ⟨w'.drawn - w.drawn, w'.heap.extract w.heap.size w'.heap.size, ?_⟩
  have h1 : w'.heap = w.heap ++ w'.heap.extract w.heap.size w'.heap.size := by
    refine Array.ext_getElem? fun k => ?_
    rw [Array.getElem?_append]
    by_cases hk : k < w.heap.size
    · rw [if_pos hk]; exact hu.block k hk
    · rw [if_neg hk, Array.getElem?_extract]
      have := hu.size
      by_cases h2 : k < w'.heap.size
      · rw [if_pos (by omega)]; congr 1; omega
      · rw [if_neg (by omega), Array.getElem?_eq_none (by omega)]
  cases w with
  | mk heap tape drawn os output =>
    cases w' with
    | mk heap' tape' drawn' os' output' =>
      have e1 := hu.os; have e2 := hu.tape; have e3 := hu.output
      simp only at h1 hd e1 e2 e3
      simp only [grow, World.drewN]
      rw [e1, e2, e3, ← h1]
      congr 1
      omega
theorem cmp_laysN (C blk off size : Nat) (w : World) : CmpLays1 Try.prog 20 #[] (encN C) cmpN blk off size w := fun m os dk _ x y =>
  (cmp32 (key (C + x.val)) (key (C + y.val)) _).mono fun e w' ⟨he, hg⟩ => ⟨by rw [he, ord_cmpN], grown_grow hg⟩
/-- The offsets of keys that are near. -/
theorem key_offs {C : Nat} {A : List Nat} (hA : ∀ x ∈ A, C < x ∧ x ≤ C + 512) {ss : List Int} (hp : ss.Perm (A.map key)) :
    ∃ a : List (Fin 513), ss.map (Value.int .u32) = a.map (encN C) ∧ (a.map fun d => C + d.val).Perm A ∧ a.length = ss.length := by
  have hd : ∀ x ∈ A, dist C (key x) = x - C := fun x hx => by have := hA x hx; unfold dist key; omega
  refine ⟨ss.map fun z => Fin.ofNat 513 (dist C z), ?_, ?_, by simp⟩
  · rw [List.map_map]
    refine List.map_congr_left fun z hz => ?_
    obtain ⟨x, hx, rfl⟩ := List.mem_map.1 (hp.mem_iff.1 hz)
    have h1 := hA x hx
    have h2 := hd x hx
    simp only [Function.comp, encN, Fin.ofNat]
    rw [h2, Nat.mod_eq_of_lt (by omega), show C + (x - C) = x by omega]
  · rw [List.map_map]
    have h1 := hp.map (fun z => C + (Fin.ofNat 513 (dist C z)).val)
    rw [List.map_map] at h1
    refine List.Perm.trans ?_ (h1.trans (List.Perm.of_eq ?_))
    · exact List.Perm.of_eq rfl
    · refine (List.map_congr_left (g := id) fun x hx => ?_).trans (List.map_id _)
      have h1 := hA x hx
      have h2 := hd x hx
      simp only [Function.comp, Fin.ofNat]
      rw [h2, Nat.mod_eq_of_lt (by omega)]
      show C + (x - C) = x
      omega
/-- What a sorted permutation of offsets is. -/
theorem sorted_isN {C : Nat} {A : List Nat} (hn : A.Nodup) {a : List (Fin 513)} {d' : Array (Fin 513)} (hp : PermIn 0 a.toArray.size a.toArray d') (hs : SortedIn (ltOf cmpN) 0 a.toArray.size d') (ha : (a.map fun d => C + d.val).Perm A) :
    ((d'.toList.map fun d => C + d.val).Perm A ∧ (d'.toList.map fun d => C + d.val).Pairwise (· < ·)) ∧ d'.size = a.length := by
  obtain ⟨h1, _, h3⟩ := hp
  have hz : d'.size = a.length := by simpa using h1
  have h4 : d'.toList.Perm a := by
    have e1 : (d'.extract 0 a.toArray.size) = d' := by rw [← h1]; simp
    rw [e1] at h3
    simpa using h3
  have h5 := (h4.map fun d => C + d.val).trans ha
  refine ⟨⟨h5, ?_⟩, hz⟩
  rw [List.pairwise_iff_getElem]
  intro i j hi hj hij
  rw [List.length_map] at hi hj
  have h6 := hs i j (Nat.zero_le _) hij (by simpa [hz] using hj)
  rw [lt_cmpN] at h6
  simp only [decide_eq_false_iff_not] at h6
  rw [getElem!_pos d' i (by simpa using hi), getElem!_pos d' j (by simpa using hj)] at h6
  rw [List.getElem_map, List.getElem_map]
  have hne : C + d'.toList[i].val ≠ C + d'.toList[j].val := by
    intro e
    have hnd := h5.nodup_iff.2 hn
    have := (List.pairwise_iff_getElem.1 hnd) i j (by simpa using hi) (by simpa using hj) hij
    rw [List.getElem_map, List.getElem_map] at this
    exact this e
  simp only [Array.getElem_toList] at hne ⊢
  omega
theorem map_flat {α : Type} (f : α → Value) (l : List α) : l.map f = l.map f := rfl
theorem enters20 : ∀ args w, (callFunc 20 args).run Try.prog w = .ok (.enter 20 args) w := enters_of Try.func20 (by kernel_rfl) rfl
/-- A row of the call's own, sorted. -/
theorem sort_w (C : Nat) (A : List Nat) (hA : ∀ x ∈ A, C < x ∧ x ≤ C + 512) (hnd : A.Nodup) (B : Option Addr) (c base : Nat) (ss : List Int) (w : World) (h : OwnI .u32 22 base w B ss.length c ss) (hp : ss.Perm (A.map key)) (hlen : ss.length ≤ 1000) :
    Calls Try.prog 26 #[.slice B ss.length c, .func (.func 20) #[] #[]] w fun e w' => ∃ L : List Nat, e = .returned (.tuple #[]) ∧ (L.Perm A ∧ L.Pairwise (· < ·)) ∧ OwnI .u32 22 base w' B ss.length c (L.map key) ∧ Out (fun k => blk? B = some k) w w' := by
  obtain ⟨a, h1, h2, h3⟩ := key_offs hA hp
  obtain ⟨n, hn⟩ : ∃ n, n = ss.length := ⟨_, rfl⟩
  rw [← hn] at h ⊢
  rcases h.2 with ⟨e1, e2⟩ | ⟨g, cap, cur, hv, hg, hh, r1, r2, r3, r4⟩
  · subst e2
    have ea : a = [] := List.eq_nil_of_length_eq_zero (by omega)
    rw [ea] at h2
    have eA : A = [] := (List.Perm.nil_eq (by simpa using h2)).symm
    injection e1 with e1 _ e3
    subst e1; subst e3
    exact (AnyF.slices_SortFunc_none { sortL with } none 0 _ w).mono fun e w' ⟨he, hw⟩ => ⟨[], he, ⟨by rw [eA], List.Pairwise.nil⟩, by rw [hw]; exact ownI_nil _ _ _ _, by rw [hw]; exact Out.refl _ _⟩
  · injection hv with hv _ hv3
    subst hv; subst hv3
    have hlt := lt_of_blk hh
    have hz : a.toArray.size = n := by simp; omega
    have hH : Holds (encN C) w g 0 a.toArray := by
      intro j hj
      have hj' : j < a.length := by simpa using hj
      refine ⟨?_, by simp [World.frozen?, hh]⟩
      rw [Nat.zero_add]
      refine row_cell h ?_
      show (ss.map (Value.int .u32))[j]? = _
      rw [h1]
      simp [hj']
    have hcon := Any.slices_SortFunc sortL (encN C) (fun x => rfl) cmpN swoN 20 #[] g 0 c a.toArray w enters20 (cmp_laysN C g 0 _ w) hH hlt (by rw [hz]; omega)
    rw [hz] at hcon
    refine Calls.mono (show Calls Try.prog 26 _ _ _ from hcon) fun e w' ⟨he, d', q, os, hpm, hs, hw⟩ => ?_
    obtain ⟨h5, h6⟩ := sorted_isN (C := C) hnd (by rw [hz]; exact hpm) (by rw [hz]; exact hs) h2
    have hb : (putRow (encN C) (Sort.ahead w q) g 0 d').heap[g]? = some (.cells (putCells (encN C) 0 d' cur) 22 (0, 0)) := by
      unfold putRow mapBlock
      rw [Array.getElem?_modify, if_pos rfl, heap_ahead, hh]
      rfl
    have hsz : (putRow (encN C) (Sort.ahead w q) g 0 d').heap.size = w.heap.size := by simp [Sort.ahead]
    refine ⟨_, he, h5, ⟨?_, .inr ⟨g, c, _, rfl, hg, by rw [hw]; unfold sortWorld; rw [heap_grow_old _ _ (by rw [hsz]; exact hlt)]; exact hb, r1, r2, by unfold putCells; simpa using r3, ?_⟩⟩, ?_⟩
    · rw [ints_length]; simp; omega
    · refine List.ext_getElem? fun t => ?_
      rw [List.getElem?_take]
      by_cases ht : t < n * 1
      · rw [if_pos ht]
        have hc : t < cur.size := by omega
        have hd : t < d'.size := by omega
        unfold putCells
        simp [hc, hd, ints, encN]
      · rw [if_neg ht, List.getElem?_eq_none]
        rw [ints_length]; simp; omega
    · rw [hw]
      refine ⟨rfl, rfl, rfl, by unfold sortWorld; rw [size_grow, hsz]; omega, fun k hk hn => ?_⟩
      unfold sortWorld
      rw [heap_grow_old _ _ (by rw [hsz]; exact hk)]
      unfold putRow mapBlock
      rw [Array.getElem?_modify, if_neg (fun e => hn (by rw [e]; rfl)), heap_ahead]
end Go.Proofs.Ytccilbgbjikmpaa
