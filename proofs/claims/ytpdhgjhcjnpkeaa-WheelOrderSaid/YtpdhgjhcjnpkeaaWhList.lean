import Derived.Test.YtpdhgjhcjnpkeaaSortL
namespace Go.Proofs.Ytpdhgjhcjnpkeaa
open Go Go.RowKit Go.Shelf Go.Sort
set_option linter.unusedVariables false
def encT (x : Tm.T) : List Value := [.int .i64 x.1, .int .i64 x.2]
theorem flat_tcells (d : Array Tm.T) : (flatK encT 2 d).toList = tcells d.toList := by
  refine List.ext_getElem? fun t => ?_
  by_cases ht : t < d.size * 2
  · have hl : t / 2 < d.toList.length := by simp; omega
    have e1 : (flatK encT 2 d).toList[t]? = some ((encT d[t / 2]!)[t % 2]!) := by
      rw [← get_flatK encT 2 d t ht]
      simp [ht]
    have ea : d[t / 2]! = Hp.at_ d.toList (t / 2) := by
      unfold Hp.at_
      rw [List.getD_eq_getElem?_getD, List.getElem?_eq_getElem hl]
      simp only [Array.length_toList] at hl
      rw [getElem!_pos d (t / 2) hl]
      simp
    obtain ⟨t1, t2⟩ := tcellsT_get hl
    rw [e1, ea]
    rcases Nat.mod_two_eq_zero_or_one t with h | h
    · rw [h, show t = t / 2 * 2 by omega, show t / 2 * 2 / 2 = t / 2 by omega, t1]; rfl
    · rw [h, show t = t / 2 * 2 + 1 by omega, show (t / 2 * 2 + 1) / 2 = t / 2 by omega, t2]; rfl
  · rw [List.getElem?_eq_none (by simp; omega), List.getElem?_eq_none (by rw [tcells_length]; simp; omega)]
theorem grown_grow {w w' : World} (h : Grown w w') : ∃ q os, w' = grow (w.drewN q) os := by
  obtain ⟨hu, hd⟩ := h
  refine ⟨w'.drawn - w.drawn, w'.heap.extract w.heap.size w'.heap.size, ?_⟩
  have h1 : w'.heap = w.heap ++ w'.heap.extract w.heap.size w'.heap.size := by
    refine Array.ext_getElem? fun k => ?_
    rw [Array.getElem?_append]
    by_cases hk : k < w.heap.size
    · rw [if_pos hk]; exact hu.block k hk
    · rw [if_neg hk, Array.getElem?_extract]
      have := hu.size
      by_cases h2 : k < w'.heap.size
      · rw [if_pos (by omega)]; congr 1; omega
      · rw [if_neg (by omega), Array.getElem?_eq_none (by omega)]
  cases w with
  | mk heap tape drawn os output =>
    cases w' with
    | mk heap' tape' drawn' os' output' =>
      have e1 := hu.os; have e2 := hu.tape; have e3 := hu.output
      simp only at h1 hd e1 e2 e3
      simp only [grow, World.drewN]
      rw [e1, e2, e3, ← h1]
      congr 1
      omega
theorem cmp_lays (blk off size : Nat) (w : World) : CmpLays Try.prog 19 #[] encT 2 cmpT blk off size w := fun m os dk _ x y =>
  (compare_w x y _).mono fun e w' ⟨he, hg⟩ => ⟨he, grown_grow hg⟩
theorem lt_bef (x y : Tm.T) : ltOf cmpT x y = decide (Tm.Bef x y) := cmpT_bef x y
theorem swoT : SWO (ltOf cmpT) where
  irrefl x := by rw [lt_bef]; exact decide_eq_false (Tm.bef_irrefl x)
  trans x y z h1 h2 := by rw [lt_bef] at *; simp only [decide_eq_true_eq] at *; exact Tm.bef_trans h1 h2
  ntrans x y z h1 h2 := by
    rw [lt_bef] at *
    simp only [decide_eq_false_iff_not] at *
    unfold Tm.Bef at *
    omega
/-- What a sorted permutation of alarms is. -/
theorem sorted_is {a L : List Tm.T} {d' : Array Tm.T} (hp : PermIn 0 a.toArray.size a.toArray d') (hs : SortedIn (ltOf cmpT) 0 a.toArray.size d') (hperm : a.Perm L) (hsrt : Tm.Srt L) (hids : Tm.Ids L) : d'.toList = L := by
  obtain ⟨h1, _, h3⟩ := hp
  have hz : d'.size = a.length := by simpa using h1
  have h4 : d'.toList.Perm a := by
    have e1 : (d'.extract 0 a.toArray.size) = d' := by rw [← h1]; simp
    rw [e1] at h3
    simpa using h3
  have h5 : d'.toList.Perm L := h4.trans hperm
  have hi := (Hp.ids_perm h5).2 hids
  refine Tm.srt_ext ?_ hsrt (fun x => h5.mem_iff)
  unfold Tm.Srt
  rw [List.pairwise_iff_getElem]
  intro i j hil hjl hij
  have h6 := hs i j (Nat.zero_le _) hij (by simp at hjl ⊢; omega)
  rw [lt_bef] at h6
  simp only [decide_eq_false_iff_not] at h6
  rw [getElem!_pos d' i (by simpa using hil), getElem!_pos d' j (by simpa using hjl)] at h6
  have hne : d'.toList[i] ≠ d'.toList[j] := by
    intro e
    unfold Tm.Ids at hi
    refine (List.pairwise_iff_getElem.1 hi) i j (by simpa using hil) (by simpa using hjl) hij ?_
    rw [List.getElem_map, List.getElem_map, e]
  rcases Tm.bef_total hne with h7 | h7
  · exact h7
  · simp only [Array.getElem_toList] at h7; exact absurd h7 h6
theorem holds_of_row {w : World} {g c : Nat} {a : List Tm.T} (h : RowB w g c a) : HoldsK encT 2 w g 0 a.toArray := by
  obtain ⟨⟨cur, h1, h2, h3⟩, h4, h5⟩ := h
  intro j hj
  rw [size_flatK] at hj
  have hj2 : j < a.length * 2 := by simpa using hj
  refine ⟨?_, by rw [Nat.zero_add]; exact frozen_at h1⟩
  rw [Nat.zero_add]
  refine cell_of h1 ?_
  have e : (flatK encT 2 a.toArray).toList[j]? = cur.toList[j]? := by
    rw [flat_tcells, List.toList_toArray, ← h3, List.getElem?_take, if_pos hj2]
  rw [Array.getElem?_toList, Array.getElem?_toList] at e
  rw [← e, getElem!_pos _ j (by rw [size_flatK]; exact hj)]
  simp
theorem row_sorted {w : World} {g c : Nat} {a : List Tm.T} (h : RowB w g c a) (hg : g < w.heap.size) {d' : Array Tm.T} (hd : d'.size = a.length) (n : Nat) (os : Array Obj) :
    RowB (sortWorldK encT 2 w g 0 n d' os) g c d'.toList ∧ Out (fun k => k = g) w (sortWorldK encT 2 w g 0 n d' os) := by
  obtain ⟨⟨cur, h1, h2, h3⟩, h4, h5⟩ := h
  have hb : (putRowK encT 2 (Sort.ahead w n) g 0 d').heap[g]? = some (.cells (putCells id 0 (flatK encT 2 d') cur) 33 (0, 0)) := by
    unfold putRowK putRow mapBlock
    rw [Array.getElem?_modify, if_pos rfl, heap_ahead, h1]
    rfl
  have hsz : (putRowK encT 2 (Sort.ahead w n) g 0 d').heap.size = w.heap.size := by unfold putRowK; simp
  constructor
  · refine ⟨⟨_, by unfold sortWorldK; rw [heap_grow_old _ _ (by rw [hsz]; exact hg)]; exact hb, by unfold putCells; simpa using h2, ?_⟩, by simpa [hd] using h4, h5⟩
    rw [← flat_tcells]
    refine List.ext_getElem? fun t => ?_
    rw [List.getElem?_take]
    by_cases ht : t < d'.toList.length * 2
    · rw [if_pos ht]
      simp only [Array.length_toList] at ht
      have hc : t < cur.size := by omega
      unfold putCells
      simp [hc, ht, size_flatK]
    · rw [if_neg ht, List.getElem?_eq_none]
      simp only [Array.length_toList, size_flatK] at ht ⊢
      omega
  · refine ⟨rfl, rfl, rfl, by unfold sortWorldK; rw [size_grow, hsz]; omega, fun k hk hn => ?_⟩
    unfold sortWorldK
    rw [heap_grow_old _ _ (by rw [hsz]; exact hk)]
    unfold putRowK putRow mapBlock
    rw [Array.getElem?_modify, if_neg (fun e => hn e.symm), heap_ahead]
end Go.Proofs.Ytpdhgjhcjnpkeaa
