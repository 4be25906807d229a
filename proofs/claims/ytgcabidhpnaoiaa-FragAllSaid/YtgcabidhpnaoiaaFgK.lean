import Derived.Test.YtgcabidhpnaoiaaLwA1
import Derived.Test.YtgcabidhpnaoiaaFgV
namespace Go.Proofs.Ytgcabidhpnaoiaa
open Go Go.RowKit Go.Shelf Fg
set_option linter.unusedVariables false
/-! FragAll: which pieces came; the order's slice. -/
/-- A slice of uint16. -/
structure InO (w : World) (A : Option Addr) (n c : Nat) (xs : List Int) : Prop where
  cells : Cells w A (ints .u16 xs)
  ok : ∀ x ∈ xs, 0 ≤ x ∧ x < 65536
  len : xs.length = n
theorem InO.up {w w' : World} {A : Option Addr} {n c : Nat} {l : List Int} (h : InO w A n c l) (hu : Up w w') : InO w' A n c l := ⟨h.cells.up hu, h.ok, h.len⟩
theorem InO.at_ {w : World} {A : Option Addr} {n c : Nat} {l : List Int} (h : InO w A n c l) {k : Nat} (hk : k < n) : ∃ (x : Nat) (g o : Nat), x < 65536 ∧ A = some ⟨g, o, none⟩ ∧ w.cell? ⟨g, o + k, none⟩ = some (.int .u16 (x : Int)) := by
  have hkl : k < l.length := by rw [h.len]; exact hk
  obtain ⟨g, o, rfl, _, hc⟩ := h.cells (by intro e; unfold ints at e; rw [List.map_eq_nil_iff] at e; subst e; simp at hkl)
  have hm := h.ok _ (List.getElem_mem hkl)
  obtain ⟨x, hx⟩ := Int.eq_ofNat_of_zero_le hm.1
  refine ⟨x, g, o, by omega, rfl, ?_⟩
  rw [← hx]
  exact hc k _ (by unfold ints; rw [List.getElem?_map, List.getElem?_eq_getElem hkl]; rfl)
theorem lay_len {L : Lay} {lo : List PcB} (h : ps lo = L.list) : lo.length = L.N := by
  have h1 := congrArg List.length h
  simpa [ps, Lay.list] using h1
theorem pcc_cells {w : World} {base g n c : Nat} {l : List PcB} (h : w.ownsRow base 51 7 (.slice (some ⟨g, 0, none⟩) n c) n (l.flatMap pcc)) {k : Nat} {y : PcB} (hy : l[k]? = some y) :
    w.cell? ⟨g, k * 7, none⟩ = some (.int .u32 y.p.tsn) ∧ w.cell? ⟨g, k * 7 + 1, none⟩ = some (.int .u16 y.p.st) ∧ w.cell? ⟨g, k * 7 + 2, none⟩ = some (.int .u16 y.p.sq) ∧ w.cell? ⟨g, k * 7 + 3, none⟩ = some (.bool y.p.bg) ∧ w.cell? ⟨g, k * 7 + 4, none⟩ = some (.bool y.p.en) ∧ w.cell? ⟨g, k * 7 + 5, none⟩ = some (.bool y.p.un) ∧ w.cell? ⟨g, k * 7 + 6, none⟩ = some (.slice y.A y.p.bs.length y.c) :=
  ⟨row_cell h (rowG_at pcc 7 pcc_len hy (j := 0) rfl), row_cell h (rowG_at pcc 7 pcc_len hy (j := 1) rfl), row_cell h (rowG_at pcc 7 pcc_len hy (j := 2) rfl), row_cell h (rowG_at pcc 7 pcc_len hy (j := 3) rfl), row_cell h (rowG_at pcc 7 pcc_len hy (j := 4) rfl), row_cell h (rowG_at pcc 7 pcc_len hy (j := 5) rfl), row_cell h (rowG_at pcc 7 pcc_len hy (j := 6) rfl)⟩
theorem nodup_len : ∀ (C : Nat) (js : List Nat), js.Nodup → (∀ j ∈ js, j < C) → js.length ≤ C
  | 0, [], _, _ => Nat.le_refl _
  | 0, j :: js, _, h => absurd (h j (List.mem_cons_self ..)) (Nat.not_lt_zero _)
  | C + 1, js, hn, h => by
    by_cases hc : C ∈ js
    · have h1 := nodup_len C (js.erase C) (hn.erase _) (fun j hj => by
        have h2 := (hn.mem_erase_iff).1 hj
        have := h j h2.2
        have := h2.1
        omega)
      rw [List.length_erase_of_mem hc] at h1
      omega
    · have := nodup_len C js hn (fun j hj => by
        have := h j hj
        have : j ≠ C := fun e => hc (e ▸ hj)
        omega)
      omega
/-- Which pieces came. -/
def Came (L : Lay) (lp : List PcB) (i : Nat) (R : List Nat) : Prop := ∀ k, k ∈ R ↔ k < L.N ∧ ∃ j y, j < i ∧ lp[j]? = some y ∧ y.p = L.pc k
theorem came_next {L : Lay} (hL : L.Ok) {lp lo : List PcB} (hP : lp.Perm lo) (hl : ps lo = L.list) {i : Nat} {R : List Nat} (hR : Came L lp i R) {y : PcB} (hy : lp[i]? = some y) :
    ∃ k, k < L.N ∧ y.p = L.pc k ∧ k ∉ R ∧ Came L lp (i + 1) (k :: R) := by
  have hp : (ps lp).Perm L.list := by rw [← hl]; exact hP.map _
  have hd : (ps lp).Pairwise fun p q => p.tsn ≠ q.tsn := by
    refine (hp.pairwise_iff (fun {_ _} e h => e h.symm)).2 ?_
    unfold Lay.list
    rw [List.pairwise_map]
    refine (List.nodup_range (n := L.N)).imp_of_mem ?_
    intro a b ha hb hne e
    exact hne (pc_inj hL (List.mem_range.1 ha) (List.mem_range.1 hb) e)
  have hm : y.p ∈ L.list := hp.mem_iff.1 (List.mem_map.2 ⟨y, List.mem_of_getElem? hy, rfl⟩)
  obtain ⟨k, hk, e⟩ := List.mem_map.1 hm
  have hk := List.mem_range.1 hk
  refine ⟨k, hk, e.symm, fun h => ?_, fun k' => ?_⟩
  · obtain ⟨_, j, z, hj, hz, hzk⟩ := (hR k).1 h
    obtain ⟨h1, h2⟩ := List.getElem?_eq_some_iff.1 hz
    obtain ⟨h3, h4⟩ := List.getElem?_eq_some_iff.1 hy
    have h5 := List.pairwise_iff_getElem.1 hd j i (by simpa [ps] using h1) (by simpa [ps] using h3) hj
    simp only [ps, List.getElem_map, h2, h4] at h5
    exact h5 (by rw [hzk, e])
  · rw [List.mem_cons, hR]
    constructor
    · rintro (rfl | ⟨h1, j, z, hj, hz, hzk⟩)
      · exact ⟨hk, i, y, by omega, hy, e.symm⟩
      · exact ⟨h1, j, z, by omega, hz, hzk⟩
    · rintro ⟨h1, j, z, hj, hz, hzk⟩
      rcases Nat.lt_or_ge j i with h2 | h2
      · exact .inr ⟨h1, j, z, h2, hz, hzk⟩
      · obtain rfl : j = i := by omega
        rw [hy] at hz
        cases hz
        left
        exact pc_inj hL h1 hk (by rw [← hzk, ← e])
theorem came_all {L : Lay} {lp lo : List PcB} (hP : lp.Perm lo) (hl : ps lo = L.list) {R : List Nat} (hR : Came L lp lp.length R) : ∀ k, k < L.N → k ∈ R := by
  intro k hk
  have hp : (ps lp).Perm L.list := by rw [← hl]; exact hP.map _
  obtain ⟨y, hy, e⟩ := List.mem_map.1 (hp.mem_iff.2 (List.mem_map.2 ⟨k, List.mem_range.2 hk, rfl⟩))
  obtain ⟨j, hj, e2⟩ := List.getElem_of_mem hy
  exact (hR k).2 ⟨hk, j, y, hj, by rw [List.getElem?_eq_getElem hj, e2], e⟩
theorem lay_byt {L : Lay} (hL : L.Ok) (hb : ∀ j, j < L.C → Byt (L.bs j)) {i : Nat} (hi : i < L.N) : Byt (L.pc i).bs := by
  intro x hx
  obtain ⟨h1, h2, h3⟩ := hL.mg i hi
  refine hb _ h1 x ?_
  rw [← hL.bytes _ h1, List.mem_flatMap]
  exact ⟨i - L.a (L.mg i), List.mem_range.2 (by omega), by rw [show L.a (L.mg i) + (i - L.a (L.mg i)) = i by omega]; exact hx⟩
theorem lay_sq {L : Lay} (hL : L.Ok) {i : Nat} (hi : i < L.N) : (L.pc i).bs.length ≤ 256 ∧ (L.pc i).tsn < 4294967296 ∧ (L.pc i).st < 65536 ∧ (L.pc i).sq < 65536 := by
  have h1 := hL.form i hi
  have h2 := hL.small _ (hL.mg i hi).1
  have h3 := hL.tsn i hi
  have h4 := (hL.lab i hi).2.1
  unfold Form at h1
  exact ⟨h1.2.1, by rw [h3]; unfold add; omega, Nat.lt_of_lt_of_le h1.2.2 (by decide), by omega⟩
end Go.Proofs.Ytgcabidhpnaoiaa
