import Derived.Test.YtgcabidhpnaoiaaFgR2
namespace Go.Proofs.Ytgcabidhpnaoiaa
open Go Go.RowKit
set_option linter.unusedVariables false
set_option linter.unusedSimpArgs false
/-! The reference's out. -/
theorem own_ne {w : World} {base s n b : Nat} {e T : TypeId} {v : Value} {xs : List Value} {cs : Array Value} (h : w.ownsRow base e s v n xs) (hb : w.heap[b]? = some (.cells cs T (0, 0))) (hne : e ≠ T) : ∀ g, v.ownBlock = some g → g ≠ b := by
  rintro g hg rfl
  rcases h.2 with ⟨h2, _⟩ | ⟨g', cap, cur, hv, _, hh, _⟩
  · rw [h2] at hg; cases hg
  · rw [hv] at hg
    have : g' = g := by simpa [Value.ownBlock] using hg
    subst this
    rw [hb] at hh
    injection hh with hh
    injection hh with _ hh
    exact hne hh.symm
theorem row_part {w : World} {base g n c s : Nat} {e : TypeId} {xs ys zs : List Value} (h : w.ownsRow base e s (.slice (some ⟨g, 0, none⟩) n c) n (xs ++ ys ++ zs)) {o : Nat} (ho : o = xs.length) : Cells w (some ⟨g, o, none⟩) ys := fun hne => by
  subst ho
  have hc : ∀ (j : Nat) (u : Value), ys[j]? = some u → w.cell? ⟨g, xs.length + j, none⟩ = some u := fun j u hu => row_cell h (by
    rw [List.append_assoc, List.getElem?_append_right (by omega), Nat.add_sub_cancel_left, List.getElem?_append_left (List.getElem?_eq_some_iff.1 hu).1]; exact hu)
  obtain ⟨y, hy⟩ : ∃ y, ys[0]? = some y := by cases ys with
    | nil => exact absurd rfl hne
    | cons a l => exact ⟨a, rfl⟩
  exact ⟨g, _, rfl, cell_lt (hc 0 y hy), hc⟩
namespace Fg
theorem info51 : (Try.prog.info? 51).map (fun i => (i.zero, i.size, i.bytes)) = some (some (.agg #[.int .u32 0, .int .u16 0, .int .u16 0, .bool false, .bool false, .bool false, .slice none 0 0]), 7, 40) := by kernel_rfl
theorem info5 : (Try.prog.info? 5).map (fun i => (i.zero, i.size, i.bytes)) = some (some (.int .u8 0), 1, 1) := by kernel_rfl
theorem pcc_one (l : List PcB) : ∀ u ∈ l.flatMap pcc, u.oneCell' = true := by
  intro u hu
  obtain ⟨x, _, hx⟩ := List.mem_flatMap.1 hu
  simp only [pcc, List.mem_cons, List.not_mem_nil, or_false] at hx
  rcases hx with h | h | h | h | h | h | h <;> rw [h] <;> rfl
/-- What is left when i of a message went. -/
def left (l : List PcB) (t i : Nat) : List PcB := l.filter fun x => decide (i ≤ off t x.p.tsn)
theorem left_zero (l : List PcB) (t : Nat) : left l t 0 = l := by unfold left; rw [List.filter_eq_self]; simp
theorem apart_sub {l m : List PcB} (h : Apart (ps l)) (hs : m.Sublist l) : Apart (ps m) := List.Pairwise.sublist (hs.map _) h
theorem left_sub (l : List PcB) (t i : Nat) : (left l t i).Sublist l := List.filter_sublist
theorem left_succ {l l1 l2 : List PcB} {x : PcB} {t i : Nat} (ha : Apart (ps l)) (ht : t < 4294967296) (hi : i < 1024) (hb : ∀ y ∈ l, y.p.tsn < 4294967296) (hx : x.p.tsn = add t i) (h : left l t i = l1 ++ x :: l2) : left l t (i + 1) = l1 ++ l2 := by
  have e1 : left l t (i + 1) = (left l t i).filter fun y => !decide (y.p.tsn = add t i) := by
    unfold left
    rw [List.filter_filter]
    refine List.filter_congr fun y hy => ?_
    have := hb y hy
    rw [Bool.eq_iff_iff]
    simp
    unfold off add
    omega
  have hap := apart_sub ha (left_sub l t i)
  rw [e1, h]
  rw [h] at hap
  unfold ps Apart at hap
  rw [List.map_append, List.map_cons, List.pairwise_append, List.pairwise_cons] at hap
  obtain ⟨_, ⟨p2, _⟩, p3⟩ := hap
  rw [List.filter_append, List.filter_cons, if_neg (by simp [hx])]
  congr 1
  · rw [List.filter_eq_self]
    intro y hy
    have := p3 y.p (List.mem_map.2 ⟨y, hy, rfl⟩) x.p (by simp)
    rw [hx] at this
    simpa using this
  · rw [List.filter_eq_self]
    intro y hy
    have := p2 y.p (List.mem_map.2 ⟨y, hy, rfl⟩)
    rw [hx] at this
    simpa using Ne.symm this
theorem left_at {l : List PcB} {t n i : Nat} (hw : Whole (ps l) t n) (hi : i < n) : ∃ k x, ix (left l t i) (add t i) = some k ∧ (left l t i)[k]? = some x ∧ x.p.tsn = add t i ∧ x ∈ l := by
  have hlt := hw.lt
  have hle := hw.le
  obtain ⟨_, _, _, p, hp, _, hall⟩ := hw
  obtain ⟨q, hq, hqt, _⟩ := hall i hi
  obtain ⟨y, hy, rfl⟩ := List.mem_map.1 hq
  cases hk : ix (left l t i) (add t i) with
  | none =>
    refine absurd hqt (ix_none hk y.p (List.mem_map.2 ⟨y, ?_, rfl⟩))
    unfold left
    rw [List.mem_filter]
    exact ⟨hy, by rw [hqt]; simp; unfold off add; omega⟩
  | some k =>
    obtain ⟨x, hx, he⟩ := ix_some hk
    exact ⟨k, x, rfl, hx, he, (left_sub l t i).subset (List.mem_of_getElem? hx)⟩
theorem bytes_succ {l : List PcB} {t i : Nat} {x : PcB} (ha : Apart (ps l)) (hx : x ∈ l) (he : x.p.tsn = add t i) : bytesOf (ps l) t (i + 1) = bytesOf (ps l) t i ++ x.p.bs := by
  unfold bytesOf
  rw [List.range_succ, List.flatMap_append]
  congr 1
  have := find_apart ha (p := x.p) (List.mem_map.2 ⟨x, hx, rfl⟩)
  rw [he] at this
  simp [this]
theorem split_at {α : Type} {l : List α} {k : Nat} {x : α} (h : l[k]? = some x) : ∃ l1 l2, l = l1 ++ x :: l2 ∧ l1.length = k := by
  obtain ⟨hk, e⟩ := List.getElem?_eq_some_iff.1 h
  refine ⟨l.take k, l.drop (k + 1), ?_, by simp; omega⟩
  rw [← e, List.getElem_cons_drop, List.take_append_drop]
end Fg
open Fg
end Go.Proofs.Ytgcabidhpnaoiaa
