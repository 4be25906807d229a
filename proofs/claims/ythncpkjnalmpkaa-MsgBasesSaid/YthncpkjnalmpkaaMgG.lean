import Derived.Test.YthncpkjnalmpkaaMgF
import Derived.Maps.Range
namespace Go.Proofs.Ythncpkjnalmpkaa
open Go Go.RowKit Mg
set_option linter.unusedVariables false
set_option linter.unusedSimpArgs false
/-! The flags, one by one, in whichever order. -/
structure RgF (w : World) (m r g : Nat) (E : List EnF) (seen : Array Nat) : Prop where
  it : ∃ since c0 clk, w.heap[r]? = some (.mapIter (some m) since seen c0) ∧ w.heap[m]? = some (.map (ensF g E) clk) ∧ (∀ x ∈ E, x.2 < since) ∧ since ≤ c0 ∧ since ≤ clk
  nb : (E.map (·.2)).Nodup
  i : ∀ x ∈ E, x.1 < 4
theorem RgF.left {w : World} {m r g : Nat} {E : List EnF} {seen : Array Nat} (h : RgF w m r g E seen) : w.rangeLeft m r = (leftOf (ensF g E) seen).size := by
  obtain ⟨since, c0, clk, h1, h2, _⟩ := h.it
  unfold World.rangeLeft
  rw [h1, h2]
theorem RgF.out {w w' : World} {m r g : Nat} {E : List EnF} {seen : Array Nat} {S : Nat → Prop} (h : RgF w m r g E seen) (ho : Out S w w') (hm : ¬ S m) (hr : ¬ S r) : RgF w' m r g E seen := by
  obtain ⟨since, c0, clk, h1, h2, h3⟩ := h.it
  exact ⟨⟨since, c0, clk, ho.blk h1 hr, ho.blk h2 hm, h3⟩, h.nb, h.i⟩
theorem RgF.next {w : World} {m r g : Nat} {E : List EnF} {seen : Array Nat} (h : RgF w m r g E seen) :
    ((∀ x ∈ E, seen.contains x.2 = true) ∧ ∀ ty, (Instr.next (.pointer (some ⟨r, 0, none⟩)) false ty).run Try.prog w = .ok (.tuple #[.bool false]) w) ∨
    ∃ x ∈ E, seen.contains x.2 = false ∧ ∃ w', (∀ ty, (Instr.next (.pointer (some ⟨r, 0, none⟩)) false ty).run Try.prog w = .ok (.tuple #[.bool true, .int .u8 (bitF x.1), .pointer (some ⟨g, x.1, none⟩)]) w') ∧ RgF w' m r g E (seen.push x.2) ∧ Out (fun k => k = r) w w' ∧
      (Instr.entry (.pointer (some ⟨r, 0, none⟩))).run Try.prog w' = .ok (.tuple #[.int .u8 (bitF x.1), .pointer (some ⟨g, x.1, none⟩)]) w' ∧ w'.rangeLeft m r < w.rangeLeft m r := by
  have hleft := h.left
  obtain ⟨since, c0, clk, h1, h2, h3, h4, h5⟩ := h.it
  have hne : r ≠ m := fun e => by rw [e, h2] at h1; cases h1
  have hborn : ((ensF g E).toList.map (·.born)).Nodup := by
    rw [toList_ensF, List.map_map]
    exact h.nb
  have h3' : ∀ x ∈ (ensF g E).toList, x.born < since := fun x hx => by
    rw [toList_ensF] at hx
    obtain ⟨y, hy, rfl⟩ := List.mem_map.1 hx
    exact h3 y hy
  rcases run_next_at (P := Try.prog) w 0 r m since c0 seen (ensF g E) clk h1 h2 h3' h4 with ⟨h0, hrun⟩ | ⟨e, he, w1, hal, hrun⟩
  · refine .inl ⟨fun x hx => all_seen _ _ h0 (enF g x) (by rw [toList_ensF]; exact List.mem_map.2 ⟨x, hx, rfl⟩), fun ty => ?_⟩
    exact hrun
  · obtain ⟨hem, hes⟩ := mem_left he
    rw [toList_ensF] at hem
    obtain ⟨x, hx, rfl⟩ := List.mem_map.1 hem
    have hr1 : w1.heap[r]? = some (.mapIter (some m) since seen c0) := by rcases hal with rfl | rfl <;> exact h1
    have hb1 : w1.heap[m]? = some (.map (ensF g E) clk) := by rcases hal with rfl | rfl <;> exact h2
    have hset := MapKept.heap_set (o' := .mapIter (some m) since (seen.push x.2) clk) hr1
    have hb' := (hset.2 m (fun e1 => hne e1.symm)).trans hb1
    have hR : RgF (ChangeMaps.setBlock w1 r (.mapIter (some m) since (seen.push x.2) clk)) m r g E (seen.push x.2) := ⟨⟨since, clk, clk, hset.1, hb', h3, h5, h5⟩, h.nb, h.i⟩
    refine .inr ⟨x, hx, hes, _, fun ty => hrun, hR, ?_, run_entry_at _ r m since seen (ensF g E) clk (enF g x) hset.1 hb' (by rw [toList_ensF]; exact hem) hborn, ?_⟩
    · rcases hal with rfl | rfl <;> exact ⟨rfl, rfl, rfl, by simp [ChangeMaps.setBlock], fun i _ hi => hset.2 i (fun e1 => hi e1)⟩
    · have := hR.left
      rw [show (enF g x).born = x.2 from rfl]
      rw [this, hleft]
      exact left_shrinks (ensF g E) seen (enF g x) he
/-- Which flags have come. -/
def cameF (E : List EnF) (seen : Array Nat) (i : Nat) : Bool := E.any fun x => decide (x.1 = i) && seen.contains x.2
theorem came_none (E : List EnF) (i : Nat) : cameF E #[] i = false := by unfold cameF; simp
theorem came_all {E : List EnF} {seen : Array Nat} (h : ∀ x ∈ E, seen.contains x.2 = true) {i : Nat} (hi : i ∈ E.map (·.1)) : cameF E seen i = true := by
  obtain ⟨x, hx, rfl⟩ := List.mem_map.1 hi
  unfold cameF
  rw [List.any_eq_true]
  exact ⟨x, hx, by rw [h x hx]; simp⟩
theorem came_push {E : List EnF} {seen : Array Nat} (hb : (E.map (·.2)).Nodup) {x : EnF} (hx : x ∈ E) (i : Nat) : cameF E (seen.push x.2) i = (cameF E seen i || decide (i = x.1)) := by
  rw [Bool.eq_iff_iff]
  unfold cameF
  simp only [List.any_eq_true, Bool.or_eq_true, Bool.and_eq_true, decide_eq_true_eq, contains_push, beq_iff_eq]
  constructor
  · rintro ⟨y, hy, h1, h2 | h2⟩
    · exact .inl ⟨y, hy, h1, h2⟩
    · right
      obtain ⟨a, ha, rfl⟩ := List.getElem_of_mem hy
      obtain ⟨b, hb', rfl⟩ := List.getElem_of_mem hx
      have := (List.getElem_inj (i := a) (j := b) (h₀ := by simpa using ha) (h₁ := by simpa using hb') hb).1 (by simpa using h2)
      subst this; exact h1.symm
  · rintro (⟨y, hy, h1, h2⟩ | rfl)
    · exact ⟨y, hy, h1, .inl h2⟩
    · exact ⟨x, hx, rfl, .inr rfl⟩
/-- A message's flags, by number. -/
def flF (x : MsB) (i : Nat) : Bool := match i with
  | 0 => x.req
  | 1 => x.prox
  | 2 => x.fail
  | _ => x.again
def valF (s : Nat → Bool) : Int := (if s 0 = true then 128 else 0) + (if s 1 = true then 64 else 0) + (if s 2 = true then 32 else 0) + (if s 3 = true then 16 else 0)
def withF (x : MsB) (f : Nat → Bool) : MsB := { x with req := f 0, prox := f 1, fail := f 2, again := f 3 }
theorem valF_congr {s t : Nat → Bool} (h : ∀ i, i < 4 → s i = t i) : valF s = valF t := by
  unfold valF
  rw [h 0 (by omega), h 1 (by omega), h 2 (by omega), h 3 (by omega)]
theorem withF_congr {x : MsB} {s t : Nat → Bool} (h : ∀ i, i < 4 → s i = t i) : withF x s = withF x t := by
  unfold withF
  rw [h 0 (by omega), h 1 (by omega), h 2 (by omega), h 3 (by omega)]
theorem valF_flF (x : MsB) : valF (flF x) = msFl x.pure := rfl
theorem valF_bd (s : Nat → Bool) : 0 ≤ valF s ∧ valF s ≤ 240 := by
  unfold valF
  cases s 0 <;> cases s 1 <;> cases s 2 <;> cases s 3 <;> decide
theorem valF_none : valF (fun _ => false) = 0 := rfl
def updF (s : Nat → Bool) (i : Nat) (b : Bool) : Nat → Bool := fun j => if j = i then b else s j
theorem cell_flF {w : World} {g : Nat} {x : MsB} (h : w.heap[g]? = some (msO x)) {i : Nat} (hi : i < 4) : w.cell? ⟨g, i, none⟩ = some (.bool (flF x i)) := by
  have : i = 0 ∨ i = 1 ∨ i = 2 ∨ i = 3 := by omega
  rcases this with rfl | rfl | rfl | rfl <;> exact cell_of h rfl
theorem set_flF (x : MsB) {i : Nat} (hi : i < 4) (f : Nat → Bool) (b : Bool) {w : World} {g : Nat} (h : w.heap[g]? = some (msO (withF x f))) : (w.setCell ⟨g, i, none⟩ (.bool b)).heap[g]? = some (msO (withF x (updF f i b))) := by
  have h1 := setCell_at (j := i) (.bool b) h
  rw [h1]
  have : i = 0 ∨ i = 1 ∨ i = 2 ∨ i = 3 := by omega
  rcases this with rfl | rfl | rfl | rfl <;> rfl
end Go.Proofs.Ythncpkjnalmpkaa
