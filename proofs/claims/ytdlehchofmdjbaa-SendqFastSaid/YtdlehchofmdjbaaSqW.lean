import Derived.Test.YtdlehchofmdjbaaSqN1
import Derived.Laws.BitsAllLaws
namespace Go.Proofs.Ytdlehchofmdjbaa
open Go Go.RowKit Sq
set_option linter.unusedVariables false
set_option linter.unusedSimpArgs false
/-! Within; whether a number is in the Gaps. -/
set_option maxHeartbeats 400000 in
theorem within_any (a b c : Nat) (w : World) (ha : a < 4294967296) (hb : b < 4294967296) (hc : c < 4294967296) : Calls Try.prog 20 #[.int .u32 (a : Int), .int .u32 (b : Int), .int .u32 (c : Int)] w fun e w' => e = .returned (.bool (decide ((c + 4294967296 - a) % 4294967296 ≤ (b + 4294967296 - a) % 4294967296))) ∧ Hid (Up w w') := by
  have hmf : ∀ (fn : Fn) (first cap : Array Value) (w : World), (Instr.makeFunc fn first cap).run Try.prog w = .ok (.func fn first cap) w := fun _ _ _ _ => rfl
  have HE := Lib.hid (show decide (((c : Int) - (a : Int)) % 4294967296 ≤ ((b : Int) - (a : Int)) % 4294967296) = decide ((c + 4294967296 - a) % 4294967296 ≤ (b + 4294967296 - a) % 4294967296) from by
    congr 1
    apply propext
    omega)
  have HU := Lib.hid (up_alloc w (.cells #[.int .u32 (a : Int)] 22))
  go_enter Try.func20, Try.ntmps20
  go_wp2
  go_ret
  exact ⟨by rw [← HE.out]; rfl, HU⟩
/-- A gap as the closure sees it. -/
theorem gap_any (f t v : Nat) (b : Nat) (w : World) (hf : f < 65536) (ht : t < 65536) (hb : w.heap[b]? = some (.cells #[.int .u32 (v : Int)] 22 (0, 0))) : Calls Try.prog 38 #[.agg #[.int .u16 (f : Int), .int .u16 (t : Int)], .pointer (some ⟨b, 0, none⟩)] w fun e w' => e = .returned (.bool (decide (f ≤ v) && decide (v ≤ t))) ∧ Hid (Up w w') := by
  have HC := Lib.hid (new_at w (.cells #[.int .u16 (f : Int), .int .u16 (t : Int)] 39))
  have HU := Lib.hid (up_alloc w (.cells #[.int .u16 (f : Int), .int .u16 (t : Int)] 39))
  have HB := Lib.hid hb
  clear hb
  go_enter Try.func38, Try.ntmps38
  go_upto_region 1 with (fail)
  generalize w.alloc (.cells #[.int .u16 (f : Int), .int .u16 (t : Int)] 39) = w1 at HC HU ⊢
  generalize w.heap.size = g at HC ⊢
  have g0 : w1.cell? ⟨g, 0, none⟩ = some (.int .u16 (f : Int)) := cell_of HC.out rfl
  have g1 : w1.cell? ⟨g, 1, none⟩ = some (.int .u16 (t : Int)) := cell_of HC.out rfl
  have b0 : w1.cell? ⟨b, 0, none⟩ = some (.int .u32 (v : Int)) := cell_of ((HU.out.block _ (lt_of_blk HB.out)).trans HB.out) rfl
  by_cases h1 : f ≤ v
  · have d1 : decide ((f : Int) ≤ (v : Int)) = true := by simpa using h1
    have h1' : (f : Int) ≤ (v : Int) := by omega
    go_wp2_with fail
    go_ret
    refine ⟨?_, HU⟩
    simp [h1]
  · have d1 : decide ((f : Int) ≤ (v : Int)) = false := by simpa using h1
    have h1' : ¬ (f : Int) ≤ (v : Int) := by omega
    go_wp2_with fail
    go_ret
    refine ⟨?_, HU⟩
    simp [h1]
namespace Sq
def gcl (g : Nat × Nat) : List Value := [.int .u16 (g.1 : Int), .int .u16 (g.2 : Int)]
theorem gcl_len (g : Nat × Nat) : (gcl g).length = 2 := rfl
def hitG (v : Nat) (g : Nat × Nat) : Bool := decide (g.1 ≤ v) && decide (v ≤ g.2)
/-- Gaps that came in. -/
structure InGs (w : World) (A : Option Addr) (n c : Nat) (G : List (Nat × Nat)) : Prop where
  cells : Cells w A (G.flatMap gcl)
  len : n = G.length
  cap : n ≤ c
  bd : ∀ g ∈ G, g.1 < 65536 ∧ g.2 < 65536
theorem InGs.up {w w' : World} {A : Option Addr} {n c : Nat} {G : List (Nat × Nat)} (h : InGs w A n c G) (hu : Up w w') : InGs w' A n c G := ⟨h.cells.up hu, h.len, h.cap, h.bd⟩
theorem any_take {α : Type} {p : α → Bool} {l : List α} {k : Nat} {x : α} (h : l[k]? = some x) : (l.take (k + 1)).any p = ((l.take k).any p || p x) := by
  rw [List.take_add_one, h, List.any_append]; simp
theorem any_at {α : Type} {p : α → Bool} {l : List α} {k : Nat} {x : α} (h : l[k]? = some x) (hp : p x = true) : l.any p = true := List.any_eq_true.2 ⟨x, List.mem_of_getElem? h, hp⟩
theorem InGs.at_ {w : World} {A : Option Addr} {n c : Nat} {G : List (Nat × Nat)} (h : InGs w A n c G) {k : Nat} (hk : k < n) : ∃ (x : Nat × Nat) (b o : Nat), G[k]? = some x ∧ A = some ⟨b, o, none⟩ ∧ w.cell? ⟨b, o + k * 2, none⟩ = some (.int .u16 (x.1 : Int)) ∧ w.cell? ⟨b, o + k * 2 + 1, none⟩ = some (.int .u16 (x.2 : Int)) ∧ x.1 < 65536 ∧ x.2 < 65536 := by
  obtain ⟨x, hx⟩ : ∃ x, G[k]? = some x := ⟨_, List.getElem?_eq_getElem (by rw [← h.len]; exact hk)⟩
  have hne : G.flatMap gcl ≠ [] := fun e => by
    have := congrArg List.length e
    rw [rowG_length gcl 2 gcl_len, ← h.len] at this
    simp at this
    omega
  obtain ⟨b, o, e, _, hc⟩ := h.cells hne
  have h0 := hc _ _ (rowG_at gcl 2 gcl_len hx (j := 0) rfl)
  have h1 := hc _ _ (rowG_at gcl 2 gcl_len hx (j := 1) rfl)
  exact ⟨x, b, o, hx, e, h0, by rw [Nat.add_assoc]; exact h1, h.bd x (List.mem_of_getElem? hx)⟩
end Sq
set_option maxRecDepth 100000 in
set_option maxHeartbeats 1000000 in
theorem idxG_any (A : Option Addr) (n c v : Nat) (G : List (Nat × Nat)) (b : Nat) (w : World) (h : InGs w A n c G) (hn : n ≤ 100000) (hb : w.heap[b]? = some (.cells #[.int .u32 (v : Int)] 22 (0, 0))) :
    Calls Try.prog 44 #[.slice A n c, .func (.func 38) #[] #[.pointer (some ⟨b, 0, none⟩)]] w fun e w' => ∃ r : Int, e = .returned (.int .i64 r) ∧ Hid (decide (0 ≤ r) = G.any (hitG v)) ∧ Hid (Up w w') := by
  have H := Lib.hid h
  have HB := Lib.hid hb
  have HN := Lib.hid h.len
  have hcap := h.cap
  clear h hb
  go_enter Try.func44, Try.ntmps44
  go_wp2_with fail
  go_loopw [8] (fun i wr => ∃ k : Nat, k ≤ n ∧ i = .int .i64 (k : Int) ∧ Hid ((G.take k).any (hitG v) = false) ∧ Hid (Up w wr)) (fun i _ => n - (intOf i).toNat)
  case atStart => exact ⟨0, Nat.zero_le _, rfl, Lib.hid (by simp), Lib.hid (Up.refl _)⟩
  case round =>
    obtain ⟨k, hk, rfl, hA, hU⟩ := hrel
    by_cases hlt : k < n
    · obtain ⟨x, b2, o, hx, rfl, k0, k1, hf, ht⟩ := (H.out.up hU.out).at_ hlt
      have HX := Lib.hid hx
      have HB1 := Lib.hid ((hU.out.block _ (lt_of_blk HB.out)).trans HB.out)
      obtain ⟨f, t⟩ := x
      simp only at k0 k1 hf ht
      clear hx
      go_wp2_with fail
      refine (gap_any f t v b wr hf ht HB1.out).mono ?_
      rintro e w1 ⟨rfl, hu⟩
      have HU1 := Lib.hid (hU.out.trans hu.out)
      clear hu k0 k1
      cases hb : (decide (f ≤ v) && decide (v ≤ t))
      · have HBB := Lib.hid (show hitG v (f, t) = false from hb)
        clear hb
        go_wp2_with fail
        go_roundw
        case rel => exact ⟨k + 1, by omega, by go_num, Lib.hid (by rw [any_take HX.out, hA.out, HBB.out]; rfl), HU1⟩
        case measure => simp [intOf]; omega
      · have HBB := Lib.hid (show hitG v (f, t) = true from hb)
        clear hb
        go_wp2_with fail
        go_ret
        exact ⟨_, rfl, Lib.hid (by rw [any_at HX.out HBB.out]; simp), HU1⟩
    · obtain rfl : k = n := by omega
      go_wp2_with fail
      go_ret
      exact ⟨_, rfl, Lib.hid (by have := hA.out; rw [List.take_of_length_le (by rw [HN.out]; exact Nat.le_refl _)] at this; rw [this]; rfl), hU⟩
set_option maxRecDepth 100000 in
theorem contG_any (A : Option Addr) (n c v : Nat) (G : List (Nat × Nat)) (b : Nat) (w : World) (h : InGs w A n c G) (hn : n ≤ 100000) (hb : w.heap[b]? = some (.cells #[.int .u32 (v : Int)] 22 (0, 0))) :
    Calls Try.prog 37 #[.slice A n c, .func (.func 38) #[] #[.pointer (some ⟨b, 0, none⟩)]] w fun e w' => e = .returned (.bool (G.any (hitG v))) ∧ Hid (Up w w') := by
  have H := Lib.hid h
  have HB := Lib.hid hb
  clear h hb
  go_enter Try.func37, Try.ntmps37
  go_wp2_with fail
  refine (idxG_any A n c v G b w H.out hn HB.out).mono ?_
  rintro e w1 ⟨r, rfl, hr, hu⟩
  go_wp2_with fail
  go_ret
  exact ⟨by rw [← hr.out]; rfl, hu⟩
set_option maxRecDepth 100000 in
theorem inGaps_any (A : Option Addr) (n c v : Nat) (G : List (Nat × Nat)) (w : World) (h : InGs w A n c G) (hn : n ≤ 100000) :
    Calls Try.prog 29 #[.slice A n c, .int .u32 (v : Int)] w fun e w' => e = .returned (.bool (G.any (hitG v))) ∧ Hid (Up w w') := by
  have hmf : ∀ (fn : Fn) (first cap : Array Value) (w : World), (Instr.makeFunc fn first cap).run Try.prog w = .ok (.func fn first cap) w := fun _ _ _ _ => rfl
  have HU := Lib.hid (up_alloc w (.cells #[.int .u32 (v : Int)] 22))
  have HB := Lib.hid (new_at w (.cells #[.int .u32 (v : Int)] 22))
  have H := Lib.hid (h.up HU.out)
  clear h
  go_enter Try.func29, Try.ntmps29
  go_wp2_with fail
  refine (contG_any A n c v G w.heap.size _ H.out hn HB.out).mono ?_
  rintro e w1 ⟨rfl, hu⟩
  go_wp2_with fail
  go_ret
  exact ⟨rfl, Lib.hid (HU.out.trans hu.out)⟩
end Go.Proofs.Ytdlehchofmdjbaa
