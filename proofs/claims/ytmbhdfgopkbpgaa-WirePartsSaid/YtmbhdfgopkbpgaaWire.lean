import Derived.Test.YtmbhdfgopkbpgaaBase
import Derived.Test.YtmbhdfgopkbpgaaChecked
namespace Go.Proofs.Ytmbhdfgopkbpgaa
open Go Go.RowKit

theorem info5 : (Try.prog.info? 5).map (fun i => (i.zero, i.size, i.bytes)) = some (some (.int .u8 0), 1, 1) := by kernel_rfl
theorem size5 : (Try.prog.info? 5).map (·.size) = some 1 := by kernel_rfl

/-- make([]byte, n). -/
theorem make_bytes (n : Nat) (hn : n ≤ 281474976710656) (N : Int) (hN : N = (n : Int)) (W : World) : (Instr.makeSlice 22 (.int .i64 N) (.int .i64 N)).run Try.prog W =
    .ok (.slice (some ⟨W.heap.size, 0, none⟩) n n) (W.alloc (.cells (List.replicate n (.int .u8 0)).toArray 5)) := by
  subst hN
  obtain ⟨i0, hi, hz0, hz1, hz2⟩ := info_parts info5
  have h := run_make (P := Try.prog) W 22 5 i0 (.int .u8 0) Try.underlying22 hi hz0 .i64 .i64 n n (by omega) (Int.le_refl _) (by rw [hz2]; omega) (by omega)
  have e : madeCells (Value.int .u8 0).cells (n * 1) = (List.replicate n (.int .u8 0)).toArray := by
    apply Array.toList_inj.1
    show (madeCells #[Value.int .u8 0] (n * 1)).toList = _
    rw [toList_madeCells_one]; simp
  rw [hz1] at h
  simp only [Int.toNat_natCast] at h
  rw [e] at h
  exact h

theorem splice_zero (n k : Nat) (xs : List Value) (z : Value) (hn : xs.length = n) : splice (List.replicate (n + k) z) 0 xs = xs ++ List.replicate k z := by
  subst hn; simp [splice]

set_option maxHeartbeats 400000 in
theorem ext_any (A : Option Addr) (n c k : Nat) (xs : List Value) (w : World) (hn : xs.length = n) (hr : Cells w A xs) (h1 : ∀ u ∈ xs, u.oneCell' = true) (hk : n + k ≤ 281474976710656) :
    Calls Try.prog 19 #[.slice A n c, .int .i64 (k : Int)] w fun e w' => e = .returned (.slice (some ⟨w.heap.size, 0, none⟩) (n + k) (n + k)) ∧ Hid (w'.heap[w.heap.size]? = some (.cells (xs ++ List.replicate k (Value.int .u8 0)).toArray 5 (0, 0))) ∧ Below w.heap.size w w' := by
  have hmk := make_bytes (n + k) hk (↑n + ↑k) (by omega)
  have HN := Lib.hid hn
  clear hn
  go_enter Try.func19, Try.ntmps19
  go_wp2_with (with_reducible refine wpList_copy_splice rfl (.tmp 11) (.tmp 12) 22 22 rfl 5 Try.underlying22 size5 (some ⟨w.heap.size, 0, none⟩) A (n + k) (n + k) n c rfl rfl w.heap.size 0 (List.replicate (n + k) (.int .u8 0)) 5 (heap_alloc_new w _) xs (by rw [HN.out]; simp) ?hpos (by rw [HN.out]; simp) h1 w.heap.size w ((Below.refl _ _).alloc (Nat.le_refl _) _) (Nat.le_refl _) ?_)
  case hpos =>
    intro hp
    obtain ⟨b, o, e, hlt, hc⟩ := hr (by intro hx; rw [hx] at hp; simp at hp)
    exact ⟨⟨b, o, none⟩, e, fun j u hu => by rw [add_flat, World.cell?_alloc_lt _ _ ⟨b, o + j, none⟩ hlt]; exact hc j u hu⟩
  intro w2 hrow hbel
  go_wp2
  go_ret
  have hs := hrow.out
  rw [splice_zero n k xs _ HN.out] at hs
  exact ⟨rfl, hs, hbel⟩

theorem size_yes (s : Nat) (w : World) (h1 : 1 ≤ s) (h8 : s ≤ 8) : Calls Try.prog 18 #[.int .i64 (s : Int)] w fun e w' => e = .returned (.bool true) ∧ w = w' := by
  have a1 : (1 : Int) ≤ (s : Int) := by omega
  have a8 : (s : Int) ≤ 8 := by omega
  go_enter Try.func18, Try.ntmps18
  go_wp2
  go_ret
  exact ⟨rfl, rfl⟩
theorem size_no (s : Int) (w : World) (h : s < 1 ∨ 8 < s) : Calls Try.prog 18 #[.int .i64 s] w fun e w' => e = .returned (.bool false) ∧ w = w' := by
  rcases h with h | h
  · go_enter Try.func18, Try.ntmps18
    go_wp2
    go_ret
    exact ⟨rfl, rfl⟩
  · have h1 : (1 : Int) ≤ s := by omega
    have h2 : decide (s ≤ 8) = false := by simp; omega
    go_enter Try.func18, Try.ntmps18
    go_wp2
    go_ret
    exact ⟨rfl, rfl⟩

/-- The s lowest bytes of n, the highest first. -/
def be (n : Int) : Nat → List Int
  | 0 => []
  | s + 1 => n / 2 ^ (8 * s) % 256 :: be n s
theorem be_length (n : Int) (s : Nat) : (be n s).length = s := by induction s <;> simp_all [be]
def u8s (ns : List Int) : List Value := ns.map (Value.int .u8)

theorem u8s_one (xs : List Int) : ∀ u ∈ u8s xs, u.oneCell' = true := by intro u hu; simp [u8s] at hu; obtain ⟨x, _, rfl⟩ := hu; rfl
theorem hrow_start {w' : World} {g s : Nat} {xs : List Int} {n : Int} (h : w'.heap[g]? = some (.cells (u8s xs ++ List.replicate s (Value.int .u8 0)).toArray 5 (0, 0))) :
    Hid (w'.heap[g]? = some (.cells (u8s (xs ++ List.replicate (s - 0) 0 ++ be n 0)).toArray 5 (0, 0))) := by
  show w'.heap[g]? = _
  rw [h]; simp [u8s, be]
theorem put_at {xs ys : List Int} {m s j : Nat} (hm : xs.length = m) (hj : j < s) : (u8s (xs ++ List.replicate (s - j) 0 ++ ys))[m + s - 1 - j]? = some (.int .u8 0) := by
  subst hm
  have h1 : xs.length + s - 1 - j = xs.length + (s - 1 - j) := by omega
  rw [h1, u8s, List.append_assoc, List.map_append, List.getElem?_append_right (by simp)]
  simp only [List.length_map, Nat.add_sub_cancel_left, List.map_append]
  rw [List.getElem?_append_left (by simp; omega), List.getElem?_map, List.getElem?_replicate, if_pos (by omega)]
  rfl
theorem put_cell {wr : World} {g m s j : Nat} {xs : List Int} {n : Int} (h : wr.heap[g]? = some (.cells (u8s (xs ++ List.replicate (s - j) 0 ++ be n j)).toArray 5 (0, 0))) (hm : xs.length = m) (hj : j < s) :
    wr.cell? ⟨g, m + s - 1 - j, none⟩ = some (.int .u8 0) := by
  rw [cell_of_row wr g _ _ 5 (0, 0) h]
  simpa using put_at hm hj
theorem put_free {wr : World} {g k : Nat} {cs : Array Value} (h : wr.heap[g]? = some (.cells cs 5 (0, 0))) : wr.frozen? ⟨g, k, none⟩ = false := frozen_of_row wr g k cs 5 h
theorem put_store {wr : World} {g m s j : Nat} {xs : List Int} {n : Int} (h : wr.heap[g]? = some (.cells (u8s (xs ++ List.replicate (s - j) 0 ++ be n j)).toArray 5 (0, 0))) (hm : xs.length = m) (hj : j < s) :
    Hid ((wr.setCell ⟨g, m + s - 1 - j, none⟩ (.int .u8 (n / 2 ^ (8 * j) % 256))).heap[g]? = some (.cells (u8s (xs ++ List.replicate (s - (j + 1)) 0 ++ be n (j + 1))).toArray 5 (0, 0))) := by
  show _ = _
  rw [heap_setCell_same wr g _ _ 5 _ h]
  congr 2
  apply Array.toList_inj.1
  subst hm
  rw [Array.toList_setIfInBounds]
  simp only [u8s]
  rw [show xs.length + s - 1 - j = xs.length + (s - 1 - j) by omega, show s - j = (s - (j + 1)) + 1 by omega, List.replicate_succ', be]
  rw [List.append_assoc, List.append_assoc, List.append_assoc, List.map_append, List.map_append, List.map_append, List.map_append]
  rw [List.set_append_right _ _ (by simp), List.set_append_right _ _ (by simp only [List.length_map, List.length_replicate]; omega)]
  simp
  have : s - 1 - j - (s - (j + 1)) = 0 := by omega
  rw [this]; simp

set_option maxHeartbeats 400000 in
theorem put_any (A : Option Addr) (m c s : Nat) (xs : List Int) (n : Int) (w : World) (hm : xs.length = m) (hr : Cells w A (u8s xs)) (hk : m + s ≤ 281474976710656) (hs1 : 1 ≤ s) (hs8 : s ≤ 8) :
    Calls Try.prog 9 #[.slice A m c, .int .u64 n, .int .i64 (s : Int)] w fun e w' => e = .returned (.slice (some ⟨w.heap.size, 0, none⟩) (m + s) (m + s)) ∧ Hid (w'.heap[w.heap.size]? = some (.cells (u8s (xs ++ be n s)).toArray 5 (0, 0))) ∧ Below w.heap.size w w' := by
  have HM := Lib.hid hm
  clear hm
  have h1 : (1 : Int) ≤ (s : Int) := by omega
  have h8 : (s : Int) ≤ 8 := by omega
  have hlen : (u8s xs).length = m := by simp [u8s, HM.out]
  have hone := u8s_one xs
  have HL := Lib.hid hlen
  clear hlen
  have HR := Lib.hid hr
  clear hr
  have HO := Lib.hid hone
  clear hone
  go_enter Try.func9, Try.ntmps9
  go_wp2_with (first
    | (go_at_call 18; refine (size_yes s _ hs1 hs8).mono ?_; rintro e w' ⟨rfl, rfl⟩)
    | (go_at_call 19; refine (ext_any A m c s (u8s xs) _ HL.out HR.out HO.out hk).mono ?_; rintro e w' ⟨rfl, hrow, hbel⟩))
  clear HR HO
  have HB := Lib.hid hbel
  clear hbel
  go_loopw [18] (fun i wr => ∃ j : Nat, j ≤ s ∧ i = .int .i64 j ∧ Hid (wr.heap[w.heap.size]? = some (.cells (u8s (xs ++ List.replicate (s - j) 0 ++ be n j)).toArray 5 (0, 0))) ∧ Below w.heap.size w wr) (fun i _ => s - (intOf i).toNat)
  case atStart => exact ⟨0, Nat.zero_le _, rfl, hrow_start hrow.out, HB.out⟩
  case round =>
    obtain ⟨j, hj, rfl, hw, hb⟩ := hrel
    by_cases hlt : j < s
    · have hcell := put_cell hw.out HM.out hlt
      have hfr := put_free (k := m + s - 1 - j) hw.out
      go_wp2
      go_roundw
      case rel => exact ⟨j + 1, by omega, by go_num, put_store hw.out HM.out hlt, (hb.setCell (Nat.le_refl _) _)⟩
      case measure => simp [intOf]; omega
    · obtain rfl : j = s := by omega
      go_wp2
      go_ret
      exact ⟨rfl, by have := hw.out; rwa [Nat.sub_self, List.replicate_zero, List.append_nil] at this, hb⟩

set_option maxHeartbeats 400000 in
theorem put_none (A : Option Addr) (m c : Nat) (s : Int) (xs : List Int) (n : Int) (w : World) (hm : xs.length = m) (hr : Cells w A (u8s xs)) (hk : m ≤ 281474976710656) (hs : s < 1 ∨ 8 < s) :
    Calls Try.prog 9 #[.slice A m c, .int .u64 n, .int .i64 s] w fun e w' => e = .returned (.slice (some ⟨w.heap.size, 0, none⟩) m m) ∧ Hid (w'.heap[w.heap.size]? = some (.cells (u8s xs).toArray 5 (0, 0))) ∧ Below w.heap.size w w' := by
  have HL := Lib.hid (show (u8s xs).length = m by simp [u8s, hm])
  have HO := Lib.hid (u8s_one xs)
  have HR := Lib.hid hr
  clear hr hm
  go_enter Try.func9, Try.ntmps9
  go_wp2_with (first
    | (go_at_call 18; refine (size_no s _ hs).mono ?_; rintro e w' ⟨rfl, rfl⟩)
    | (go_at_call 19; refine (ext_any A m c 0 (u8s xs) _ HL.out HR.out HO.out (by omega)).mono ?_; rintro e w' ⟨rfl, hrow, hbel⟩))
  go_ret
  exact ⟨rfl, by have := hrow.out; rwa [List.replicate_zero, List.append_nil] at this, hbel⟩
end Go.Proofs.Ytmbhdfgopkbpgaa

