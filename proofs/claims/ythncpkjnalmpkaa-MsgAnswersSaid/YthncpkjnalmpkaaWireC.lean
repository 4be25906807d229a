import Derived.Test.YthncpkjnalmpkaaBytes
import Derived.Test.YthncpkjnalmpkaaChecked
namespace Go.Proofs.Ythncpkjnalmpkaa
open Go Go.RowKit
set_option linter.unusedVariables false
theorem winfo5 : (Try.prog.info? 5).map (fun i => (i.zero, i.size, i.bytes)) = some (some (.int .u8 0), 1, 1) := by kernel_rfl
theorem wsize5 : (Try.prog.info? 5).map (·.size) = some 1 := by kernel_rfl
/-- make([]byte, n). -/
theorem make_bytes (n : Nat) (hn : n ≤ 281474976710656) (N : Int) (hN : N = (n : Int)) (W : World) : (Instr.makeSlice 26 (.int .i64 N) (.int .i64 N)).run Try.prog W =
    .ok (.slice (some ⟨W.heap.size, 0, none⟩) n n) (W.alloc (.cells (List.replicate n (.int .u8 0)).toArray 5)) := by
  subst hN
  obtain ⟨i0, hi, hz0, hz1, hz2⟩ := info_parts winfo5
  have h := run_make (P := Try.prog) W 26 5 i0 (.int .u8 0) Try.underlying26 hi hz0 .i64 .i64 n n (by omega) (Int.le_refl _) (by rw [hz2]; omega) (by omega)
  have e : madeCells (Value.int .u8 0).cells (n * 1) = (List.replicate n (.int .u8 0)).toArray := by
    apply Array.toList_inj.1
    show (madeCells #[Value.int .u8 0] (n * 1)).toList = _
    rw [toList_madeCells_one]; simp
  rw [hz1] at h
  simp only [Int.toNat_natCast] at h
  rw [e] at h
  exact h
theorem splice_zero (n k : Nat) (xs : List Value) (z : Value) (hn : xs.length = n) : splice (List.replicate (n + k) z) 0 xs = xs ++ List.replicate k z := by
  subst hn; simp [splice]
set_option maxHeartbeats 400000 in
theorem ext_any (A : Option Addr) (n c k : Nat) (xs : List Value) (w : World) (hn : xs.length = n) (hr : Cells w A xs) (h1 : ∀ u ∈ xs, u.oneCell' = true) (hk : n + k ≤ 281474976710656) :
    Calls Try.prog 60 #[.slice A n c, .int .i64 (k : Int)] w fun e w' => e = .returned (.slice (some ⟨w.heap.size, 0, none⟩) (n + k) (n + k)) ∧ Hid (w'.heap[w.heap.size]? = some (.cells (xs ++ List.replicate k (Value.int .u8 0)).toArray 5 (0, 0))) ∧ Below w.heap.size w w' := by
  have hmk := make_bytes (n + k) hk (↑n + ↑k) (by omega)
  have HN := Lib.hid hn
  clear hn
  go_enter Try.func60, Try.ntmps60
  go_wp2_with (with_reducible refine wpList_copy_splice rfl (.tmp 11) (.tmp 12) 26 26 rfl 5 Try.underlying26 wsize5 (some ⟨w.heap.size, 0, none⟩) A (n + k) (n + k) n c rfl rfl w.heap.size 0 (List.replicate (n + k) (.int .u8 0)) 5 (heap_alloc_new w _) xs (by rw [HN.out]; simp) ?hpos (by rw [HN.out]; simp) h1 w.heap.size w ((Below.refl _ _).alloc (Nat.le_refl _) _) (Nat.le_refl _) ?_)
  case hpos =>
    intro hp
    obtain ⟨b, o, e, hlt, hc⟩ := hr (by intro hx; rw [hx] at hp; simp at hp)
    exact ⟨⟨b, o, none⟩, e, fun j u hu => by rw [add_flat, World.cell?_alloc_lt _ _ ⟨b, o + j, none⟩ hlt]; exact hc j u hu⟩
  intro w2 hrow hbel
  go_wp2
  go_ret
  have hs := hrow.out
  rw [splice_zero n k xs _ HN.out] at hs
  exact ⟨rfl, hs, hbel⟩
theorem ownI_row {w0 w' : World} {ns : List Int} {m : Nat} (hm : ns.length = m) (h63 : m ≤ maxLen) (h : w'.heap[w0.heap.size]? = some (.cells (ints .u8 ns).toArray 5 (0, 0))) :
    OwnI .u8 5 w0.heap.size w' (some ⟨w0.heap.size, 0, none⟩) m m ns := by
  subst hm
  exact ⟨by simp [ints], .inr ⟨_, _, _, rfl, Nat.le_refl _, h, Nat.le_refl _, h63, by simp [ints], by simp only [Nat.mul_one]; exact List.take_of_length_le (by simp [ints])⟩⟩
theorem size_yes (s : Nat) (w : World) (h1 : 1 ≤ s) (h8 : s ≤ 8) : Calls Try.prog 59 #[.int .i64 (s : Int)] w fun e w' => e = .returned (.bool true) ∧ w = w' := by
  have a1 : (1 : Int) ≤ (s : Int) := by omega
  have a8 : (s : Int) ≤ 8 := by omega
  go_enter Try.func59, Try.ntmps59
  go_wp2
  go_ret
  exact ⟨rfl, rfl⟩
theorem prow_start {w' : World} {g s : Nat} {xs : List Int} {n : Int} (h : w'.heap[g]? = some (.cells (ints .u8 xs ++ List.replicate s (Value.int .u8 0)).toArray 5 (0, 0))) :
    Hid (w'.heap[g]? = some (.cells (ints .u8 (xs ++ List.replicate (s - 0) 0 ++ be n 0)).toArray 5 (0, 0))) := by
  show w'.heap[g]? = _
  rw [h]; simp [ints, be]
theorem put_at {xs ys : List Int} {m s j : Nat} (hm : xs.length = m) (hj : j < s) : (ints .u8 (xs ++ List.replicate (s - j) 0 ++ ys))[m + s - 1 - j]? = some (.int .u8 0) := by
  subst hm
  have h1 : xs.length + s - 1 - j = xs.length + (s - 1 - j) := by omega
  rw [h1, ints, List.append_assoc, List.map_append, List.getElem?_append_right (by simp)]
  simp only [List.length_map, Nat.add_sub_cancel_left, List.map_append]
  rw [List.getElem?_append_left (by simp; omega), List.getElem?_map, List.getElem?_replicate, if_pos (by omega)]
  rfl
theorem put_cell {wr : World} {g m s j : Nat} {xs : List Int} {n : Int} (h : wr.heap[g]? = some (.cells (ints .u8 (xs ++ List.replicate (s - j) 0 ++ be n j)).toArray 5 (0, 0))) (hm : xs.length = m) (hj : j < s) :
    wr.cell? ⟨g, m + s - 1 - j, none⟩ = some (.int .u8 0) := by
  rw [cell_of_row wr g _ _ 5 (0, 0) h]
  simpa using put_at hm hj
theorem put_free {wr : World} {g k : Nat} {cs : Array Value} (h : wr.heap[g]? = some (.cells cs 5 (0, 0))) : wr.frozen? ⟨g, k, none⟩ = false := frozen_of_row wr g k cs 5 h
theorem put_store {wr : World} {g m s j : Nat} {xs : List Int} {n : Int} (h : wr.heap[g]? = some (.cells (ints .u8 (xs ++ List.replicate (s - j) 0 ++ be n j)).toArray 5 (0, 0))) (hm : xs.length = m) (hj : j < s) :
    Hid ((wr.setCell ⟨g, m + s - 1 - j, none⟩ (.int .u8 (n / 2 ^ (8 * j) % 256))).heap[g]? = some (.cells (ints .u8 (xs ++ List.replicate (s - (j + 1)) 0 ++ be n (j + 1))).toArray 5 (0, 0))) := by
  show _ = _
  rw [heap_setCell_same wr g _ _ 5 _ h]
  congr 2
  apply Array.toList_inj.1
  subst hm
  rw [Array.toList_setIfInBounds]
  simp only [ints]
  rw [show xs.length + s - 1 - j = xs.length + (s - 1 - j) by omega, show s - j = (s - (j + 1)) + 1 by omega, List.replicate_succ', be]
  rw [List.append_assoc, List.append_assoc, List.append_assoc, List.map_append, List.map_append, List.map_append, List.map_append]
  rw [List.set_append_right _ _ (by simp), List.set_append_right _ _ (by simp only [List.length_map, List.length_replicate]; omega)]
  simp
  have : s - 1 - j - (s - (j + 1)) = 0 := by omega
  rw [this]; simp
/-- wire.Put: b and the s lowest bytes behind it, all of the call's own. -/
def WPut (w : World) (ys : List Int) (e : Ending) (w' : World) : Prop := ∃ A N c, e = .returned (.slice A N c) ∧ N = ys.length ∧ OwnI .u8 5 w.heap.size w' A N c ys ∧ Up w w'
set_option maxHeartbeats 400000 in
theorem put_any (A : Option Addr) (m c s : Nat) (xs : List Int) (n : Int) (w : World) (h : InB w A m c xs) (hk : m + s ≤ 281474976710656) (hs1 : 1 ≤ s) (hs8 : s ≤ 8) :
    Calls Try.prog 43 #[.slice A m c, .int .u64 n, .int .i64 (s : Int)] w (WPut w (xs ++ be n s)) := by
  have HM := Lib.hid h.len
  have h1 : (1 : Int) ≤ (s : Int) := by omega
  have h8 : (s : Int) ≤ 8 := by omega
  have HL := Lib.hid (show (ints .u8 xs).length = m by simp [ints, HM.out])
  have HR := Lib.hid h.cells
  have HO := Lib.hid (ints_one .u8 xs)
  clear h
  go_enter Try.func43, Try.ntmps43
  go_wp2_with (first
    | (go_at_call 59; refine (size_yes s _ hs1 hs8).mono ?_; rintro e w' ⟨rfl, rfl⟩)
    | (go_at_call 60; refine (ext_any A m c s (ints .u8 xs) _ HL.out HR.out HO.out hk).mono ?_; rintro e w' ⟨rfl, hrow, hbel⟩))
  clear HR HO
  have HB := Lib.hid hbel
  clear hbel
  go_loopw [18] (fun i wr => ∃ j : Nat, j ≤ s ∧ i = .int .i64 j ∧ Hid (wr.heap[w.heap.size]? = some (.cells (ints .u8 (xs ++ List.replicate (s - j) 0 ++ be n j)).toArray 5 (0, 0))) ∧ Below w.heap.size w wr) (fun i _ => s - (intOf i).toNat)
  case atStart => exact ⟨0, Nat.zero_le _, rfl, prow_start hrow.out, HB.out⟩
  case round =>
    obtain ⟨j, hj, rfl, hw, hb⟩ := hrel
    by_cases hlt : j < s
    · have hcell := put_cell hw.out HM.out hlt
      have hfr := put_free (k := m + s - 1 - j) hw.out
      go_wp2
      go_roundw
      case rel => exact ⟨j + 1, by omega, by go_num, put_store hw.out HM.out hlt, (hb.setCell (Nat.le_refl _) _)⟩
      case measure => simp [intOf]; omega
    · obtain rfl : j = s := by omega
      go_wp2
      go_ret
      have hq := hw.out
      rw [Nat.sub_self, List.replicate_zero, List.append_nil] at hq
      exact ⟨_, _, _, rfl, by rw [List.length_append, be_length, HM.out], ownI_row (by rw [List.length_append, be_length, HM.out]) (by unfold maxLen; omega) hq, hb⟩
theorem or_byte (v x : Int) (h0 : 0 ≤ v) (h1 : v < 72057594037927936) (h2 : 0 ≤ x) (h3 : x < 256) : bits .or .u64 (IntKind.u64.wrap (v * 256)) (IntKind.u64.wrap x) = v * 256 + x := by
  rw [IntKind.wrap_u64, IntKind.wrap_u64, Int.emod_eq_of_lt (by omega) (by omega), Int.emod_eq_of_lt h2 (by omega)]
  obtain ⟨n, rfl⟩ := Int.eq_ofNat_of_zero_le h0
  obtain ⟨y, rfl⟩ := Int.eq_ofNat_of_zero_le h2
  have e1 : ((n : Int) * 256) = ((n * 256 : Nat) : Int) := by omega
  rw [e1, u64_or_nat _ _ (by omega) (by omega)]
  have := Nat.two_pow_add_eq_or_of_lt (show y < 2 ^ 8 by omega) n
  rw [show n * 256 = 2 ^ 8 * n by omega, ← this]
  omega
theorem get_step {xs : List Int} {a j s m : Nat} (hb : ∀ x ∈ xs, 0 ≤ x ∧ x < 256) (hm : xs.length = m) (hj : j < s) (hs : s ≤ 8) (ha : a + s ≤ m) :
    bits .or .u64 (IntKind.u64.wrap (num 0 ((xs.drop a).take j) * 256)) (IntKind.u64.wrap (xs[a + j]?.getD 0)) = num 0 ((xs.drop a).take (j + 1)) := by
  have hlt : a + j < xs.length := by omega
  have hlen : ((xs.drop a).take j).length = j := by simp; omega
  have hn := num_bd ((xs.drop a).take j) (fun x hx => hb x (List.mem_of_mem_drop (List.mem_of_mem_take hx)))
  rw [hlen] at hn
  have hp : (256 : Int) ^ j ≤ 72057594037927936 := by
    match j, (show j < 8 by omega) with
    | 0, _ => decide
    | 1, _ => decide
    | 2, _ => decide
    | 3, _ => decide
    | 4, _ => decide
    | 5, _ => decide
    | 6, _ => decide
    | 7, _ => decide
  have hx := hb xs[a + j] (List.getElem_mem hlt)
  rw [List.getElem?_eq_getElem hlt, Option.getD_some, or_byte _ _ hn.1 (by omega) hx.1 hx.2, List.take_succ_eq_append_getElem (by simp; omega), num_snoc]
  simp
theorem get_cell {w : World} {b o a j m : Nat} {xs : List Int} (hc : ∀ (k : Nat) (u : Value), (ints .u8 xs)[k]? = some u → w.cell? ⟨b, o + k, none⟩ = some u) (hm : xs.length = m) (h : a + j < m) : w.cell? ⟨b, o + (a + j), none⟩ = some (.int .u8 (xs.getD (a + j) 0)) := by
  refine hc _ _ ?_
  have : a + j < xs.length := by omega
  simp [ints, List.getD, this]
theorem reaches_any (A : Option Addr) (m c : Nat) (at_ n : Int) (b : Bool) (w : World) (hm : (m : Int) ≤ 9223372036854775807) (h0 : 0 ≤ at_) (h1 : at_ ≤ 9223372036854775807) (hb : decide (n ≤ (m : Int) - at_) = b) :
    Calls Try.prog 68 #[.slice A m c, .int .i64 at_, .int .i64 n] w fun e w' => e = .returned (.bool b) ∧ w = w' := by
  go_enter Try.func68, Try.ntmps68
  go_wp2
  go_ret
  exact ⟨by rw [← hb]; rfl, rfl⟩
set_option maxHeartbeats 400000 in
theorem get_any (A : Option Addr) (m c a s : Nat) (xs : List Int) (w : World) (h : InB w A m c xs) (hk : m ≤ 140737488355328) (ha : a + s ≤ m) (hs1 : 1 ≤ s) (hs8 : s ≤ 8) :
    Calls Try.prog 55 #[.slice A m c, .int .i64 (a : Int), .int .i64 (s : Int)] w fun e w' => e = .returned (.tuple #[.int .u64 (num 0 ((xs.drop a).take s)), .int .i64 0]) ∧ w = w' := by
  have h63 : (m : Int) ≤ 9223372036854775807 := by omega
  have ha0 : decide ((a : Int) < 0) = false := by simp
  obtain ⟨b, o, rfl, hlt, hc⟩ := h.cells (by intro e; have := h.len; rw [ints, List.map_eq_nil_iff] at e; subst e; simp at this; omega)
  have HC := Lib.hid hc
  have HM := Lib.hid h.len
  have HB := Lib.hid h.byt
  clear h hc
  go_enter Try.func55, Try.ntmps55
  go_wp2_with (first
    | (go_at_call 59; refine (size_yes s _ hs1 hs8).mono ?_; rintro e w' ⟨rfl, rfl⟩)
    | (go_at_call 68; refine (reaches_any _ m c a s true _ h63 (by omega) (by omega) (by simp; omega)).mono ?_; rintro e w' ⟨rfl, rfl⟩))
  go_loop [8, 23] (fun v i => ∃ j : Nat, j ≤ s ∧ i = .int .i64 j ∧ v = .int .u64 (num 0 ((xs.drop a).take j))) (fun _ i => s - (intOf i).toNat)
  case atStart => exact ⟨0, Nat.zero_le _, rfl, rfl⟩
  case round =>
    obtain ⟨j, hj, rfl, rfl⟩ := hrel
    by_cases hjs : j < s
    · have hcell := get_cell HC.out HM.out (show a + j < m by omega)
      go_wp2
      go_round
      case rel => exact ⟨j + 1, by omega, by go_num, by rw [get_step HB.out HM.out hjs hs8 ha]⟩
      case measure => simp [intOf]; omega
    · obtain rfl : j = s := by omega
      go_wp2
      go_ret2
      exact ⟨rfl, rfl⟩
theorem get_short (A : Option Addr) (m c a s : Nat) (w : World) (hk : m ≤ 140737488355328) (ha : m < a + s) (ha2 : a ≤ 140737488355328) (hs1 : 1 ≤ s) (hs8 : s ≤ 8) :
    Calls Try.prog 55 #[.slice A m c, .int .i64 (a : Int), .int .i64 (s : Int)] w fun e w' => e = .returned (.tuple #[.int .u64 0, .int .i64 3]) ∧ w = w' := by
  have h63 : (m : Int) ≤ 9223372036854775807 := by omega
  have ha0 : decide ((a : Int) < 0) = false := by simp
  go_enter Try.func55, Try.ntmps55
  go_wp2_with (first
    | (go_at_call 59; refine (size_yes s _ hs1 hs8).mono ?_; rintro e w' ⟨rfl, rfl⟩)
    | (go_at_call 68; refine (reaches_any _ m c a s false _ h63 (by omega) (by omega) (by simp; omega)).mono ?_; rintro e w' ⟨rfl, rfl⟩))
  go_ret2
  exact ⟨rfl, rfl⟩
end Go.Proofs.Ythncpkjnalmpkaa
