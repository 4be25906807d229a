import Derived.Test.YtmbhdfgopkbpgaaGives
namespace Go.Proofs.Ytmbhdfgopkbpgaa
open Go Go.RowKit

/-- A row of bytes of the call's own. -/
def Row (w : World) (g L : Nat) : Prop := ∃ cs : Array Value, w.heap[g]? = some (.cells cs 5 (0, 0)) ∧ cs.size = L
theorem Row.lt {w : World} {g L : Nat} (h : Row w g L) : g < w.heap.size := by obtain ⟨cs, h, _⟩ := h; exact (Array.getElem?_eq_some_iff.1 h).1
theorem Row.up {w w' : World} {g L : Nat} (h : Row w g L) (hu : Up w w') : Row w' g L := by
  have hl := h.lt
  obtain ⟨cs, h, hs⟩ := h
  exact ⟨cs, (hu.block g hl).trans h, hs⟩
theorem Row.cell {w : World} {g L k : Nat} (h : Row w g L) (hk : k < L) : ∃ v, w.cell? ⟨g, k, none⟩ = some v := by
  obtain ⟨cs, h, hs⟩ := h
  exact ⟨cs[k]'(by omega), by rw [cell_of_row w g k cs 5 (0, 0) h]; simp [hs, hk]⟩
theorem Row.free {w : World} {g L k : Nat} (h : Row w g L) : w.frozen? ⟨g, k, none⟩ = false := by
  obtain ⟨cs, h, hs⟩ := h
  exact frozen_of_row w g k cs 5 h
theorem Row.set {w : World} {g g' L k : Nat} {v : Value} (h : Row w g L) : Row (w.setCell ⟨g', k, none⟩ v) g L := by
  obtain ⟨cs, h, hs⟩ := h
  by_cases e : g' = g
  · subst e
    exact ⟨_, heap_setCell_same w g' k cs 5 v h, by simpa using hs⟩
  · exact ⟨cs, (Below.heap_setCell w ⟨g', k, none⟩ v g (fun x => e x.symm)).trans h, hs⟩
theorem put_row {xs : List Int} {n s : Int} {v : Value} {w : World} (h : BytesOf xs v w) (hk : xs.length + 9 ≤ 140737488355328) :
    Calls Try.prog 9 #[v, .int .u64 n, .int .i64 s] w fun e w' => Up w w' ∧ ∃ L, e = .returned (.slice (some ⟨w.heap.size, 0, none⟩) L L) ∧ L ≤ 140737488355328 ∧ Row w' w.heap.size L := by
  obtain ⟨A, c, rfl, hc, hx⟩ := h
  by_cases hs : 1 ≤ s ∧ s ≤ 8
  · obtain ⟨t, rfl⟩ := Int.eq_ofNat_of_zero_le (show 0 ≤ s by omega)
    refine (put_any A _ c t xs n w (u8s_length xs).symm hx (by rw [u8s_length]; omega) (by omega) (by omega)).mono fun e w' ⟨he, hr, hb⟩ => ?_
    exact ⟨hb, _, he, by rw [u8s_length]; omega, _, hr.out, by simp [u8s, be_length]⟩
  · refine (put_none A _ c s xs n w (u8s_length xs).symm hx (by rw [u8s_length]; omega) (by omega)).mono fun e w' ⟨he, hr, hb⟩ => ?_
    exact ⟨hb, _, he, by rw [u8s_length]; omega, _, hr.out, by simp⟩
theorem padded_row {xs : List Int} {v : Value} {w : World} (h : BytesOf xs v w) (hk : xs.length + 9 ≤ 140737488355328) :
    Calls Try.prog 12 #[v] w fun e w' => Up w w' ∧ ∃ L, e = .returned (.slice (some ⟨w.heap.size, 0, none⟩) L L) ∧ L ≤ 140737488355328 ∧ Row w' w.heap.size L := by
  obtain ⟨A, c, rfl, hc, hx⟩ := h
  refine (padded_any A _ c xs w (u8s_length xs).symm hx (by rw [u8s_length]; omega)).mono fun e w' ⟨he, hr, hb⟩ => ?_
  have := padN_lt (u8s xs).length
  exact ⟨hb, _, he, by rw [u8s_length] at *; omega, _, hr.out, by simp [u8s]⟩
theorem part_row {xs : List Int} {v : Value} {w : World} {m : Int} (hm : m = (xs.length : Nat)) (h : BytesOf xs v w) (hk : xs.length + 9 ≤ 140737488355328) :
    Calls Try.prog 17 #[v, .int .i64 0, .int .i64 m] w fun e w' => Up w w' ∧ ∃ L, e = .returned (.tuple #[.slice (some ⟨w.heap.size, 0, none⟩) L L, .int .i64 0]) ∧ L ≤ 140737488355328 ∧ Row w' w.heap.size L := by
  obtain ⟨A, c, rfl, hc, hx⟩ := h
  subst hm
  refine (part_any A _ c 0 xs.length xs w (u8s_length xs).symm hc hx (by rw [u8s_length]; omega) (by rw [u8s_length]; omega)).mono fun e w' ⟨he, hr, hb⟩ => ?_
  exact ⟨hb, _, he, by omega, _, hr.out, by simp [u8s]⟩

theorem own_at {w : World} {base n c : Nat} {A : Option Addr} {xs : List Value} (h : w.ownsRow base 5 1 (.slice A n c) n xs) (hn : 0 < n) : ∃ g, A = some ⟨g, 0, none⟩ ∧ n ≤ c := by
  rcases h.2 with ⟨h, h0⟩ | ⟨g, cap, cur, hv, _, _, hnc, _⟩
  · omega
  · injection hv with h1 h2 h3
    exact ⟨g, h1, by omega⟩

theorem part_bytes {w : World} {base g c : Nat} {xs : List Int} {x : Value} (h : w.ownsRow base 5 1 (.slice (some ⟨g, 0, none⟩) (xs.length + 1) c) (xs.length + 1) (u8s xs ++ [x])) : BytesOf xs (.slice (some ⟨g, 0, none⟩) xs.length c) w := by
  obtain ⟨A, c', e, hc, hx⟩ := IsS.of_own h
  injection e with e1 e2 e3
  subst e1 e3
  refine ⟨some ⟨g, 0, none⟩, c, by rw [u8s_length], by simp [u8s] at hc ⊢; omega, fun hne => ?_⟩
  obtain ⟨b, o, eb, hlt, hcell⟩ := hx (by simp)
  refine ⟨b, o, eb, hlt, fun j u hu => hcell j u ?_⟩
  have hj : j < (u8s xs).length := by
    rcases Nat.lt_or_ge j (u8s xs).length with h' | h'
    · exact h'
    · rw [List.getElem?_eq_none h'] at hu; cases hu
  rw [List.getElem?_append_left hj]; exact hu
theorem last_cell {w : World} {base g c : Nat} {xs : List Int} {x : Value} (h : w.ownsRow base 5 1 (.slice (some ⟨g, 0, none⟩) (xs.length + 1) c) (xs.length + 1) (u8s xs ++ [x])) : w.cell? ⟨g, xs.length, none⟩ = some x ∧ g < w.heap.size := by
  have := h.cellAt xs.length (by omega)
  refine ⟨by rw [this]; simp [u8s], (h.lt g rfl).2⟩
set_option maxHeartbeats 800000 in
theorem walk_keeps (A : Option Addr) (c : Nat) (xs : List Int) (n s : Int) (w : World) (hb : BytesOf xs (.slice A xs.length c) w) (hk : xs.length + 4096 ≤ 140737488355328) :
    Calls Try.prog 7 #[.slice A xs.length c, .int .u64 n, .int .i64 s] w fun e w' => e = .returned (.bool true) ∧ Below w.heap.size w w' := by
  have HB := Lib.hid hb
  clear hb
  have i1 : (xs.length : Int) ≤ 140737488355328 := by omega
  obtain ⟨A0, c0, e0, hc0, hx0⟩ := HB.out
  obtain ⟨rfl, -, rfl⟩ : A = A0 ∧ xs.length = (u8s xs).length ∧ c = c0 := by injection e0 with a b c; exact ⟨a, b, c⟩
  have HX := Lib.hid hx0
  clear hx0 e0 hc0
  go_enter Try.func7, Try.ntmps7
  go_wp2_with fail
  refine (own_any A xs.length c xs w rfl HX.out (by omega)).mono ?_
  rintro e w1 ⟨A1, c1, rfl, hown, hb1⟩
  have HO := Lib.hid hown
  have HB1 := Lib.hid hb1
  have hsz := hb1.size
  clear hown hb1
  go_wp2_with (at_builtin; refine wpList_appendS rfl (.tmp 17) (.tmp 18) 22 rfl w.heap.size 5 (.int .u8 0) 1 Try.underlying22 info5 rfl A1 xs.length c1 (u8s xs) rfl (HO.out.alloc _) (some ⟨w1.heap.size, 0, none⟩) 1 1 [.int .u8 71] rfl rfl (cells_new _ _ _ _ rfl) (by simp [Value.oneCell']) (by unfold maxLen; omega) (by omega) (by simp; omega) (HB1.out.alloc hsz _) ?_; intro A2 c2 w2 hown2 hbel2 hsz2; (obtain ⟨g, hA, hc2⟩ := own_at hown2 (by omega)); subst hA; have HO2 := Lib.hid hown2; have HB2 := Lib.hid hbel2; clear hown2 hbel2)
  refine (put_row (part_bytes HO2.out) (by omega)).mono ?_
  rintro e w3 ⟨hu3, L1, rfl, hL1, hr1⟩
  have H2 := Lib.hid (part_bytes HO2.out)
  go_wp2_with fail
  refine (padded_row (IsS.up H2.out hu3) (by omega)).mono ?_
  rintro e w4 ⟨hu4, L2, rfl, hL2, hr2⟩
  go_wp2_with fail
  refine (part_row (xs := xs) (by omega) (IsS.up H2.out (Up.trans hu3 hu4)) (by omega)).mono ?_
  rintro e w5 ⟨hu5, L3, rfl, hL3, hr3⟩
  have R1 := Lib.hid (hr1.up (Up.trans hu4 hu5))
  have R2 := Lib.hid (hr2.up hu5)
  have R3 := Lib.hid hr3
  have U5 := Lib.hid (Up.trans hu3 (Up.trans hu4 hu5))
  have G1 := Lib.hid (show w2.heap.size ≤ w2.heap.size from Nat.le_refl _)
  have G2 := Lib.hid (show w2.heap.size ≤ w3.heap.size from hu3.size)
  have G3 := Lib.hid (show w2.heap.size ≤ w4.heap.size from (Up.trans hu3 hu4).size)
  clear hr1 hr2 hr3 hu3 hu4 hu5
  go_wp2_with fail
  go_loopw [13] (fun i wa => ∃ k : Nat, k ≤ L1 ∧ i = .int .i64 k ∧ Hid (Row wa w2.heap.size L1) ∧ Hid (Row wa w3.heap.size L2) ∧ Hid (Row wa w4.heap.size L3) ∧ Hid (Up w2 wa)) (fun i _ => L1 - (intOf i).toNat)
  case atStart => exact ⟨0, Nat.zero_le _, rfl, R1, R2, R3, U5⟩
  case round =>
    obtain ⟨k, hk1, rfl, wa1, wa2, wa3, wau⟩ := hrel
    by_cases hlt : k < L1
    · obtain ⟨v, hcell⟩ := wa1.out.cell hlt
      have hfr := wa1.out.free (k := k)
      go_wp2
      go_roundw
      case rel => exact ⟨k + 1, by omega, by go_num, Lib.hid wa1.out.set, Lib.hid wa2.out.set, Lib.hid wa3.out.set, Lib.hid (Below.setCell wau.out (G1.out) _)⟩
      case measure => simp [intOf]; omega
    · clear R1 R2 R3 U5
      go_wp2_with fail
      go_loopw [14] (fun i wb => ∃ k : Nat, k ≤ L2 ∧ i = .int .i64 k ∧ Hid (Row wb w2.heap.size L1) ∧ Hid (Row wb w3.heap.size L2) ∧ Hid (Row wb w4.heap.size L3) ∧ Hid (Up w2 wb)) (fun i _ => L2 - (intOf i).toNat)
      case atStart => exact ⟨0, Nat.zero_le _, rfl, wa1, wa2, wa3, wau⟩
      case round =>
        obtain ⟨k, hk2, rfl, wb1, wb2, wb3, wbu⟩ := hrel
        by_cases hlt : k < L2
        · obtain ⟨v, hcell⟩ := wb2.out.cell hlt
          have hfr := wb2.out.free (k := k)
          go_wp2
          go_roundw
          case rel => exact ⟨k + 1, by omega, by go_num, Lib.hid wb1.out.set, Lib.hid wb2.out.set, Lib.hid wb3.out.set, Lib.hid (Below.setCell wbu.out (G2.out) _)⟩
          case measure => simp [intOf]; omega
        · clear wa1 wa2 wa3 wau
          go_wp2_with fail
          go_loopw [15] (fun i wc => ∃ k : Nat, k ≤ L3 ∧ i = .int .i64 k ∧ Hid (Row wc w2.heap.size L1) ∧ Hid (Row wc w3.heap.size L2) ∧ Hid (Row wc w4.heap.size L3) ∧ Hid (Up w2 wc)) (fun i _ => L3 - (intOf i).toNat)
          case atStart => exact ⟨0, Nat.zero_le _, rfl, wb1, wb2, wb3, wbu⟩
          case round =>
            obtain ⟨k, hk3, rfl, wc1, wc2, wc3, wcu⟩ := hrel
            by_cases hlt : k < L3
            · obtain ⟨v, hcell⟩ := wc3.out.cell hlt
              have hfr := wc3.out.free (k := k)
              go_wp2
              go_roundw
              case rel => exact ⟨k + 1, by omega, by go_num, Lib.hid wc1.out.set, Lib.hid wc2.out.set, Lib.hid wc3.out.set, Lib.hid (Below.setCell wcu.out (G3.out) _)⟩
              case measure => simp [intOf]; omega
            · clear wb1 wb2 wb3 wbu
              go_wp2_with fail
              refine (answers_gives).mono ?_
              rintro e w9 ⟨hu9, v9, rfl, rfl⟩
              have c1 := conv_bytes (IsS.up H2.out (Up.trans wcu.out hu9))
              have c2 := conv_bytes (IsS.up HB.out (Up.trans HB2.out (Up.trans wcu.out hu9)))
              have c3 : w9.cell? ⟨g, xs.length, none⟩ = some (.int .u8 71) := ((Up.trans wcu.out hu9).cell (p := ⟨g, xs.length, none⟩) (last_cell HO2.out).2).trans (last_cell HO2.out).1
              go_wp2_with fail
              go_ret
              exact ⟨rfl, Up.trans HB2.out (Up.trans wcu.out hu9)⟩
end Go.Proofs.Ytmbhdfgopkbpgaa
