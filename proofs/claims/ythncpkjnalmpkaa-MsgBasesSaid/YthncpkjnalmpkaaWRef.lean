import Derived.Test.YthncpkjnalmpkaaBytes
import Derived.Test.YthncpkjnalmpkaaChecked
namespace Go.Proofs.Ythncpkjnalmpkaa
open Go Go.RowKit
set_option linter.unusedVariables false
theorem info5 : (Try.prog.info? 5).map (fun i => (i.zero, i.size, i.bytes)) = some (some (.int .u8 0), 1, 1) := by kernel_rfl
set_option maxHeartbeats 400000 in
theorem rpart_ok (A : Option Addr) (m c a n : Nat) (xs : List Int) (w : World) (h : InB w A m c xs) (hk : m ≤ 140737488355328) (ha : a + n ≤ m) :
    Calls Try.prog 69 #[.slice A m c, .int .i64 (a : Int), .int .i64 (n : Int)] w fun e w' => ∃ A' N c', e = .returned (.tuple #[.slice A' N c', .int .i64 0]) ∧ N = n ∧ OwnI .u8 5 w.heap.size w' A' N c' ((xs.drop a).take n) ∧ Up w w' := by
  have HC := Lib.hid (show Cells w (A.map (·.add a)) (ints .u8 ((xs.drop a).take n)) by have := h.cells.cut a n; simpa [ints, List.map_take, List.map_drop] using this)
  have HL := Lib.hid (show ((xs.drop a).take n).length = n by simp [h.len]; omega)
  have ha0 : decide ((a : Int) < 0) = false := by simp
  have hn0 : decide ((n : Int) < 0) = false := by simp
  have g1 : decide ((m : Int) < (a : Int)) = false := by simp; omega
  have g2 : decide ((m : Int) - (a : Int) < (n : Int)) = false := by simp; omega
  have hcap := h.cap
  have hmi : (m : Int) ≤ 140737488355328 := by omega
  clear h
  by_cases hca : c = a
  · subst hca
    obtain rfl : n = 0 := by omega
    obtain rfl : m = c := by omega
    have HC' := Lib.hid (show Cells w A (ints .u8 ((xs.drop m).take 0)) by simpa [ints] using Cells.nil w A)
    go_enter Try.func69, Try.ntmps69
    go_wp2_with (at_builtin; refine wpList_appendI rfl (.tmp 26) (.tmp 32) 26 rfl .u8 w.heap.size 5 1 Try.underlying26 info5 (some ⟨w.heap.size, 0, none⟩) 0 0 [] rfl (ownI_new _ _ _) A 0 0 ((xs.drop m).take 0) rfl HL.out (HC'.out.alloc _) (by omega) (by omega) (by simp) ((Below.refl _ _).alloc (Nat.le_refl _) _) ?_; intro A' N c' w' HN HW HB hsz)
    go_ret2
    exact ⟨A', N, c', rfl, by have := HN.out; omega, by have := HW.out; rw [List.nil_append] at this; exact this, HB.out⟩
  · go_enter Try.func69, Try.ntmps69
    go_wp2_with (at_builtin; refine wpList_appendI rfl (.tmp 26) (.tmp 32) 26 rfl .u8 w.heap.size 5 1 Try.underlying26 info5 (some ⟨w.heap.size, 0, none⟩) 0 0 [] rfl (ownI_new _ _ _) (A.map (·.add a)) (a + n - a) (c - a) ((xs.drop a).take n) rfl (by rw [HL.out]; omega) (HC.out.alloc _) (by omega) (by omega) (by simp) ((Below.refl _ _).alloc (Nat.le_refl _) _) ?_; intro A' N c' w' HN HW HB hsz)
    go_ret2
    exact ⟨A', N, c', rfl, by have := HN.out; omega, by have := HW.out; rw [List.nil_append] at this; exact this, HB.out⟩
theorem get_num {l : List Int} {x : Int} (hb : Byt l) (hl : l.length < 8) (hx : 0 ≤ x ∧ x < 256) : IntKind.u64.wrap (IntKind.u64.wrap (num 0 l * 256) + x) = num 0 (l ++ [x]) := by
  have h1 := num_u64 (l ++ [x]) (hb.append (by intro y hy; simp at hy; subst hy; exact hx)) (by simp; omega)
  rw [num_snoc] at h1 ⊢
  have h2 := num_u64 l hb (by omega)
  rw [IntKind.wrap_u64, IntKind.wrap_u64]
  omega
set_option maxHeartbeats 400000 in
theorem rget_ok (A : Option Addr) (m c a s : Nat) (xs : List Int) (w : World) (h : InB w A m c xs) (hk : m ≤ 140737488355328) (ha : a + s ≤ m) (hs1 : 1 ≤ s) (hs8 : s ≤ 8) :
    Calls Try.prog 57 #[.slice A m c, .int .i64 (a : Int), .int .i64 (s : Int)] w fun e w' => e = .returned (.tuple #[.int .u64 (num 0 ((xs.drop a).take s)), .int .i64 0]) ∧ Up w w' := by
  have h1 : (1 : Int) ≤ (s : Int) := by omega
  have h8 : (s : Int) ≤ 8 := by omega
  have ha0 : (0 : Int) ≤ (a : Int) := by omega
  have H := Lib.hid h
  have HY := Lib.hid ((h.byt.drop a).take s)
  clear h
  go_enter Try.func57, Try.ntmps57
  go_wp2_with fail
  refine (rpart_ok A m c a s xs _ H.out hk ha).mono ?_
  rintro e w1 ⟨A', N, c', rfl, hN, hO, hu⟩
  have HO := Lib.hid hO
  have HU := Lib.hid hu
  subst hN
  clear hO hu
  obtain ⟨g, rfl, g1, g2⟩ := HO.out.at_ (by omega)
  go_wp2_with fail
  go_loop [10, 11] (fun v i => ∃ k : Nat, k ≤ N ∧ i = .int .i64 k ∧ v = .int .u64 (num 0 (((xs.drop a).take N).take k))) (fun _ i => N - (intOf i).toNat)
  case atStart => exact ⟨0, Nat.zero_le _, rfl, rfl⟩
  case round =>
    obtain ⟨k, hk1, rfl, rfl⟩ := hrel
    by_cases hlt : k < N
    · obtain ⟨x, hx⟩ : ∃ x, ((xs.drop a).take N)[k]? = some x := ⟨_, List.getElem?_eq_getElem (by rw [HO.out.len]; exact hlt)⟩
      have hcell := HO.out.cellAt hx
      have hxb := HY.out x (List.mem_of_getElem? hx)
      have hnum := get_num (l := ((xs.drop a).take N).take k) (HY.out.take k) (by rw [List.length_take, HO.out.len]; omega) hxb
      have hst := Lib.hid (show ((xs.drop a).take N).take (k + 1) = ((xs.drop a).take N).take k ++ [x] by
        obtain ⟨hl, he⟩ := List.getElem?_eq_some_iff.1 hx
        rw [List.take_succ_eq_append_getElem hl, he])
      have b1 := hxb.1
      have b2 := hxb.2
      have HNM := Lib.hid hnum
      clear hx hnum hxb
      go_wp2
      go_round
      case rel => exact ⟨k + 1, by omega, by go_num, by rw [HNM.out, hst.out]⟩
      case measure => simp [intOf]; omega
    · obtain rfl : k = N := by omega
      have hfull := Lib.hid (show ((xs.drop a).take k).take k = (xs.drop a).take k from List.take_of_length_le (by rw [List.length_take]; omega))
      go_wp2
      go_ret2
      refine ⟨?_, HU.out⟩
      conv => rhs; rw [← hfull.out]
      rfl
theorem rnum_ok (A : Option Addr) (m c a s : Nat) (xs : List Int) (w : World) (h : InB w A m c xs) (hk : m ≤ 140737488355328) (ha : a + s ≤ m) (hs1 : 1 ≤ s) (hs8 : s ≤ 7) :
    Calls Try.prog 39 #[.slice A m c, .int .i64 (a : Int), .int .i64 (s : Int)] w fun e w' => e = .returned (.int .i64 (num 0 ((xs.drop a).take s))) ∧ Up w w' := by
  have H := Lib.hid h
  have hb := num_bd ((xs.drop a).take s) ((h.byt.drop a).take s)
  have hl : ((xs.drop a).take s).length = s := by simp [h.len]; omega
  rw [hl] at hb
  have hp : (256 : Int) ^ s ≤ 256 ^ 7 := by
    match s, hs8 with
    | 0, _ => decide
    | 1, _ => decide
    | 2, _ => decide
    | 3, _ => decide
    | 4, _ => decide
    | 5, _ => decide
    | 6, _ => decide
    | 7, _ => decide
  have b1 := hb.1
  have b2 : num 0 ((xs.drop a).take s) ≤ 9223372036854775807 := by
    have : (256 : Int) ^ 7 = 72057594037927936 := by decide
    omega
  clear h hb hl hp
  go_enter Try.func39, Try.ntmps39
  go_wp2_with fail
  refine (rget_ok A m c a s xs _ H.out hk ha hs1 (by omega)).mono ?_
  rintro e w1 ⟨rfl, hu⟩
  go_wp2_with fail
  go_ret
  exact ⟨rfl, hu⟩
end Go.Proofs.Ythncpkjnalmpkaa
