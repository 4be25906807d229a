import Derived.Test.YtdlgdlgpmfccmaaCrcM
import Derived.Test.YtdlgdlgpmfccmaaSteady
import Derived.Test.YtdlgdlgpmfccmaaBytes
import Derived.Laws.BitsAllLaws
import Derived.Test.YtdlgdlgpmfccmaaChecked
import Derived.Outline
import Derived.Lib.Hide
import Derived.Deep.QuietTactic
import Derived.BigQuiet
import Derived.WalkSmall
import Derived.Test.YtdlgdlgpmfccmaaCk0
import Derived.Lib.SlBytesConst
namespace Go.Proofs.Ytdlgdlgpmfccmaa
open Go Go.RowKit
set_option linter.unusedVariables false
theorem xor_c (a b : Nat) (A B : Int) (ha : a < 4294967296) (hb : b < 4294967296) (hA : A = (a : Int)) (hB : B = (b : Int)) : bits .xor .u32 A B = ((a ^^^ b : Nat) : Int) := by subst hA; subst hB; exact u32_xor_nat a b ha hb
theorem and1_c (a : Nat) (A : Int) (ha : a < 4294967296) (hA : A = (a : Int)) : bits .and .u32 A 1 = ((a % 2 : Nat) : Int) := by
  subst hA
  have := u32_and_nat a 1 ha (by omega)
  rw [Nat.and_one_is_mod] at this
  exact this
theorem nats_take {xs : List Int} {k x : Nat} (hx : xs[k]? = some (x : Int)) : nats (xs.take (k + 1)) = nats (xs.take k) ++ [x] := by
  obtain ⟨hlt, he⟩ := List.getElem?_eq_some_iff.1 hx
  rw [List.take_succ_eq_append_getElem hlt, nats_append, he]
  rfl
/-- A call answers this number, and nothing that was there has turned. -/
def U32 (n : Nat) (w : World) (e : Ending) (w' : World) : Prop := e = .returned (.int .u32 (n : Int)) ∧ Up w w'
theorem bit_val (x k c : Nat) (hx : x < 256) (hc : c < 4294967296) : bits .and .u32 (bits .xor .u32 ((x : Int) / 2 ^ k) (c : Int)) 1 = (((x / 2 ^ k ^^^ c) % 2 : Nat) : Int) := by
  have h1 : x / 2 ^ k < 4294967296 := Nat.lt_of_le_of_lt (Nat.div_le_self _ _) (by omega)
  have e1 := xor_c (x / 2 ^ k) c ((x : Int) / 2 ^ k) c h1 hc (by push_cast; rfl) rfl
  rw [e1]
  exact and1_c _ _ (Nat.xor_lt_two_pow (n := 32) (by omega) (by omega)) rfl
theorem bit_one {x k c : Nat} (h : (x / 2 ^ k ^^^ c) % 2 = 1) (hc : c < 4294967296) : bits .xor .u32 ((c : Int) / 2) 2197175160 = ((Crc.bit1 (x / 2 ^ k) c : Nat) : Int) := by
  rw [xor_c (c / 2) 2197175160 ((c : Int) / 2) 2197175160 (by omega) (by omega) (by omega) rfl]
  unfold Crc.bit1 Crc.poly
  rw [if_pos h]
theorem bit_nil {x k c : Nat} (h : ¬ (x / 2 ^ k ^^^ c) % 2 = 1) : (c : Int) / 2 = ((Crc.bit1 (x / 2 ^ k) c : Nat) : Int) := by
  unfold Crc.bit1
  rw [if_neg h, Nat.xor_zero]
  omega
theorem bit_next {x k c T : Nat} (hk : k < 8) (h : Crc.shN (8 - k) (c ^^^ x / 2 ^ k) = T) : Crc.shN (8 - (k + 1)) (Crc.bit1 (x / 2 ^ k) c ^^^ x / 2 ^ (k + 1)) = T := by
  rw [show 8 - k = (8 - (k + 1)) + 1 by omega] at h
  have h' : Crc.shN (8 - (k + 1)) (Crc.sh (c ^^^ x / 2 ^ k)) = T := h
  rw [Crc.bit1_step, Nat.div_div_eq_div_mul] at h'
  rwa [Nat.pow_succ]
set_option maxHeartbeats 400000 in
theorem rmore1 (g o cap : Nat) (xs : List Int) (s : Nat) (w : World) (hs : s < 4294967296) (hb : Byt xs) (hl : xs.length ≤ 140737488355328)
    (hc : ∀ j u, (ints .u8 xs)[j]? = some u → w.cell? ⟨g, o + j, none⟩ = some u) :
    Calls Try.prog 26 #[.int .u32 (s : Int), .slice (some ⟨g, o, none⟩) xs.length cap] w fun e w' => e = .returned (.int .u32 ((Crc.more s (nats xs) : Nat) : Int)) ∧ w = w' := by
  have HC := Lib.hid hc
  have HB := Lib.hid hb
  clear hc hb
  have hi : ((Crc.inv s : Nat) : Int) = 4294967295 - (s : Int) := by rw [Crc.inv_sub hs]; omega
  have hil := Crc.inv_lt hs
  have HI := Lib.hid hi
  clear hi
  go_enter Try.func26, Try.ntmps26
  go_wp2_with fail
  rw [← HI.out]
  go_loop [5, 6] (fun c i => ∃ k r : Nat, k ≤ xs.length ∧ c = .int .u32 (r : Int) ∧ i = .int .i64 k ∧ Hid (r = Crc.reg (Crc.inv s) (nats (xs.take k))) ∧ r < 4294967296) (fun _ i => xs.length - (intOf i).toNat)
  case atStart => exact ⟨0, _, Nat.zero_le _, rfl, rfl, rfl, hil⟩
  case round =>
    obtain ⟨k, r, hk, rfl, rfl, HR, hr⟩ := hrel
    by_cases hlt : k < xs.length
    · obtain ⟨x, hx⟩ : ∃ x, xs[k]? = some x := ⟨xs[k], by simp [hlt]⟩
      have hxb := HB.out x (List.mem_of_getElem? hx)
      obtain ⟨x, rfl⟩ := Int.eq_ofNat_of_zero_le hxb.1
      have hx8 : x < 256 := by omega
      have hcell : w.cell? ⟨g, o + k, none⟩ = some (.int .u8 x) := HC.out k _ (by simp [ints, hx])
      have HN := Lib.hid (nats_take hx)
      clear hx hxb
      go_wp2_with fail
      go_loop [5, 7] (fun c i => ∃ q v : Nat, q ≤ 8 ∧ c = .int .u32 (v : Int) ∧ i = .int .i64 q ∧ Hid (Crc.shN (8 - q) (v ^^^ x / 2 ^ q) = Crc.byt r x) ∧ v < 4294967296) (fun _ i => 8 - (intOf i).toNat)
      case atStart => exact ⟨0, r, by omega, rfl, rfl, by show Crc.shN (8 - 0) (r ^^^ x / 2 ^ 0) = Crc.byt r x; rw [Nat.pow_zero, Nat.div_one]; rfl, hr⟩
      case round =>
        obtain ⟨q, v, hq, rfl, rfl, HV, hv⟩ := hrel
        by_cases hq8 : q < 8
        · have hq8i : (q : Int) < 8 := by omega
          have hbv := bit_val x q v hx8 hv
          have hnx := Lib.hid (bit_next hq8 HV.out)
          have hlt1 := Crc.bit1_lt (v := x / 2 ^ q) hv
          by_cases hone : (x / 2 ^ q ^^^ v) % 2 = 1
          · have hx1 := bit_one hone hv
            rw [hone] at hbv
            go_wp2_with fail
            go_round
            case rel => exact ⟨q + 1, Crc.bit1 (x / 2 ^ q) v, by omega, rfl, by go_num, hnx, hlt1⟩
            case measure => simp [intOf]; omega
          · have hx0 := Lib.hid (bit_nil hone)
            have hz : (x / 2 ^ q ^^^ v) % 2 = 0 := by omega
            rw [hz] at hbv
            clear hone
            go_wp2_with fail
            go_round
            case rel => exact ⟨q + 1, Crc.bit1 (x / 2 ^ q) v, by omega, by rw [← hx0.out], by go_num, hnx, hlt1⟩
            case measure => simp [intOf]; omega
        · obtain rfl : q = 8 := by omega
          have hfin : v = Crc.byt r x := by
            have := HV.out
            rw [show x / 2 ^ 8 = 0 by omega, Nat.xor_zero] at this
            exact this
          have HF := Lib.hid hfin
          clear hfin
          go_wp2_with fail
          go_round
          case rel => exact ⟨k + 1, v, by omega, rfl, by go_num, by show v = _; rw [HN.out, Crc.reg_snoc, ← HR.out]; exact HF.out, hv⟩
          case measure => simp [intOf]; omega
    · obtain rfl : k = xs.length := by omega
      have ho : ((Crc.inv r : Nat) : Int) = 4294967295 - (r : Int) := by rw [Crc.inv_sub hr]; omega
      have HO := Lib.hid ho
      clear ho
      go_wp2_with fail
      go_ret
      refine ⟨?_, rfl⟩
      have : Crc.more s (nats xs) = Crc.inv r := by rw [HR.out, List.take_length]; rfl
      rw [this, HO.out]
      rfl
end Go.Proofs.Ytdlgdlgpmfccmaa
namespace Go.Proofs.Ytdlgdlgpmfccmaa
open Go Go.RowKit
set_option linter.unusedVariables false
theorem ret_i {k : IntKind} {a b : Int} (h : a = b) : Ending.returned (.int k a) = .returned (.int k b) := by rw [h]
theorem step_c (c : Nat) (w : World) (hc : c < 4294967296) :
    Calls Try.prog 33 #[.int .u32 (c : Int)] w fun e w' => e = .returned (.int .u32 ((Crc.sh c : Nat) : Int)) ∧ w = w' := by
  rcases Crc.mod2_cases c with h | h
  · have h1 := and1_c c c hc rfl
    rw [h] at h1
    go_enter Try.func33, Try.ntmps33
    go_wp2_with fail
    go_ret
    refine ⟨ret_i ?_, rfl⟩
    unfold Crc.sh
    rw [h]
    exact xor_c (c / 2) 0 _ _ (by omega) (by omega) (by omega) rfl
  · have h1 := and1_c c c hc rfl
    rw [h] at h1
    go_enter Try.func33, Try.ntmps33
    go_wp2_with fail
    go_ret
    refine ⟨ret_i ?_, rfl⟩
    unfold Crc.sh
    rw [h]
    exact xor_c (c / 2) Crc.poly _ _ (by omega) (by decide) (by omega) rfl
/-- An array of 32 numbers. -/
def arr (f : Nat → Nat) : Array Value := ((List.range 32).map fun i => Value.int .u32 (f i : Int)).toArray
theorem arr_size (f : Nat → Nat) : (arr f).size = 32 := by simp [arr]
theorem arr_get (f : Nat → Nat) {i : Nat} (h : i < 32) : (arr f)[i]? = some (.int .u32 (f i : Int)) := by simp [arr, h]
theorem arr_congr {f g : Nat → Nat} (h : ∀ i, i < 32 → f i = g i) : arr f = arr g := by
  unfold arr
  congr 1
  apply List.map_congr_left
  intro i hi
  rw [h i (by simpa using hi)]
theorem arr_set (f : Nat → Nat) (i v : Nat) : (arr f).setIfInBounds i (.int .u32 (v : Int)) = arr (fun j => if j = i then v else f j) := by
  apply Array.toList_inj.1
  apply List.ext_getElem?
  intro j
  simp only [arr, Array.toList_setIfInBounds, List.getElem?_set, List.getElem?_map, List.length_map, List.length_range]
  by_cases hj : i = j
  · subst hj
    by_cases hlt : i < 32
    · simp [hlt]
    · simp [hlt]
  · by_cases hlt : j < 32
    · simp [hlt, hj, Ne.symm hj]
    · simp [hlt, hj]
end Go.Proofs.Ytdlgdlgpmfccmaa
namespace Go.Proofs.Ytdlgdlgpmfccmaa
open Go Go.RowKit
set_option linter.unusedVariables false
theorem mask_c (a x s : Nat) (X : Int) (ha : a < 4294967296) (hs : s < 4294967296) (hX : X = (x : Int)) :
    bits .xor .u32 (a : Int) (bits .and .u32 (s : Int) (-(X % 2) % 4294967296)) = ((a ^^^ (if x % 2 = 1 then s else 0) : Nat) : Int) := by
  subst hX
  rcases Crc.mod2_cases x with h | h
  · have e : (-((x : Int) % 2) % 4294967296) = ((0 : Nat) : Int) := by omega
    rw [e, u32_and_nat s 0 hs (by omega), Nat.and_zero, h]
    exact u32_xor_nat a 0 ha (by omega)
  · have e : (-((x : Int) % 2) % 4294967296) = ((4294967295 : Nat) : Int) := by omega
    have e2 : s &&& 4294967295 = s := by
      have := Nat.and_two_pow_sub_one_eq_mod s 32
      rw [show 2 ^ 32 - 1 = 4294967295 by rfl] at this
      rw [this]; omega
    rw [e, u32_and_nat s _ hs (by omega), e2, h]
    exact u32_xor_nat a s ha hs
theorem u32_eq {a b : Int} (h : a = b) : Value.int .u32 a = .int .u32 b := by rw [h]
set_option maxHeartbeats 400000 in
theorem of_c (n c g : Nat) (w : World) (hc : c < 4294967296) (hg : w.heap[g]? = some (.cells (arr (Crc.col n)) 57 (0, 0))) :
    Calls Try.prog 30 #[.pointer (some ⟨g, 0, none⟩), .int .u32 (c : Int)] w fun e w' => e = .returned (.int .u32 ((Crc.shN n c : Nat) : Int)) ∧ Up w w' := by
  have hlt : g < w.heap.size := (Array.getElem?_eq_some_iff.1 hg).1
  have HC : Hid (∀ k wr, k < 32 → Up w wr → wr.cell? ⟨g, k, none⟩ = some (.int .u32 ((Crc.col n k : Nat) : Int))) := by
    intro k wr hk hu
    rw [hu.cell (p := ⟨g, k, none⟩) hlt, cell_of_row _ _ _ _ _ _ hg, arr_get _ hk]
  clear hg
  go_enter Try.func30, Try.ntmps30
  go_wp2_with fail
  go_loopw [5, 7] (fun r i wr => ∃ k : Nat, k ≤ 32 ∧ i = .int .i64 k ∧ r = .int .u32 ((Crc.shN n (c % 2 ^ k) : Nat) : Int) ∧ Up w wr) (fun _ i _ => 32 - (intOf i).toNat)
  case atStart => exact ⟨0, by omega, rfl, by rw [Crc.of_start]; rfl, Up.refl _⟩
  case round =>
    obtain ⟨k, hk, rfl, rfl, hu⟩ := hrel
    by_cases hlt : k < 32
    · have hcell := HC.out k wr hlt hu
      have HU := Lib.hid hu
      clear hu
      have hb := and1_c (c / 2 ^ k) ((c : Int) / 2 ^ k) (Nat.lt_of_le_of_lt (Nat.div_le_self _ _) hc) (by simp)
      go_wp2_with fail
      go_quiet (fail)
      go_wp2_with fail
      go_roundw
      case rel =>
        refine ⟨k + 1, by omega, by go_num, u32_eq ?_, below_drewN HU.out nq⟩
        rw [mask_c _ (c / 2 ^ k) _ _ (Crc.shN_lt (Nat.lt_of_le_of_lt (Nat.mod_le _ _) hc)) (Crc.col_lt hlt) (by simp), Crc.of_step]
      case measure => simp [intOf]; omega
    · obtain rfl : k = 32 := by omega
      go_wp2_with fail
      go_ret
      exact ⟨ret_i (by rw [Crc.of_end hc]), hu⟩
end Go.Proofs.Ytdlgdlgpmfccmaa
namespace Go.Proofs.Ytdlgdlgpmfccmaa
open Go Go.RowKit
set_option linter.unusedVariables false
theorem arr_zero : (#[Value.int .u32 0, Value.int .u32 0, Value.int .u32 0, Value.int .u32 0, Value.int .u32 0, Value.int .u32 0, Value.int .u32 0, Value.int .u32 0,
  Value.int .u32 0, Value.int .u32 0, Value.int .u32 0, Value.int .u32 0, Value.int .u32 0, Value.int .u32 0, Value.int .u32 0, Value.int .u32 0,
  Value.int .u32 0, Value.int .u32 0, Value.int .u32 0, Value.int .u32 0, Value.int .u32 0, Value.int .u32 0, Value.int .u32 0, Value.int .u32 0,
  Value.int .u32 0, Value.int .u32 0, Value.int .u32 0, Value.int .u32 0, Value.int .u32 0, Value.int .u32 0, Value.int .u32 0, Value.int .u32 0] : Array Value) = arr (fun _ => 0) := by rfl
theorem arr_one (f : Nat → Nat) : (arr f).all (·.oneCell') = true := by
  rw [Array.all_eq_true_iff_forall_mem]
  intro u hu
  simp [arr] at hu
  obtain ⟨x, _, rfl⟩ := hu
  rfl
theorem below_setRow {B : Nat} {a w : World} (h : Below B a w) {g : Nat} (hg : B ≤ g) (cs : Array Value) : Below B a (w.setRow g cs) :=
  ⟨h.os, h.tape, h.output, by rw [size_setRow]; exact h.size, fun i hi => (setRow_other w g i cs (by omega)).trans (h.block i hi)⟩
/-- A block of the call's own that holds an array. -/
structure Own37 (w0 w : World) (f : Nat → Nat) : Prop where
  up : Up w0 w
  res : w.heap[w0.heap.size]? = some (.cells (arr fun _ => 0) 57 (0, 0))
  arr : w.heap[w0.heap.size + 1]? = some (.cells (arr f) 57 (0, 0))
theorem own37_start (w : World) : Own37 w ((w.alloc (.cells (Go.Proofs.Ytdlgdlgpmfccmaa.arr fun _ => 0) 57)).alloc (.cells (Go.Proofs.Ytdlgdlgpmfccmaa.arr fun _ => 0) 57)) (fun _ => 0) :=
  ⟨((Below.refl _ _).alloc (Nat.le_refl _) _).alloc (by simp) _, heap_alloc2_old _ _ _, heap_alloc2_new _ _ _⟩
theorem Own37.up' {w0 w w' : World} {f : Nat → Nat} (h : Own37 w0 w f) (hu : Up w w') : Own37 w0 w' f := by
  have h2 := (Array.getElem?_eq_some_iff.1 h.arr).1
  exact ⟨h.up.trans hu, (hu.block _ (by omega)).trans h.res, (hu.block _ h2).trans h.arr⟩
theorem Own37.set {w0 w : World} {f : Nat → Nat} (h : Own37 w0 w f) (i v : Nat) : Own37 w0 (w.setCell ⟨w0.heap.size + 1, i, none⟩ (.int .u32 (v : Int))) (fun j => if j = i then v else f j) := by
  refine ⟨h.up.setCell (by simp) _, ?_, ?_⟩
  · rw [heap_setCell_other _ _ _ _ (by simp)]; exact h.res
  · rw [heap_setCell_same _ _ _ _ _ _ h.arr, arr_set]
theorem Own37.congr {w0 w : World} {f g : Nat → Nat} (h : Own37 w0 w f) (e : ∀ i, i < 32 → f i = g i) : Own37 w0 w g := ⟨h.up, h.res, by rw [← arr_congr e]; exact h.arr⟩
theorem Own37.cell {w0 w : World} {f : Nat → Nat} (h : Own37 w0 w f) {i : Nat} (hi : i < 32) : w.cell? ⟨w0.heap.size + 1, i, none⟩ = some (.int .u32 (f i : Int)) := by
  rw [cell_of_row _ _ _ _ _ _ h.arr, arr_get _ hi]
theorem Own37.free {w0 w : World} {f : Nat → Nat} (h : Own37 w0 w f) (i : Nat) : w.frozen? ⟨w0.heap.size + 1, i, none⟩ = false := frozen_of_row _ _ _ _ _ h.arr
set_option maxHeartbeats 400000 in
theorem through_c (n : Nat) (w : World) (h1 : 1 ≤ n) (hn : n ≤ 32) :
    Calls Try.prog 29 #[.int .i64 (n : Int)] w fun e w' => e = .returned (.agg (arr (Crc.col n))) ∧ Up w w' := by
  go_enter Try.func29, Try.ntmps29
  go_wp2_with fail
  simp only [arr_zero]
  generalize hwA : (w.alloc (.cells (arr fun _ => 0) 57)).alloc (.cells (arr fun _ => 0) 57) = wA
  have HS : Hid (Own37 w wA (fun _ => 0)) := by rw [← hwA]; exact own37_start w
  clear hwA
  go_loopw [4, 8] (fun x i wr => ∃ k : Nat, k ≤ n ∧ i = .int .i64 k ∧ x = .int .u32 ((Crc.shN k Crc.poly : Nat) : Int) ∧ Own37 w wr (fun j => if n - k ≤ j ∧ j < n then Crc.col n j else 0)) (fun _ i _ => n - (intOf i).toNat)
  case atStart => exact ⟨0, by omega, rfl, rfl, HS.out.congr fun i hi => by rw [if_neg (by omega)]⟩
  case round =>
    obtain ⟨k, hk, rfl, rfl, ho⟩ := hrel
    by_cases hlt : k < n
    · have hcell := ho.cell (i := n - 1 - k) (by omega)
      have hfree := ho.free (n - 1 - k)
      have HO := Lib.hid ho
      clear ho
      have hp : Crc.shN k Crc.poly < 4294967296 := Crc.shN_lt (by decide)
      go_wp2_with fail
      refine (step_c _ _ hp).mono ?_
      rintro e w1 ⟨rfl, rfl⟩
      go_wp2_with fail
      go_roundw
      case rel =>
        refine ⟨k + 1, by omega, by go_num, by rw [Crc.shN_succ], (HO.out.set _ _).congr fun i hi => ?_⟩
        by_cases e : i = n - 1 - k
        · subst e
          rw [if_pos rfl, if_pos (by omega), Crc.col_last n k hlt]
        · rw [if_neg e]
          by_cases h2 : n - k ≤ i ∧ i < n
          · rw [if_pos h2, if_pos (by omega)]
          · rw [if_neg h2, if_neg (by omega)]
      case measure => simp [intOf]; omega
    · obtain rfl : k = n := by omega
      have HO := Lib.hid (ho.congr (g := fun j => if j < k + 0 then Crc.col k j else 0) fun i hi => by
        by_cases h2 : i < k
        · rw [if_pos (by omega), if_pos (by omega)]
        · rw [if_neg (by omega), if_neg (by omega)])
      clear ho hlt
      go_wp2_with fail
      obtain ⟨wo, rfl⟩ : ∃ wo : World, wo = wr := ⟨_, rfl⟩
      go_loopw [6, 22] (fun _ i wr => ∃ m : Nat, m ≤ 32 - k ∧ i = .int .i64 m ∧ Own37 w wr (fun j => if j < k + m then Crc.col k j else 0)) (fun _ i _ => 32 - k - (intOf i).toNat)
      case atStart => exact ⟨0, by omega, rfl, HO.out⟩
      case round =>
        obtain ⟨m, hm, rfl, ho⟩ := hrel
        by_cases hlt : m < 32 - k
        · have hcell := ho.cell (i := k + m) (by omega)
          have hfree := ho.free (k + m)
          have HO := Lib.hid ho
          clear ho
          go_wp2_with fail
          go_roundw
          case rel =>
            have e1 : (2 : Int) ^ m % 4294967296 = ((2 ^ m : Nat) : Int) := by
              have h2 : 2 ^ m < 2 ^ 32 := Nat.pow_lt_pow_right (by omega) (by omega)
              have h3 : ((2 ^ m : Nat) : Int) < 4294967296 := by
                have : (2 : Nat) ^ 32 = 4294967296 := by decide
                omega
              have h4 : ((2 ^ m : Nat) : Int) = (2 : Int) ^ m := by simp
              rw [← h4]
              exact Int.emod_eq_of_lt (Int.natCast_nonneg _) h3
            refine ⟨m + 1, by omega, by go_num, ?_⟩
            rw [e1]
            refine (HO.out.set _ _).congr fun i hi => ?_
            by_cases e : i = k + m
            · subst e
              rw [if_pos rfl, if_pos (by omega), Crc.col_move]
            · rw [if_neg e]
              by_cases h2 : i < k + m
              · rw [if_pos h2, if_pos (by omega)]
              · rw [if_neg h2, if_neg (by omega)]
          case measure => simp [intOf]; omega
        · obtain rfl : m = 32 - k := by omega
          have HO := Lib.hid (ho.congr (g := Crc.col k) fun i hi => by rw [if_pos (by omega)])
          clear ho hlt
          have harr := HO.out.arr
          have hres := HO.out.res
          go_wp2_with (first | (refine wpList_load_row rfl 57 _ rfl _ rfl _ _ _ _ harr Try.underlying57 rfl (by rw [arr_size]; kernel_rfl) ?_) | (refine wpList_store_row rfl 57 _ _ rfl _ (arr (Crc.col k)) rfl rfl 57 _ hres (by rw [arr_size]; kernel_rfl) (by rw [arr_size, arr_size]) (arr_one _) ?_))
          exact bodyPost_ret (v := .agg (arr (Crc.col k))) (results_cell_row rfl _ _ _ 57 _ (0, 0) _ rfl (setRow_heap _ _ _ _ _ _ HO.out.res) Try.underlying57 rfl (by rw [arr_size]; kernel_rfl)) rfl ⟨rfl, below_setRow HO.out.up (Nat.le_refl _) _⟩
end Go.Proofs.Ytdlgdlgpmfccmaa
namespace Go.Proofs.Ytdlgdlgpmfccmaa
open Go Go.RowKit
set_option linter.unusedVariables false
/-- The lowest k of four bytes. -/
def lfs (a b c d : Nat) : Nat → Nat
  | 0 => 0
  | 1 => a
  | 2 => a + 256 * b
  | 3 => a + 256 * (b + 256 * c)
  | _ => Crc.four a b c d
theorem or_c (j a y : Nat) (A B : Int) (n : Nat) (ha : a < 2 ^ j) (hA : A = (a : Int)) (hB : B = ((2 ^ j * y : Nat) : Int)) (h1 : a < 4294967296) (h2 : 2 ^ j * y < 4294967296) (hn : 2 ^ j * y + a = n) : bits .or .u32 A B = (n : Int) := by
  subst hA; subst hB
  rw [u32_or_nat _ _ h1 h2, Nat.or_comm, ← Nat.two_pow_add_eq_or_of_lt ha, hn]
set_option maxHeartbeats 400000 in
theorem lowest_c (b o n cap : Nat) (x0 x1 x2 x3 : Nat) (w : World) (h0 : x0 < 256) (h1 : x1 < 256) (h2 : x2 < 256) (h3 : x3 < 256) (hn : 4 ≤ n)
    (c0 : w.cell? ⟨b, o, none⟩ = some (.int .u8 (x0 : Int))) (c1 : w.cell? ⟨b, o + 1, none⟩ = some (.int .u8 (x1 : Int))) (c2 : w.cell? ⟨b, o + 2, none⟩ = some (.int .u8 (x2 : Int))) (c3 : w.cell? ⟨b, o + 3, none⟩ = some (.int .u8 (x3 : Int))) :
    Calls Try.prog 31 #[.slice (some ⟨b, o, none⟩) n cap] w fun e w' => e = .returned (.int .u32 ((Crc.four x0 x1 x2 x3 : Nat) : Int)) ∧ w = w' := by
  go_enter Try.func31, Try.ntmps31
  go_wp2_with fail
  go_loop [3, 5] (fun r i => ∃ k : Nat, k ≤ 4 ∧ i = .int .i64 k ∧ r = .int .u32 ((lfs x0 x1 x2 x3 k : Nat) : Int)) (fun _ i => 4 - (intOf i).toNat)
  case atStart => exact ⟨0, by omega, rfl, rfl⟩
  case round =>
    obtain ⟨k, hk, rfl, rfl⟩ := hrel
    obtain rfl | rfl | rfl | rfl | rfl : k = 0 ∨ k = 1 ∨ k = 2 ∨ k = 3 ∨ k = 4 := by omega
    all_goals simp only [lfs]
    · go_wp2_with fail
      go_round
      case rel => exact ⟨1, by omega, rfl, u32_eq (or_c 0 0 x0 _ _ _ (by decide) rfl (by omega) (by omega) (by omega) (by simp))⟩
      case measure => simp [intOf]
    · go_wp2_with fail
      go_round
      case rel => exact ⟨2, by omega, rfl, u32_eq (or_c 8 x0 x1 _ _ _ (by omega) rfl (by omega) (by omega) (by omega) (by simp; omega))⟩
      case measure => simp [intOf]
    · go_wp2_with fail
      go_round
      case rel => exact ⟨3, by omega, rfl, u32_eq (or_c 16 (x0 + 256 * x1) x2 _ _ _ (by omega) (by omega) (by omega) (by omega) (by omega) (by simp; omega))⟩
      case measure => simp [intOf]
    · go_wp2_with fail
      go_round
      case rel => exact ⟨4, by omega, rfl, u32_eq (or_c 24 (x0 + 256 * (x1 + 256 * x2)) x3 _ _ _ (by omega) (by omega) (by omega) (by omega) (by omega) (by simp [Crc.four]; omega))⟩
      case measure => simp [intOf]
    · go_wp2_with fail
      go_ret
      exact ⟨rfl, rfl⟩
end Go.Proofs.Ytdlgdlgpmfccmaa
namespace Go.Proofs.Ytdlgdlgpmfccmaa
open Go Go.RowKit
set_option linter.unusedVariables false
theorem rmore (A : Option Addr) (cap : Nat) (xs : List Int) (s : Nat) (w : World) (hs : s < 4294967296) (hb : Byt xs) (hl : xs.length ≤ 140737488355328) (hx : Cells w A (ints .u8 xs)) :
    Calls Try.prog 26 #[.int .u32 (s : Int), .slice A xs.length cap] w fun e w' => e = .returned (.int .u32 ((Crc.more s (nats xs) : Nat) : Int)) ∧ w = w' := by
  cases xs with
  | cons x xs =>
    obtain ⟨g, o, rfl, hlt, hc⟩ := hx (by simp [ints])
    exact rmore1 g o cap _ s w hs hb hl hc
  | nil =>
    have hi : ((Crc.inv s : Nat) : Int) = 4294967295 - (s : Int) := by rw [Crc.inv_sub hs]; omega
    have hil := Crc.inv_lt hs
    have ho : (s : Int) = 4294967295 - ((Crc.inv s : Nat) : Int) := by omega
    have HI := Lib.hid hi
    have HO := Lib.hid ho
    clear hi ho
    go_enter Try.func26, Try.ntmps26
    go_wp2_with fail
    rw [← HI.out]
    go_loop [5, 6] (fun c i => c = .int .u32 (Crc.inv s : Nat) ∧ i = .int .i64 0) (fun _ _ => 0)
    case atStart => exact ⟨rfl, rfl⟩
    case round =>
      obtain ⟨rfl, rfl⟩ := hrel
      go_wp2
      go_ret
      refine ⟨?_, rfl⟩
      have : Crc.more s (nats []) = s := Crc.inv_inv s
      rw [this]
      conv => rhs; rw [HO.out]
      rfl
theorem rsum (A : Option Addr) (cap : Nat) (xs : List Int) (w : World) (hb : Byt xs) (hl : xs.length ≤ 140737488355328) (hx : Cells w A (ints .u8 xs)) :
    Calls Try.prog 18 #[.slice A xs.length cap] w fun e w' => e = .returned (.int .u32 ((Crc.more 0 (nats xs) : Nat) : Int)) ∧ w = w' := by
  have HB := Lib.hid hb
  have HX := Lib.hid hx
  clear hb hx
  go_enter Try.func18, Try.ntmps18
  go_wp2_with fail
  refine (rmore A cap xs 0 w (by omega) HB.out hl HX.out).mono ?_
  rintro e w1 ⟨rfl, rfl⟩
  go_wp2_with fail
  go_ret
  exact ⟨rfl, rfl⟩
end Go.Proofs.Ytdlgdlgpmfccmaa
namespace Go.Proofs.Ytdlgdlgpmfccmaa
open Go Go.RowKit
set_option linter.unusedVariables false
/-- What is asked of the program's calls. -/
def CSum : Prop := ∀ (A : Option Addr) (n cap : Nat) (xs : List Int) (w : World), InB w A n cap xs → n ≤ 140737488355328 →
  Calls Try.prog 25 #[.slice A n cap] w (U32 (Crc.more 0 (nats xs)) w)
def CMore : Prop := ∀ (A : Option Addr) (n cap : Nat) (xs : List Int) (s : Nat) (w : World), s < 4294967296 → InB w A n cap xs → n ≤ 140737488355328 →
  Calls Try.prog 24 #[.int .u32 (s : Int), .slice A n cap] w (U32 (Crc.more s (nats xs)) w)
theorem rmoreB {A : Option Addr} {n cap : Nat} {xs : List Int} {s : Nat} {w : World} (hs : s < 4294967296) (h : InB w A n cap xs) (hl : n ≤ 140737488355328) :
    Calls Try.prog 26 #[.int .u32 (s : Int), .slice A n cap] w fun e w' => e = .returned (.int .u32 ((Crc.more s (nats xs) : Nat) : Int)) ∧ w = w' := by
  obtain ⟨h1, h2, h3, rfl⟩ := h
  exact rmore A cap xs s w hs h2 hl h1
theorem rsumB {A : Option Addr} {n cap : Nat} {xs : List Int} {w : World} (h : InB w A n cap xs) (hl : n ≤ 140737488355328) :
    Calls Try.prog 18 #[.slice A n cap] w fun e w' => e = .returned (.int .u32 ((Crc.more 0 (nats xs) : Nat) : Int)) ∧ w = w' := by
  obtain ⟨h1, h2, h3, rfl⟩ := h
  exact rsum A cap xs w h2 hl h1
end Go.Proofs.Ytdlgdlgpmfccmaa
