import Derived.Test.YtbaojdfgmiphhaaCrcM
import Derived.Test.YtbaojdfgmiphhaaFrameI
import Derived.Laws.BitsAllLaws
import Derived.Test.YtbaojdfgmiphhaaChecked
namespace Go.Proofs.Ytbaojdfgmiphhaa
open Go Go.RowKit
set_option linter.unusedVariables false
/-- Bytes as plain numbers. -/
def nats (xs : List Int) : List Nat := xs.map Int.toNat
/-- Each fits a byte. -/
def Byt (xs : List Int) : Prop := ∀ x ∈ xs, 0 ≤ x ∧ x < 256
theorem nats_lt {xs : List Int} (h : Byt xs) : ∀ b ∈ nats xs, b < 256 := by
  intro b hb
  simp only [nats, List.mem_map] at hb
  obtain ⟨x, hx, rfl⟩ := hb
  have := h x hx
  omega
theorem nats_append (xs ys : List Int) : nats (xs ++ ys) = nats xs ++ nats ys := by simp [nats]
theorem xor_c (a b : Nat) (A B : Int) (ha : a < 4294967296) (hb : b < 4294967296) (hA : A = (a : Int)) (hB : B = (b : Int)) : bits .xor .u32 A B = ((a ^^^ b : Nat) : Int) := by subst hA; subst hB; exact u32_xor_nat a b ha hb
theorem and1_c (a : Nat) (A : Int) (ha : a < 4294967296) (hA : A = (a : Int)) : bits .and .u32 A 1 = ((a % 2 : Nat) : Int) := by
  subst hA
  have := u32_and_nat a 1 ha (by omega)
  rw [Nat.and_one_is_mod] at this
  exact this
theorem nats_take {xs : List Int} {k x : Nat} (hx : xs[k]? = some (x : Int)) : nats (xs.take (k + 1)) = nats (xs.take k) ++ [x] := by
  obtain ⟨hlt, he⟩ := List.getElem?_eq_some_iff.1 hx
  rw [List.take_succ_eq_append_getElem hlt, nats_append, he]
  rfl
/-- A call answers this number, and nothing that was there has turned. -/
def U32 (n : Nat) (w : World) (e : Ending) (w' : World) : Prop := e = .returned (.int .u32 (n : Int)) ∧ Up w w'
theorem bit_val (x k c : Nat) (hx : x < 256) (hc : c < 4294967296) : bits .and .u32 (bits .xor .u32 ((x : Int) / 2 ^ k) (c : Int)) 1 = (((x / 2 ^ k ^^^ c) % 2 : Nat) : Int) := by
  have h1 : x / 2 ^ k < 4294967296 := Nat.lt_of_le_of_lt (Nat.div_le_self _ _) (by omega)
  have e1 := xor_c (x / 2 ^ k) c ((x : Int) / 2 ^ k) c h1 hc (by push_cast; rfl) rfl
  rw [e1]
  exact and1_c _ _ (Nat.xor_lt_two_pow (n := 32) (by omega) (by omega)) rfl
theorem bit_one {x k c : Nat} (h : (x / 2 ^ k ^^^ c) % 2 = 1) (hc : c < 4294967296) : bits .xor .u32 ((c : Int) / 2) 2197175160 = ((Crc.bit1 (x / 2 ^ k) c : Nat) : Int) := by
  rw [xor_c (c / 2) 2197175160 ((c : Int) / 2) 2197175160 (by omega) (by omega) (by omega) rfl]
  unfold Crc.bit1 Crc.poly
  rw [if_pos h]
theorem bit_nil {x k c : Nat} (h : ¬ (x / 2 ^ k ^^^ c) % 2 = 1) : (c : Int) / 2 = ((Crc.bit1 (x / 2 ^ k) c : Nat) : Int) := by
  unfold Crc.bit1
  rw [if_neg h, Nat.xor_zero]
  omega
theorem bit_next {x k c T : Nat} (hk : k < 8) (h : Crc.shN (8 - k) (c ^^^ x / 2 ^ k) = T) : Crc.shN (8 - (k + 1)) (Crc.bit1 (x / 2 ^ k) c ^^^ x / 2 ^ (k + 1)) = T := by
  rw [show 8 - k = (8 - (k + 1)) + 1 by omega] at h
  have h' : Crc.shN (8 - (k + 1)) (Crc.sh (c ^^^ x / 2 ^ k)) = T := h
  rw [Crc.bit1_step, Nat.div_div_eq_div_mul] at h'
  rwa [Nat.pow_succ]
set_option maxHeartbeats 400000 in
theorem rmore1 (g o cap : Nat) (xs : List Int) (s : Nat) (w : World) (hs : s < 4294967296) (hb : Byt xs) (hl : xs.length ≤ 140737488355328)
    (hc : ∀ j u, (ints .u8 xs)[j]? = some u → w.cell? ⟨g, o + j, none⟩ = some u) :
    Calls Try.prog 13 #[.int .u32 (s : Int), .slice (some ⟨g, o, none⟩) xs.length cap] w fun e w' => e = .returned (.int .u32 ((Crc.more s (nats xs) : Nat) : Int)) ∧ w = w' := by
  have HC := Lib.hid hc
  have HB := Lib.hid hb
  clear hc hb
  have hi : ((Crc.inv s : Nat) : Int) = 4294967295 - (s : Int) := by rw [Crc.inv_sub hs]; omega
  have hil := Crc.inv_lt hs
  have HI := Lib.hid hi
  clear hi
  go_enter Try.func13, Try.ntmps13
  go_wp2_with fail
  rw [← HI.out]
  go_loop [5, 6] (fun c i => ∃ k r : Nat, k ≤ xs.length ∧ c = .int .u32 (r : Int) ∧ i = .int .i64 k ∧ Hid (r = Crc.reg (Crc.inv s) (nats (xs.take k))) ∧ r < 4294967296) (fun _ i => xs.length - (intOf i).toNat)
  case atStart => exact ⟨0, _, Nat.zero_le _, rfl, rfl, rfl, hil⟩
  case round =>
    obtain ⟨k, r, hk, rfl, rfl, HR, hr⟩ := hrel
    by_cases hlt : k < xs.length
    · obtain ⟨x, hx⟩ : ∃ x, xs[k]? = some x := ⟨xs[k], by simp [hlt]⟩
      have hxb := HB.out x (List.mem_of_getElem? hx)
      obtain ⟨x, rfl⟩ := Int.eq_ofNat_of_zero_le hxb.1
      have hx8 : x < 256 := by omega
      have hcell : w.cell? ⟨g, o + k, none⟩ = some (.int .u8 x) := HC.out k _ (by simp [ints, hx])
      have HN := Lib.hid (nats_take hx)
      clear hx hxb
      go_wp2_with fail
      go_loop [5, 7] (fun c i => ∃ q v : Nat, q ≤ 8 ∧ c = .int .u32 (v : Int) ∧ i = .int .i64 q ∧ Hid (Crc.shN (8 - q) (v ^^^ x / 2 ^ q) = Crc.byt r x) ∧ v < 4294967296) (fun _ i => 8 - (intOf i).toNat)
      case atStart => exact ⟨0, r, by omega, rfl, rfl, by show Crc.shN (8 - 0) (r ^^^ x / 2 ^ 0) = Crc.byt r x; rw [Nat.pow_zero, Nat.div_one]; rfl, hr⟩
      case round =>
        obtain ⟨q, v, hq, rfl, rfl, HV, hv⟩ := hrel
        by_cases hq8 : q < 8
        · have hq8i : (q : Int) < 8 := by omega
          have hbv := bit_val x q v hx8 hv
          have hnx := Lib.hid (bit_next hq8 HV.out)
          have hlt1 := Crc.bit1_lt (v := x / 2 ^ q) hv
          by_cases hone : (x / 2 ^ q ^^^ v) % 2 = 1
          · have hx1 := bit_one hone hv
            rw [hone] at hbv
            go_wp2_with fail
            go_round
            case rel => exact ⟨q + 1, Crc.bit1 (x / 2 ^ q) v, by omega, rfl, by go_num, hnx, hlt1⟩
            case measure => simp [intOf]; omega
          · have hx0 := Lib.hid (bit_nil hone)
            have hz : (x / 2 ^ q ^^^ v) % 2 = 0 := by omega
            rw [hz] at hbv
            clear hone
            go_wp2_with fail
            go_round
            case rel => exact ⟨q + 1, Crc.bit1 (x / 2 ^ q) v, by omega, by rw [← hx0.out], by go_num, hnx, hlt1⟩
            case measure => simp [intOf]; omega
        · obtain rfl : q = 8 := by omega
          have hfin : v = Crc.byt r x := by
            have := HV.out
            rw [show x / 2 ^ 8 = 0 by omega, Nat.xor_zero] at this
            exact this
          have HF := Lib.hid hfin
          clear hfin
          go_wp2_with fail
          go_round
          case rel => exact ⟨k + 1, v, by omega, rfl, by go_num, by show v = _; rw [HN.out, Crc.reg_snoc, ← HR.out]; exact HF.out, hv⟩
          case measure => simp [intOf]; omega
    · obtain rfl : k = xs.length := by omega
      have ho : ((Crc.inv r : Nat) : Int) = 4294967295 - (r : Int) := by rw [Crc.inv_sub hr]; omega
      have HO := Lib.hid ho
      clear ho
      go_wp2_with fail
      go_ret
      refine ⟨?_, rfl⟩
      have : Crc.more s (nats xs) = Crc.inv r := by rw [HR.out, List.take_length]; rfl
      rw [this, HO.out]
      rfl
end Go.Proofs.Ytbaojdfgmiphhaa
