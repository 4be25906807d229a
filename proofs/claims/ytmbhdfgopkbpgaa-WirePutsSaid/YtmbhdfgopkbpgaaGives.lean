import Derived.Test.YtmbhdfgopkbpgaaWire6
import Derived.Test.YtmbhdfgopkbpgaaOps
import Derived.Test.YtmbhdfgopkbpgaaAr
namespace Go.Proofs.Ytmbhdfgopkbpgaa
open Go Go.RowKit

/-- It reads as these bytes. -/
def BytesOf (ns : List Int) : Value → World → Prop := fun v w => IsS w v (u8s ns)
theorem keeps_bytes (ns : List Int) : Keeps (BytesOf ns) := fun _ _ _ h hu => IsS.up h hu
theorem NewB.gives {w0 : World} {ns : List Int} {e : Ending} {w' : World} (h : NewB w0 ns e w') : Up w0 w' ∧ ∃ v, e = .returned v ∧ BytesOf ns v w' := by
  obtain ⟨A, c, rfl, hown, hb⟩ := h
  exact ⟨hb, _, rfl, IsS.of_own hown⟩
theorem own_gives {xs : List Int} {v : Value} {w : World} (h : BytesOf xs v w) (hk : xs.length + 9 ≤ 140737488355328) : Gives Try.prog 10 #[v] w (BytesOf xs) := by
  obtain ⟨A, c, rfl, hc, hx⟩ := h
  exact (own_any A _ c xs w (u8s_length xs).symm hx (by rw [u8s_length]; exact hk)).mono fun e w' h => h.gives
/-- What Put answers. -/
def putL (xs : List Int) (n s : Int) : List Int := if 1 ≤ s ∧ s ≤ 8 then xs ++ be n s.toNat else xs
theorem put_gives {xs : List Int} {n s : Int} {v : Value} {w : World} (h : BytesOf xs v w) (hk : xs.length + 9 ≤ 140737488355328) : Gives Try.prog 9 #[v, .int .u64 n, .int .i64 s] w (BytesOf (putL xs n s)) := by
  obtain ⟨A, c, rfl, hc, hx⟩ := h
  unfold putL
  by_cases hs : 1 ≤ s ∧ s ≤ 8
  · obtain ⟨t, rfl⟩ := Int.eq_ofNat_of_zero_le (show 0 ≤ s by omega)
    rw [if_pos hs]
    refine (put_any A _ c t xs n w (u8s_length xs).symm hx (by rw [u8s_length]; omega) (by omega) (by omega)).mono fun e w' ⟨he, hr, hb⟩ => ?_
    subst he
    exact (newB_full (by rw [u8s_length, List.length_append, be_length]) (by rw [u8s_length]; unfold maxLen; omega) hr.out hb).gives
  · rw [if_neg hs]
    refine (put_none A _ c s xs n w (u8s_length xs).symm hx (by rw [u8s_length]; omega) (by omega)).mono fun e w' ⟨he, hr, hb⟩ => ?_
    subst he
    exact (newB_full (u8s_length xs).symm (by rw [u8s_length]; unfold maxLen; omega) hr.out hb).gives
theorem refput_gives {xs : List Int} {n s : Int} {v : Value} {w : World} (h : BytesOf xs v w) (hk : xs.length + 9 ≤ 140737488355328) : Gives Try.prog 11 #[v, .int .u64 n, .int .i64 s] w (BytesOf (putL xs n s)) := by
  obtain ⟨A, c, rfl, hc, hx⟩ := h
  unfold putL
  by_cases hs : 1 ≤ s ∧ s ≤ 8
  · obtain ⟨t, rfl⟩ := Int.eq_ofNat_of_zero_le (show 0 ≤ s by omega)
    rw [if_pos hs]
    exact (refput_any A _ c t xs n w (u8s_length xs).symm hx (by rw [u8s_length]; omega) (by omega) (by omega)).mono fun e w' h => h.gives
  · rw [if_neg hs]
    exact (refput_none A _ c s xs n w (u8s_length xs).symm hx (by rw [u8s_length]; omega) (by omega)).mono fun e w' h => h.gives
theorem answers_gives {w : World} : Gives Try.prog 8 #[] w (Is (.bool true)) :=
  (answers_any w).mono fun _ _ ⟨he, hb⟩ => ⟨hb, _, he, rfl⟩
theorem conv_bytes {xs : List Int} {v : Value} {w : World} (h : BytesOf xs v w) : (convert 22 9 v).run Try.prog w = .ok (.string (strOfNums xs)) w := by
  obtain ⟨A, c, rfl, hc, hx⟩ := h
  rw [u8s_length]
  by_cases hn : xs = []
  · subst hn
    cases A with
    | none => exact run_convert_bytes_nil w 22 5 Try.underlying22 Try.underlying5 _ _ 9 Try.underlying9
    | some a =>
      rw [run_convert_bytes_string w 22 9 5 _ _ c Try.underlying22 Try.underlying5 Try.underlying9]
      have h0 : (loadCells a 0).run Try.prog w = .ok #[] w := by simpa using run_loadCells_list (P := Try.prog) w a [] (by simp)
      exact run_bytesToString w a 0 c [] (by simpa using h0)
  · obtain ⟨b, o, rfl, hlt, hcl⟩ := hx (by simpa [u8s] using hn)
    refine run_convert_bytes_arg w 22 5 Try.underlying22 Try.underlying5 b o _ c xs rfl (fun i hi => ?_) 9 Try.underlying9
    refine hcl i _ ?_
    simp [u8s, List.getD, hi]
theorem fine_lenB {o : Oper} {a : Act} {w : World} {φ : Value → World → Prop} (x : Operand) (xs : List Int) (ho : o.op = .call { callee := .builtin .len, args := #[x], argTypes := #[22] }) (hx : BytesOf xs (a.eval x) w) (h : φ (.int .i64 (xs.length : Nat)) w) : Fine Try.prog o a w φ := by
  obtain ⟨A, c, e, _, _⟩ := hx
  rw [u8s_length] at e
  exact fine_len x 22 5 A _ c ho Try.underlying22 e h
/-- What Pad answers. -/
def padI (n : Int) : Int := if n < 0 then 0 else (padN n.toNat : Int)
theorem pad_gives {n : Int} {w : World} (h : n ≤ 9223372036854775807) : Gives Try.prog 13 #[.int .i64 n] w (Is (.int .i64 (padI n))) := by
  unfold padI
  by_cases hn : n < 0
  · rw [if_pos hn]
    exact (pad_neg n w hn).mono fun e w' ⟨he, hw⟩ => by subst hw; exact ⟨Up.refl w, _, he, rfl⟩
  · rw [if_neg hn]
    obtain ⟨t, rfl⟩ := Int.eq_ofNat_of_zero_le (show 0 ≤ n by omega)
    exact (pad_any t w h).mono fun e w' ⟨he, hw⟩ => by subst hw; exact ⟨Up.refl w, _, he, rfl⟩
theorem refpad_gives {n : Int} {w : World} (h : n ≤ 9223372036854775807) : Gives Try.prog 14 #[.int .i64 n] w (Is (.int .i64 (padI n))) := by
  unfold padI
  by_cases hn : n < 0
  · rw [if_pos hn]
    exact (refpad_neg n w hn).mono fun e w' ⟨he, hw⟩ => by subst hw; exact ⟨Up.refl w, _, he, rfl⟩
  · rw [if_neg hn]
    obtain ⟨t, rfl⟩ := Int.eq_ofNat_of_zero_le (show 0 ≤ n by omega)
    exact (refpad_any t w h).mono fun e w' ⟨he, hw⟩ => by subst hw; exact ⟨Up.refl w, _, he, rfl⟩
/-- What Padded answers. -/
def padL (xs : List Int) : List Int := xs ++ List.replicate (padN xs.length) 0
theorem padL_length (xs : List Int) : (padL xs).length = xs.length + padN xs.length := by simp [padL]
theorem padded_gives {xs : List Int} {v : Value} {w : World} (h : BytesOf xs v w) (hk : xs.length + 9 ≤ 140737488355328) : Gives Try.prog 12 #[v] w (BytesOf (padL xs)) := by
  obtain ⟨A, c, rfl, hc, hx⟩ := h
  refine (padded_any A _ c xs w (u8s_length xs).symm hx (by rw [u8s_length]; omega)).mono fun e w' ⟨he, hr, hb⟩ => ?_
  subst he
  have := padN_lt xs.length
  exact (newB_full (by rw [u8s_length]; exact padL_length xs) (by rw [u8s_length]; unfold maxLen; omega) (by have := hr.out; rw [u8s_length] at this; exact this) hb).gives
theorem refpadded_gives {xs : List Int} {v : Value} {w : World} (h : BytesOf xs v w) (hk : xs.length + 9 ≤ 140737488355328) : Gives Try.prog 15 #[v] w (BytesOf (padL xs)) := by
  obtain ⟨A, c, rfl, hc, hx⟩ := h
  exact (refpadded_any A _ c xs w (u8s_length xs).symm hx (by rw [u8s_length]; omega)).mono fun e w' h => by rw [u8s_length] at h; exact h.gives
theorem get_gives {xs : List Int} {v : Value} {w : World} {at_ s : Int} (a t : Nat) (ha : at_ = (a : Int)) (ht : s = (t : Int)) (h : BytesOf xs v w) (hk : xs.length + 9 ≤ 140737488355328) (hat : a + t ≤ xs.length) (h1 : 1 ≤ t) (h8 : t ≤ 8) (hb : ∀ x ∈ xs, 0 ≤ x ∧ x < 256) :
    Gives Try.prog 16 #[v, .int .i64 at_, .int .i64 s] w (Is (.tuple #[.int .u64 (num 0 ((xs.drop a).take t)), .int .i64 0])) := by
  obtain ⟨A, c, rfl, hc, hx⟩ := h
  subst ha ht
  exact (get_any A _ c a t xs w (u8s_length xs).symm hx (by rw [u8s_length]; omega) (by rw [u8s_length]; omega) h1 h8 hb).mono fun e w' ⟨he, hw⟩ => by subst hw; exact ⟨Up.refl w, _, he, rfl⟩
theorem part_gives {xs : List Int} {v : Value} {w : World} {at_ n : Int} (a t : Nat) (ha : at_ = (a : Int)) (ht : n = (t : Int)) (h : BytesOf xs v w) (hk : xs.length + 9 ≤ 140737488355328) (hat : a + t ≤ xs.length) :
    Calls Try.prog 17 #[v, .int .i64 at_, .int .i64 n] w fun e w' => Up w w' ∧ ∃ v', e = .returned (.tuple #[v', .int .i64 0]) ∧ BytesOf ((xs.drop a).take t) v' w' := by
  obtain ⟨A, c, rfl, hc, hx⟩ := h
  subst ha ht
  refine (part_any A _ c a t xs w (u8s_length xs).symm hc hx (by rw [u8s_length]; omega) (by rw [u8s_length]; omega)).mono fun e w' ⟨he, hr, hb⟩ => ?_
  subst he
  obtain ⟨hu, v', e1, h1⟩ := (newB_full (w0 := w) (m := t) (by simp; omega) (by unfold maxLen; omega) hr.out hb).gives
  injection e1 with e1
  subst e1
  exact ⟨hb, _, rfl, h1⟩
theorem be_byte (n : Int) (s : Nat) : ∀ x ∈ be n s, 0 ≤ x ∧ x < 256 := by
  induction s with
  | zero => simp [be]
  | succ s ih =>
    intro x hx
    simp only [be, List.mem_cons] at hx
    rcases hx with rfl | hx
    · omega
    · exact ih x hx
theorem num_be (n : Int) (h0 : 0 ≤ n) (s : Nat) : num 0 (be n s) = n % 256 ^ s := by
  have key : ∀ (s : Nat) (v : Int), num v (be n s) = v * 256 ^ s + n % 256 ^ s := by
    intro s
    induction s with
    | zero => intro v; simp [be, num]
    | succ s ih =>
      intro v
      simp only [be, num]
      rw [ih]
      have e1 : (2 : Int) ^ (8 * s) = 256 ^ s := by rw [Int.pow_mul]; rfl
      rw [e1]
      have hp : (0 : Int) < 256 ^ s := Int.pow_pos (by decide)
      have e2 : n % 256 ^ (s + 1) = n / 256 ^ s % 256 * 256 ^ s + n % 256 ^ s := by
        obtain ⟨k, rfl⟩ := Int.eq_ofNat_of_zero_le h0
        have := Nat.mod_mul (x := k) (a := 256 ^ s) (b := 256)
        rw [← Nat.pow_succ, Nat.add_comm, Nat.mul_comm] at this
        have h2 := congrArg (fun z : Nat => (z : Int)) this
        simp only [Int.natCast_add, Int.natCast_mul, Int.natCast_emod, Int.natCast_ediv, Int.natCast_pow] at h2
        exact h2
      rw [e2, Int.pow_succ]
      generalize (256 : Int) ^ s = p at *
      generalize n / p % 256 = q at *
      rw [Int.add_mul, Int.mul_assoc, Int.mul_comm 256 p, ← Int.mul_assoc]
      omega
  have := key s 0
  simpa using this
theorem elem22 : Try.prog.elem 22 = 5 := by simp [Program.elem, Try.underlying22]
theorem sizeOf5 (w : World) : (sizeOf 5).run Try.prog w = .ok 1 w := by
  obtain ⟨i, hi, _, hs, _⟩ := info_parts info5
  simp [sizeOf, typeInfo, hi, hs]
theorem map_add0 (A : Option Addr) : A.map (·.add 0) = A := by cases A <;> simp [Addr.add]
theorem fine_sliceHi {o : Oper} {a : Act} {w : World} {φ : Value → World → Prop} (x h : Operand) (xs : List Int) (n : Nat) (ho : o.op = .slice 22 x none (some h) none) (hx : BytesOf xs (a.eval x) w) (hh : a.eval h = .int .i64 (n : Nat)) (hn : n ≤ xs.length) (hφ : ∀ v, BytesOf (xs.take n) v w → φ v w) : Fine Try.prog o a w φ := by
  obtain ⟨A, c, e, hc, hcl⟩ := hx
  rw [u8s_length] at e hc
  have hu : Try.prog.underlying 22 = some (.slice (Try.prog.elem 22)) := by rw [elem22]; exact Try.underlying22
  refine fine_quiet (.slice A n c) ?_ (hφ _ ⟨A, c, by rw [u8s_length, List.length_take, Nat.min_eq_left hn], by rw [u8s_length, List.length_take]; omega, ?_⟩)
  · have hr := run_slice_h (P := Try.prog) w 22 A xs.length c hu .i64 (n : Int) (by omega) (by omega)
    rw [elem22, sizeOf5, ← run_sliceAt_slice (P := Try.prog) w 22 _ _ _ _ hu] at hr
    have e0 : (if c = 0 then A else A.map (·.add 0)) = A := by split; rfl; exact map_add0 A
    simp only [Result.andThen, sliced, Int.toNat_natCast, Nat.sub_zero, Nat.zero_mul, e0] at hr
    unfold execOp
    simp only [ho, Option.map_some, Option.map_none, e, hh]
    simp [hr, Result.andThen]
  · intro hne
    have := hcl.cut 0 n
    rw [map_add0, List.drop_zero] at this
    exact (show Cells w A (u8s (xs.take n)) by rw [show u8s (xs.take n) = (u8s xs).take n by simp [u8s, List.map_take]]; exact this) hne
theorem shift_cut (n : Int) (s : Nat) (h8 : s < 8) : IntKind.u64.wrap (n * 2 ^ (64 - 8 * s)) / 2 ^ (64 - 8 * s) = n % 256 ^ s := by
  rw [IntKind.wrap_u64]
  have hp : (0 : Int) < 2 ^ (64 - 8 * s) := Int.pow_pos (by decide)
  have e : (18446744073709551616 : Int) = 256 ^ s * 2 ^ (64 - 8 * s) := by
    have : (256 : Int) ^ s = 2 ^ (8 * s) := by rw [Int.pow_mul]; rfl
    rw [this, ← Int.pow_add, show 8 * s + (64 - 8 * s) = 64 by omega]
    rfl
  rw [e, Int.mul_comm n, Int.mul_comm (256 ^ s), Int.mul_emod_mul_of_pos _ _ hp, Int.mul_ediv_cancel_left _ (by omega)]
theorem short_gives {xs : List Int} {v : Value} {w : World} {at_ n : Int} (a t : Nat) (ha : at_ = (a : Int)) (ht : n = (t : Int)) (h : BytesOf xs v w) (hk : xs.length + 9 ≤ 140737488355328) (hat : xs.length < a + t) (ha2 : a ≤ 140737488355328) :
    Calls Try.prog 17 #[v, .int .i64 at_, .int .i64 n] w fun e w' => Up w w' ∧ e = .returned (.tuple #[.slice none 0 0, .int .i64 3]) := by
  obtain ⟨A, c, rfl, hc, hx⟩ := h
  subst ha ht
  exact (part_short A _ c a t w (by rw [u8s_length]; omega) (by rw [u8s_length]; exact hat) ha2).mono fun e w' ⟨he, hw⟩ => by subst hw; exact ⟨Up.refl w, he⟩
end Go.Proofs.Ytmbhdfgopkbpgaa
