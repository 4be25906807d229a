import Derived.Test.YtmbhdfgopkbpgaaWire5
namespace Go.Proofs.Ytmbhdfgopkbpgaa
open Go Go.RowKit

set_option maxHeartbeats 400000 in
theorem part_any (A : Option Addr) (m c a n : Nat) (xs : List Int) (w : World) (hm : xs.length = m) (hmc : m ≤ c) (hr : Cells w A (u8s xs)) (hk : m ≤ 140737488355328) (ha : a + n ≤ m) :
    Calls Try.prog 17 #[.slice A m c, .int .i64 (a : Int), .int .i64 (n : Int)] w fun e w' => e = .returned (.tuple #[.slice (some ⟨w.heap.size, 0, none⟩) n n, .int .i64 0]) ∧ Hid (w'.heap[w.heap.size]? = some (.cells (u8s ((xs.drop a).take n)).toArray 5 (0, 0))) ∧ Below w.heap.size w w' := by
  have HC := Lib.hid (show Cells w (A.map (·.add a)) (u8s ((xs.drop a).take n)) by have := hr.cut a n; simpa [u8s, List.map_take, List.map_drop] using this)
  have HL := Lib.hid (show (u8s ((xs.drop a).take n)).length = n by simp [u8s, hm]; omega)
  have HO := Lib.hid (u8s_one ((xs.drop a).take n))
  have fin : ∀ w' : World, Hid (w'.heap[w.heap.size]? = some (.cells (u8s ((xs.drop a).take n) ++ List.replicate 0 (Value.int .u8 0)).toArray 5 (0, 0))) → Hid (w'.heap[w.heap.size]? = some (.cells (u8s ((xs.drop a).take n)).toArray 5 (0, 0))) := fun w' h => by
    have := h.out
    rwa [List.replicate_zero, List.append_nil] at this
  have FIN := Lib.hid fin
  have h63 : (m : Int) ≤ 9223372036854775807 := by omega
  clear hm hr fin
  have ha0 : decide ((a : Int) < 0) = false := by simp
  have hn0 : decide ((n : Int) < 0) = false := by simp
  by_cases hca : c = a
  · subst hca
    obtain rfl : n = 0 := by omega
    obtain rfl : m = c := by omega
    have HC' := Lib.hid (show Cells w A (u8s ((xs.drop m).take 0)) by simpa [u8s] using Cells.nil w A)
    go_enter Try.func17, Try.ntmps17
    go_wp2_with (first
      | (go_at_call 20; refine (reaches_any A _ _ _ _ true _ h63 (by omega) (by omega) (by simp)).mono ?_; rintro e w' ⟨rfl, rfl⟩)
      | (go_at_call 19; refine (ext_any A 0 0 0 _ _ HL.out HC'.out HO.out (by omega)).mono ?_; rintro e w' ⟨rfl, hrow, hbel⟩))
    go_ret2
    exact ⟨rfl, FIN.out _ hrow, hbel⟩
  · go_enter Try.func17, Try.ntmps17
    go_wp2_with (first
      | (go_at_call 20; refine (reaches_any A m c a n true _ h63 (by omega) (by omega) (by simp; omega)).mono ?_; rintro e w' ⟨rfl, rfl⟩)
      | (go_at_call 19; refine (ext_any (A.map (·.add a)) n (c - a) 0 _ _ HL.out HC.out HO.out (by omega)).mono ?_; rintro e w' ⟨rfl, hrow, hbel⟩))
    go_ret2
    exact ⟨rfl, FIN.out _ hrow, hbel⟩

set_option maxHeartbeats 400000 in
theorem part_short (A : Option Addr) (m c a n : Nat) (w : World) (hk : m ≤ 140737488355328) (ha : m < a + n) (ha2 : a ≤ 140737488355328) :
    Calls Try.prog 17 #[.slice A m c, .int .i64 (a : Int), .int .i64 (n : Int)] w fun e w' => e = .returned (.tuple #[.slice none 0 0, .int .i64 3]) ∧ w = w' := by
  have h63 : (m : Int) ≤ 9223372036854775807 := by omega
  have ha0 : decide ((a : Int) < 0) = false := by simp
  have hn0 : decide ((n : Int) < 0) = false := by simp
  go_enter Try.func17, Try.ntmps17
  go_wp2_with (first
    | (go_at_call 20; refine (reaches_any A m c a n false _ h63 (by omega) (by omega) (by simp; omega)).mono ?_; rintro e w' ⟨rfl, rfl⟩))
  go_ret2
  exact ⟨rfl, rfl⟩

/-- The number that these bytes are, behind v. -/
def num : Int → List Int → Int
  | v, [] => v
  | v, x :: l => num (v * 256 + x) l
theorem num_snoc (l : List Int) (x : Int) : ∀ v, num v (l ++ [x]) = num v l * 256 + x := by
  induction l with
  | nil => intro v; rfl
  | cons y l ih => intro v; simp only [List.cons_append, num]; exact ih _
theorem num_bd (l : List Int) (hb : ∀ x ∈ l, 0 ≤ x ∧ x < 256) : 0 ≤ num 0 l ∧ num 0 l < 256 ^ l.length := by
  suffices h : ∀ (l : List Int) (v : Int) (k : Nat), (∀ x ∈ l, 0 ≤ x ∧ x < 256) → 0 ≤ v → v < 256 ^ k → 0 ≤ num v l ∧ num v l < 256 ^ (k + l.length) from by
    simpa using h l 0 0 hb (by omega) (by simp)
  intro l
  induction l with
  | nil => intro v k _ h0 h1; exact ⟨h0, by simpa [num] using h1⟩
  | cons x l ih =>
    intro v k hb h0 h1
    have hx := hb x (by simp)
    have h2 : v * 256 + x < 256 ^ (k + 1) := by rw [Int.pow_succ]; omega
    have := ih (v * 256 + x) (k + 1) (fun y hy => hb y (by simp [hy])) (by omega) h2
    simpa [num, Nat.add_assoc, Nat.add_comm 1] using this
theorem or_byte (v x : Int) (h0 : 0 ≤ v) (h1 : v < 72057594037927936) (h2 : 0 ≤ x) (h3 : x < 256) : bits .or .u64 (IntKind.u64.wrap (v * 256)) (IntKind.u64.wrap x) = v * 256 + x := by
  rw [IntKind.wrap_u64, IntKind.wrap_u64, Int.emod_eq_of_lt (by omega) (by omega), Int.emod_eq_of_lt h2 (by omega)]
  obtain ⟨n, rfl⟩ := Int.eq_ofNat_of_zero_le h0
  obtain ⟨y, rfl⟩ := Int.eq_ofNat_of_zero_le h2
  have e1 : ((n : Int) * 256) = ((n * 256 : Nat) : Int) := by omega
  rw [e1, u64_or_nat _ _ (by omega) (by omega)]
  have := Nat.two_pow_add_eq_or_of_lt (show y < 2 ^ 8 by omega) n
  rw [show n * 256 = 2 ^ 8 * n by omega, ← this]
  omega
theorem get_step {xs : List Int} {a j s m : Nat} (hb : ∀ x ∈ xs, 0 ≤ x ∧ x < 256) (hm : xs.length = m) (hj : j < s) (hs : s ≤ 8) (ha : a + s ≤ m) :
    bits .or .u64 (IntKind.u64.wrap (num 0 ((xs.drop a).take j) * 256)) (IntKind.u64.wrap (xs[a + j]?.getD 0)) = num 0 ((xs.drop a).take (j + 1)) := by
  have hlt : a + j < xs.length := by omega
  have hlen : ((xs.drop a).take j).length = j := by simp; omega
  have hn := num_bd ((xs.drop a).take j) (fun x hx => hb x (List.mem_of_mem_drop (List.mem_of_mem_take hx)))
  rw [hlen] at hn
  have hp : (256 : Int) ^ j ≤ 72057594037927936 := by
    match j, (show j < 8 by omega) with
    | 0, _ => decide
    | 1, _ => decide
    | 2, _ => decide
    | 3, _ => decide
    | 4, _ => decide
    | 5, _ => decide
    | 6, _ => decide
    | 7, _ => decide
  have hx := hb xs[a + j] (List.getElem_mem hlt)
  rw [List.getElem?_eq_getElem hlt, Option.getD_some, or_byte _ _ hn.1 (by omega) hx.1 hx.2, List.take_succ_eq_append_getElem (by simp; omega), num_snoc]
  simp
theorem get_cell {w : World} {b o a j m : Nat} {xs : List Int} (hc : ∀ (k : Nat) (u : Value), (u8s xs)[k]? = some u → w.cell? ⟨b, o + k, none⟩ = some u) (hm : xs.length = m) (h : a + j < m) : w.cell? ⟨b, o + (a + j), none⟩ = some (.int .u8 (xs.getD (a + j) 0)) := by
  refine hc _ _ ?_
  have : a + j < xs.length := by omega
  simp [u8s, List.getD, this]
set_option maxHeartbeats 400000 in
theorem get_any (A : Option Addr) (m c a s : Nat) (xs : List Int) (w : World) (hm : xs.length = m) (hr : Cells w A (u8s xs)) (hk : m ≤ 140737488355328) (ha : a + s ≤ m) (hs1 : 1 ≤ s) (hs8 : s ≤ 8) (hb : ∀ x ∈ xs, 0 ≤ x ∧ x < 256) :
    Calls Try.prog 16 #[.slice A m c, .int .i64 (a : Int), .int .i64 (s : Int)] w fun e w' => e = .returned (.tuple #[.int .u64 (num 0 ((xs.drop a).take s)), .int .i64 0]) ∧ w = w' := by
  have h63 : (m : Int) ≤ 9223372036854775807 := by omega
  have ha0 : decide ((a : Int) < 0) = false := by simp
  obtain ⟨b, o, rfl, hlt, hc⟩ := hr (by intro e; rw [u8s, List.map_eq_nil_iff] at e; subst e; simp at hm; omega)
  have HC := Lib.hid hc
  have HM := Lib.hid hm
  have HB := Lib.hid hb
  clear hr hc hm hb
  go_enter Try.func16, Try.ntmps16
  go_wp2_with (first
    | (go_at_call 18; refine (size_yes s _ hs1 hs8).mono ?_; rintro e w' ⟨rfl, rfl⟩)
    | (go_at_call 20; refine (reaches_any _ m c a s true _ h63 (by omega) (by omega) (by simp; omega)).mono ?_; rintro e w' ⟨rfl, rfl⟩))
  go_loop [8, 23] (fun v i => ∃ j : Nat, j ≤ s ∧ i = .int .i64 j ∧ v = .int .u64 (num 0 ((xs.drop a).take j))) (fun _ i => s - (intOf i).toNat)
  case atStart => exact ⟨0, Nat.zero_le _, rfl, rfl⟩
  case round =>
    obtain ⟨j, hj, rfl, rfl⟩ := hrel
    by_cases hjs : j < s
    · have hcell := get_cell HC.out HM.out (show a + j < m by omega)
      go_wp2
      go_round
      case rel => exact ⟨j + 1, by omega, by go_num, by rw [get_step HB.out HM.out hjs hs8 ha]⟩
      case measure => simp [intOf]; omega
    · obtain rfl : j = s := by omega
      go_wp2
      go_ret2
      exact ⟨rfl, rfl⟩
end Go.Proofs.Ytmbhdfgopkbpgaa
