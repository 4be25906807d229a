import Derived.Test.YthncpkjnalmpkaaMgU
import Derived.Lib.ConvBytes
namespace Go.Proofs.Ythncpkjnalmpkaa
open Go Go.RowKit Mg
set_option linter.unusedVariables false
set_option linter.unusedSimpArgs false
/-! For Answer: strings' bytes; rows of one's own whose attributes' bytes lie anywhere. -/
def strB (s : ByteArray) : List Int := s.data.toList.map fun b => (b.toNat : Int)
theorem strB_length (s : ByteArray) : (strB s).length = s.size := by
  unfold strB
  rw [List.length_map]
  rfl
theorem strB_byt (s : ByteArray) : Byt (strB s) := by
  intro x hx
  obtain ⟨b, _, rfl⟩ := List.mem_map.1 hx
  have := b.toNat_lt
  omega
theorem conv_str (s : ByteArray) (w : World) : ∃ c w', (convert 9 26 (.string s)).run Try.prog w = .ok (.slice (some ⟨w.heap.size, 0, none⟩) s.size c) w' ∧ Up w w' ∧ InB w' (some ⟨w.heap.size, 0, none⟩) s.size c (strB s) ∧ w'.heap.size = w.heap.size + 1 := by
  have hz := Lib.bytesWorld_size w 5 s
  refine ⟨grownCap w s.size 0 5, Lib.bytesWorld w 5 s, Lib.run_convert_string_bytes w 9 26 5 s Try.underlying9 Try.underlying26 Try.underlying5, ⟨rfl, rfl, rfl, by omega, fun j hj => Lib.bytesWorld_at_old w 5 s j hj⟩, ⟨fun _ => ⟨w.heap.size, 0, rfl, by omega, fun j u hu => ?_⟩, strB_byt s, grownCap_ge _ _ _ _, strB_length s⟩, hz⟩
  rw [Nat.zero_add]
  have hj : j < s.size := by
    have := (List.getElem?_eq_some_iff.1 hu).1
    simp only [ints, List.length_map, strB_length] at this
    exact this
  rw [Lib.bytesWorld_cell w 5 s j hj]
  have hj2 : j < s.data.toList.length := hj
  simp only [ints, strB, List.getElem?_map, List.getElem?_eq_getElem hj2, Option.map_some] at hu
  rw [← Option.some.inj hu]
  simp [List.getD_eq_getElem?_getD, List.getElem?_eq_getElem hj2]
/-- Where an attribute's bytes may lie beside a row: not in it. -/
def Off (A : Option Addr) (x : AvB) : Prop := x.bs ≠ [] → ∀ k, blk? x.A = some k → blk? A ≠ some k
structure GI (B0 : Nat) (w : World) (A : Option Addr) (n c : Nat) (out : List AvB) : Prop where
  row : w.ownsRow B0 56 5 (.slice A n c) n (rowa out)
  len : out.length = n
  av : ∀ x ∈ out, AvIn w x ∧ Off A x
section
variable {B0 : Nat} {T : Nat → Prop} {w w' : World} {A : Option Addr} {n c : Nat} {out : List AvB}
theorem GI.inL (h : GI B0 w A n c out) : InL w A n c out := ⟨row_cells h.row, fun x hx => (h.av x hx).1, row_cap h.row, h.len⟩
theorem GI.up (h : GI B0 w A n c out) (hu : Up w w') : GI B0 w' A n c out := ⟨own_up h.row hu, h.len, fun x hx => ⟨(h.av x hx).1.up hu, (h.av x hx).2⟩⟩
theorem gi_nil (B0 : Nat) (w : World) : GI B0 w none 0 0 [] := ⟨World.ownsRow_nil _ _ _ _, rfl, fun x hx => by cases hx⟩
theorem GI.lt (h : GI B0 w A n c out) {k : Nat} (hk : blk? A = some k) : B0 ≤ k ∧ k < w.heap.size := row_lt h.row hk
theorem avIn_out {x : AvB} (h : AvIn w x) (ho : Out T w w') (ht : x.bs ≠ [] → ∀ k, blk? x.A = some k → ¬ T k) : AvIn w' x := ⟨h.inb.outS' ho ht, h.ok, h.n⟩
theorem GI.outS (h : GI B0 w A n c out) (ho : Out T w w') (hA : ∀ k, blk? A = some k → ¬ T k) (hx : ∀ x ∈ out, x.bs ≠ [] → ∀ k, blk? x.A = some k → ¬ T k) : GI B0 w' A n c out :=
  ⟨ho.own h.row (fun g hg => hA g (by rwa [ownBlock_slice] at hg)), h.len, fun x hm => ⟨avIn_out (h.av x hm).1 ho (hx x hm), (h.av x hm).2⟩⟩
/-- Some more behind them. -/
theorem GI.pushes (h : GI B0 w A n c out) {ms : List AvB} {A' : Option Addr} {c' N m : Nat} (hm : ∀ x ∈ ms, AvIn w x ∧ Off A x) (hl : ms.length = m) (hN : N = n + m) (hrow : w'.ownsRow B0 56 5 (.slice A' N c') N (rowa out ++ rowa ms))
    (ho : Out (fun k => blk? A = some k) w w') (hb : blk? A' = blk? A ∨ blk? A' = some w.heap.size) : GI B0 w' A' N c' (out ++ ms) := by
  subst hN
  have key : ∀ y ∈ out ++ ms, AvIn w y ∧ Off A y := by
    intro y hy
    rcases List.mem_append.1 hy with h1 | h1
    · exact h.av y h1
    · exact hm y h1
  refine ⟨by rw [rowa_append]; exact hrow, by simp [h.len, hl], fun y hy => ⟨avIn_out (key y hy).1 ho (fun hne k hk e => (key y hy).2 hne k hk e), fun hne k hk e => ?_⟩⟩
  rcases hb with hb | hb
  · exact (key y hy).2 hne k hk (by rw [← hb]; exact e)
  · rw [hb] at e; injection e with e
    have := (key y hy).1.inb.lt hne hk
    omega
end
/-- A row of one's own, newly made, of attributes. -/
theorem rowa_new {l : List AvB} {n : Nat} {cs : Array Value} (w : World) (hn : l.length = n) (hc : cs.toList = rowa l) (hn2 : n ≤ 100) : (w.alloc (.cells cs 56)).ownsRow w.heap.size 56 5 (.slice (some ⟨w.heap.size, 0, none⟩) n n) n (rowa l) := by
  have hs : cs.size = n * 5 := by rw [← Array.length_toList, hc, rowa_length, hn]
  exact ⟨by rw [rowa_length, hn], .inr ⟨w.heap.size, n, cs, rfl, Nat.le_refl _, new_at w _, Nat.le_refl _, by unfold maxLen; omega, hs, by rw [hc, List.take_of_length_le (by rw [rowa_length, hn]; exact Nat.le_refl _)]⟩⟩
set_option maxRecDepth 100000 in
set_option maxHeartbeats 2000000 in
theorem must_any (c : Int) (A : Option Addr) (n k : Nat) (w : World) : Calls Try.prog 42 #[.int .u32 c, .slice A n k] w fun e w' => e = .returned (.agg #[.int .u32 c, .int .u32 0, .bool true, .bool false, .slice A n k]) ∧ Up w w' := by
  have HU := Lib.hid (up_alloc w (.cells #[.int .u32 0, .int .u32 0, .bool false, .bool false, .slice none 0 0] 56))
  have HQ := Lib.hid (new_at w (.cells #[.int .u32 0, .int .u32 0, .bool false, .bool false, .slice none 0 0] 56))
  go_enter Try.func42, Try.ntmps42
  go_upto_region 1 with (fail)
  generalize w.alloc (.cells #[.int .u32 0, .int .u32 0, .bool false, .bool false, .slice none 0 0] 56) = wa at HU HQ ⊢
  obtain ⟨q, HQE⟩ : ∃ q, Hid (w.heap.size = q) := ⟨_, Lib.hid rfl⟩
  rw [HQE.out] at HQ ⊢
  go_wp2_with (with_reducible refine wpList_store_row rfl 56 _ _ rfl q #[.int .u32 c, .int .u32 0, .bool true, .bool false, .slice A n k] rfl rfl 56 _ HQ.out (by kernel_rfl) rfl (by simp [Value.oneCell']) ?_)
  refine bodyPost_ret (results_cell_row (fn := Try.f42) (p := 4) (ty := 56) rfl _ _ q 56 _ (0, 0) _ rfl (setRow_heap _ _ _ _ _ _ HQ.out) Try.underlying56 rfl (by kernel_rfl)) rfl ?_
  exact ⟨rfl, below_setRow HU.out (by rw [HQE.out]; exact Nat.le_refl _) _⟩
set_option maxHeartbeats 2000000 in
theorem result_any (c : Int) (w : World) (h0 : -9223372036854775808 ≤ c) (h1 : c < 9223372036854775808) : Calls Try.prog 44 #[.int .i64 c] w fun e w' => e = .returned (.int .u64 (numM c)) ∧ w' = w := by
  by_cases hc : 0 ≤ c ∧ c ≤ 4294967295
  · obtain ⟨c0, c1⟩ := hc
    have HN := Lib.hid (show numM c = c by unfold numM; rw [if_pos ⟨c0, c1⟩])
    have d1 : decide (c ≤ 4294967295) = true := decide_eq_true c1
    go_enter Try.func44, Try.ntmps44
    go_wp2_with fail
    go_ret
    exact ⟨by rw [HN.out]; rfl, rfl⟩
  · have HN := Lib.hid (show numM c = 0 by unfold numM; rw [if_neg hc])
    have HW : ¬ IntKind.u64.wrap c ≤ 4294967295 := by
      simp only [IntKind.wrap, IntKind.bits, IntKind.signed]
      simp
      omega
    go_enter Try.func44, Try.ntmps44
    go_wp2_with fail
    go_ret
    exact ⟨by rw [HN.out]; rfl, rfl⟩
end Go.Proofs.Ythncpkjnalmpkaa
