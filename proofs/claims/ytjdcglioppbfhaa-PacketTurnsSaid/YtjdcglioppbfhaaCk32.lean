import Derived.Test.YtjdcglioppbfhaaCk2
import Derived.Test.YtjdcglioppbfhaaCkS
import Derived.Test.YtjdcglioppbfhaaCk31
import Derived.Test.YtjdcglioppbfhaaCk17
import Derived.Test.YtjdcglioppbfhaaCk22
import Derived.Test.YtjdcglioppbfhaaStaged
namespace Go.Proofs.Ytjdcglioppbfhaa
open Go Go.RowKit
set_option linter.unusedVariables false
set_option linter.unusedSimpArgs false
/-! The reference's ToHello. -/
def NumPost (k : Nat) (v : Int) (w : World) (e : Ending) (w' : World) : Prop := e = .returned (.int .i64 v) ∧ Hid (Up w w')
/-- What is read at a place. -/
def nmA (xs : List Int) (a s : Nat) : Int := num 0 ((xs.drop a).take s)
theorem nmA_bd {xs : List Int} {a s : Nat} (hb : Byt xs) (h : a + s ≤ xs.length) : 0 ≤ nmA xs a s ∧ nmA xs a s < 256 ^ s := by
  have := num_bd ((xs.drop a).take s) ((hb.drop _).take _)
  rwa [show ((xs.drop a).take s).length = s by simp; omega] at this
theorem rnumI (A : Option Addr) (m c a s : Nat) (xs : List Int) (w : World) (h : InB w A m c xs) (hk : m ≤ 140737488355328) (ha : a + s ≤ m) (hs1 : 1 ≤ s) (hs8 : s ≤ 7) :
    Calls Try.prog 21 #[.slice A m c, .int .i64 (a : Int), .int .i64 (s : Int)] w fun e w' => ∃ v, e = .returned (.int .i64 v) ∧ Hid (v = nmA xs a s) ∧ Hid (0 ≤ v ∧ v < 256 ^ s) ∧ Hid (Up w w') :=
  (rnum_ok A m c a s xs w h hk ha hs1 hs8).mono fun e w' ⟨he, hu⟩ => ⟨_, he, Lib.hid rfl, Lib.hid (nmA_bd h.byt (by rw [h.len]; exact ha)), Lib.hid hu⟩
end Go.Proofs.Ytjdcglioppbfhaa
namespace Go.Proofs.Ytjdcglioppbfhaa
open Go Go.RowKit
set_option linter.unusedVariables false
set_option linter.unusedSimpArgs false
theorem kpT_PhB {T : Nat → Prop} {B : Nat} {ys : List Int} (ht : ∀ k, T k → k < B) : KpT T (PhB B ys) := fun v w w' ⟨A, N, c, e, hn, ho⟩ hu => ⟨A, N, c, e, hn, hu.own ho (fun q hq hk => by have := (row_lt ho (by rwa [ownBlock_slice] at hq)).1; have := ht q hk; omega)⟩
/-- A copy, made by 'append'. -/
theorem append_copy {P : Program} {w : World} {k : IntKind} {t ty e : TypeId} {bytes : Nat} (ht : P.underlying t = some (.slice e)) (hinfo : (P.info? e).map (fun i => (i.zero, i.size, i.bytes)) = some (some (.int k 0), 1, bytes)) (b0 : Addr) (A : Addr) (m c : Nat) (ys : List Int) (hl : ys.length = m) (hc : Cells w (some A) (ints k ys)) (h0 : 0 < m) (hm : m ≤ 1000000000) (hby : bytes ≤ 8) (hby0 : 0 < bytes) :
    ∃ A' c' w', (Builtin.append_ #[t, t] ty #[.slice (some b0) 0 0, .slice (some A) m c]).run P w = .ok (.slice A' m c') w' ∧ OwnI k e w.heap.size w' A' m c' ys ∧ Up w w' := by
  obtain ⟨i, hi, hz0, hz1, hz2⟩ := info_parts hinfo
  have hcells : ∀ j u, (ints k ys)[j]? = some u → w.cell? (A.add j) = some u := fun j u hu => by
    obtain ⟨g, o, e, _, hh⟩ := hc (by intro h; rw [h] at hu; simp at hu)
    injection e with e
    subst e
    rw [add_flat]
    exact hh j u hu
  have hr := run_append_grow (P := P) w t ty e i (.int k 0) ht hi hz0 b0 0 0 [] (by simp) (by intro j v hj; simp at hj) A m c (ints k ys) (by rw [ints_length, hz1, hl, Nat.mul_one]) hcells (by omega) (by omega) (growslice_fits (by omega) (by have := Nat.mul_le_mul hm hby; rw [hz2, Nat.zero_add]; omega))
  simp only [Nat.zero_add] at hr
  have hge := grownCap_ge w m 0 e
  refine ⟨_, _, _, hr, ?_, (Up.drew w).trans (up_alloc _ _)⟩
  have hcm : grownCap w m 0 e ≤ maxLen := grownCap_le_maxLen w m 0 e (by unfold maxLen; omega)
  refine ⟨by rw [ints_length, hl, Nat.mul_one], .inr ⟨w.heap.size, _, _, rfl, Nat.le_refl _, heap_alloc_new w.drew _, hge, hcm, ?_, ?_⟩⟩
  · simp only [Array.size_append, List.size_toArray, size_zeroCells, ints_length, hl, List.length_nil]
    have : (Value.int k 0).cells.size = 1 := rfl
    rw [this]; omega
  · simp only [Array.toList_append, List.append_assoc]
    rw [Nat.mul_one]
    have hz : (ints k ys).length = m := (ints_length k ys).trans hl
    subst hz
    simp
end Go.Proofs.Ytjdcglioppbfhaa
namespace Go.Proofs.Ytjdcglioppbfhaa
open Go Go.RowKit
set_option linter.unusedVariables false
set_option linter.unusedSimpArgs false
theorem info5s : (Try.prog.info? 5).map (fun i => (i.zero, i.size, i.bytes)) = some (some (.int .u8 0), 1, 1) := by kernel_rfl
theorem bs_5 (w : World) : (Instr.buildSlice 22 0 #[]).run Try.prog w = .ok (.slice (some ⟨w.heap.size, 0, none⟩) 0 0) (w.alloc (.cells #[] 5)) := by kernel_rfl
end Go.Proofs.Ytjdcglioppbfhaa
namespace Go.Proofs.Ytjdcglioppbfhaa
open Go Go.RowKit
set_option linter.unusedVariables false
set_option linter.unusedSimpArgs false
/-! The reference's Put. -/
theorem putPost_no {l : List Ck.Chk} {w w' : World} {e : Ending} (h : e = .returned (.tuple #[.slice none 0 0, .int .i64 4])) (hn : ¬ (l.length ≤ 32 ∧ (encL l).length ≤ 4096)) (hu : Up w w') : PutPost l w e w' :=
  ⟨[], 4, none, 0, 0, h, Lib.hid (.inr ⟨rfl, rfl, hn⟩), Lib.hid rfl, Lib.hid (ownI_nil _ _ _ _), Lib.hid hu⟩
end Go.Proofs.Ytjdcglioppbfhaa
namespace Go.Proofs.Ytjdcglioppbfhaa
open Go Go.RowKit
set_option linter.unusedVariables false
set_option linter.unusedSimpArgs false
/-! The reference's Get: mathematics, and what its round needs. -/
theorem drop_two {xs : List Int} {at_ : Nat} (h : at_ + 4 ≤ xs.length) : ∃ a b c d, xs[at_]? = some a ∧ xs[at_ + 1]? = some b ∧ xs.drop at_ = a :: b :: c :: d :: xs.drop (at_ + 4) ∧ nmA xs (at_ + 2) 2 = c * 256 + d := by
  obtain ⟨a, b, c, d, rest, hl⟩ := drop4 (l := xs.drop at_) (by simp; omega)
  have g (i : Nat) : xs[at_ + i]? = (xs.drop at_)[i]? := by simp
  have hd2 : xs.drop (at_ + 2) = c :: d :: rest := by rw [← List.drop_drop, hl]; rfl
  have hd4 : xs.drop (at_ + 4) = rest := by rw [← List.drop_drop, hl]; rfl
  refine ⟨a, b, c, d, by have := g 0; rw [Nat.add_zero, hl] at this; exact this, by have := g 1; rw [hl] at this; exact this, by rw [hl, hd4], ?_⟩
  unfold nmA
  rw [hd2]
  simp [num]
theorem stepG_at {xs : List Int} {at_ N : Nat} (h : at_ + 4 ≤ xs.length) (hN : nmA xs (at_ + 2) 2 = (N : Int)) : ∃ a b, xs[at_]? = some a ∧ xs[at_ + 1]? = some b ∧
    stepG (xs.drop at_) = if N < 4 then .error 2 else if xs.length < at_ + N + padN N then .error 3 else if (xs.drop (at_ + N)).take (padN N) = List.replicate (padN N) 0 then .ok (⟨a, b, (xs.drop (at_ + 4)).take (N - 4)⟩, xs.drop (at_ + N + padN N)) else .error 2 := by
  obtain ⟨a, b, c, d, ha, hb, hl, hn⟩ := drop_two h
  refine ⟨a, b, ha, hb, ?_⟩
  have hN2 : (c * 256 + d).toNat = N := by omega
  rw [hl, stepG, hN2]
  by_cases h4 : N < 4
  · rw [if_pos h4, if_pos h4]
  · rw [if_neg h4, if_neg h4]
    have e1 : (xs.drop (at_ + 4)).drop (N - 4) = xs.drop (at_ + N) := by rw [List.drop_drop]; congr 1; omega
    have e2 : (xs.drop (at_ + 4)).drop (N - 4 + padN N) = xs.drop (at_ + N + padN N) := by rw [List.drop_drop]; congr 1; omega
    rw [e1, e2]
    by_cases h5 : xs.length < at_ + N + padN N
    · rw [if_pos h5, if_pos (by simp; omega)]
    · rw [if_neg h5, if_neg (by simp; omega)]
/-- An empty row of one's own. -/
def PhZ (B : Nat) (v : Value) (w : World) : Prop := ∃ g, v = .slice (some ⟨g, 0, none⟩) 0 0 ∧ B ≤ g ∧ w.heap[g]? = some (.cells #[] 5 (0, 0))
theorem kpT_PhZ {T : Nat → Prop} {B : Nat} (ht : ∀ k, T k → k < B) : KpT T (PhZ B) := fun v w w' ⟨g, e, hb, hg⟩ ho => ⟨g, e, hb, ho.blk hg (fun h => by have := ht g h; omega)⟩
theorem append_copy0 {w : World} {ty : TypeId} (g : Nat) (B : Nat) (hB : B ≤ g) (hg : w.heap[g]? = some (.cells #[] 5 (0, 0))) (A : Addr) (m c : Nat) (ys : List Int) (hl : ys.length = m) (hc : Cells w (some A) (ints .u8 ys)) (hm : m ≤ 1000000000) :
    ∃ A' c' w', (Builtin.append_ #[22, 22] ty #[.slice (some ⟨g, 0, none⟩) 0 0, .slice (some A) m c]).run Try.prog w = .ok (.slice A' m c') w' ∧ OwnI .u8 5 B w' A' m c' ys ∧ Up w w' := by
  rcases Nat.eq_zero_or_pos m with h0 | h0
  · subst h0
    obtain rfl := List.eq_nil_of_length_eq_zero hl
    obtain ⟨i, hi, -, -, -⟩ := info_parts info5s
    refine ⟨some ⟨g, 0, none⟩, 0, w, ?_, ⟨rfl, .inr ⟨g, 0, #[], rfl, hB, hg, Nat.le_refl _, Nat.zero_le _, rfl, rfl⟩⟩, Up.refl w⟩
    simp [Builtin.append_, run_underlying Try.underlying22, sizeOf, typeInfo, hi, Builtin.lenOf, Builtin.firstCells, loadCells, loadCellsFrom, storeCells]
  · obtain ⟨A', c', w', hr, ho, hu⟩ := append_copy (P := Try.prog) (k := .u8) (t := 22) (ty := ty) Try.underlying22 info5s ⟨g, 0, none⟩ A m c ys hl hc h0 hm (by decide) (by decide)
    exact ⟨A', c', w', hr, ho.base (by have := lt_of_blk hg; omega), hu⟩
/-- A chunk with bytes of its own: the value, and a slice of it alone. -/
def PhC (B : Nat) (ty fl : Int) (ys : List Int) (v : Value) (w : World) : Prop := ∃ A N c, v = .agg #[.int .u8 ty, .int .u8 fl, .slice A N c] ∧ N = ys.length ∧ OwnI .u8 5 B w A N c ys
def PhSC (B : Nat) (ty fl : Int) (ys : List Int) (v : Value) (w : World) : Prop := ∃ g A N c, v = .slice (some ⟨g, 0, none⟩) 1 1 ∧ B ≤ g ∧ w.heap[g]? = some (.cells #[.int .u8 ty, .int .u8 fl, .slice A N c] 43 (0, 0)) ∧ N = ys.length ∧ OwnI .u8 5 B w A N c ys
def PhG (B : Nat) (n : Nat) (out : List ChB) (c : Ck.Chk) (v : Value) (w : World) : Prop := ∃ A c' x, v = .slice A (n + 1) c' ∧ x.pure = c ∧ GL B No w A (n + 1) c' (out ++ [x])
section
variable {T : Nat → Prop} {B : Nat} {ty fl : Int} {ys : List Int}
theorem kpT_PhC (ht : ∀ k, T k → k < B) : KpT T (PhC B ty fl ys) := fun v w w' ⟨A, N, c, e, hn, ho⟩ hu => ⟨A, N, c, e, hn, hu.own ho (fun q hq hk => by have := (row_lt ho (by rwa [ownBlock_slice] at hq)).1; have := ht q hk; omega)⟩
theorem kpT_PhSC (ht : ∀ k, T k → k < B) : KpT T (PhSC B ty fl ys) := fun v w w' ⟨g, A, N, c, e, hb, hg, hn, ho⟩ hu => ⟨g, A, N, c, e, hb, hu.blk hg (fun h => by have := ht g h; omega), hn, hu.own ho (fun q hq hk => by have := (row_lt ho (by rwa [ownBlock_slice] at hq)).1; have := ht q hk; omega)⟩
theorem keeps_PhG {n : Nat} {out : List ChB} {c : Ck.Chk} : Keeps (PhG B n out c) := fun v w w' ⟨A, c', x, e, hx, h⟩ hu => ⟨A, c', x, e, hx, h.up hu⟩
end
theorem build_ch2 (A : Option Addr) (n c : Nat) (x y : Int) (w : World) : (Instr.build 43 #[(0, .int .u8 x), (1, .int .u8 y), (2, .slice A n c)]).run Try.prog w = .ok (.agg #[.int .u8 x, .int .u8 y, .slice A n c]) w := by kernel_rfl
theorem bs_ch2 (A : Option Addr) (n c : Nat) (x y : Int) (w : World) : (Instr.buildSlice 25 1 #[(0, .agg #[.int .u8 x, .int .u8 y, .slice A n c])]).run Try.prog w = .ok (.slice (some ⟨w.heap.size, 0, none⟩) 1 1) (w.alloc (.cells #[.int .u8 x, .int .u8 y, .slice A n c] 43)) := by kernel_rfl
theorem run_sl2 (g o m c lo hi : Nat) (h : lo ≤ hi) (h2 : hi ≤ c) (w : World) : (Instr.sliceAt 22 (.slice (some ⟨g, o, none⟩) m c) (some (.int .i64 (lo : Int))) (some (.int .i64 (hi : Int))) none).run Try.prog w = .ok (.slice (some ⟨g, if c = lo then o else o + lo, none⟩) (hi - lo) (c - lo)) w := by
  have h3 : (lo : Int) ≤ (hi : Int) := by omega
  have h4 : (hi : Int) ≤ (c : Int) := by omega
  have h5 : ((hi : Int) - (lo : Int)).toNat = hi - lo := by omega
  by_cases h6 : c = lo <;> simp [go_sem, h, h2, h3, h4, h5, h6]
  intro h7; omega
theorem run_add3 (a b : Nat) (h : a + b ≤ 1000000) (w : World) : (binOp .add 3 (.int .i64 (a : Int)) (.int .i64 (b : Int))).run Try.prog w = .ok (.int .i64 ((a + b : Nat) : Int)) w := by
  simp [go_sem, IntKind.wrap, IntKind.bits, IntKind.signed]; omega
theorem grd3a (x y : Operand) (a b : Int) (w : World) : (eqGuard .add 3 x y (.int .i64 a) (.int .i64 b)).run Try.prog w = .ok () w := by kernel_rfl
theorem sz5 (w : World) : (Go.sizeOf 5).run Try.prog w = .ok 1 w := by kernel_rfl
theorem x_slice2 {P : Program} {o : Oper} {a : Act} {w : World} (t : TypeId) (x y z : Operand) {X Y Z v : Value} (ho : o.op = .slice t x (some y) (some z) none) (hx : a.eval x = X) (hy : a.eval y = Y) (hz : a.eval z = Z) (hr : (Instr.sliceAt t X (some Y) (some Z) none).run P w = .ok v w) : (execOp a.eval o).run P w = .ok (.value v) w := by simp [execOp, ho, hx, hy, hz, hr, Result.andThen]
theorem notYet_at {ops : Array Oper} {L : Nat → Bool} {n k : Nat} {o : Oper} {t : Tmp} (hd : dstB ops n = true) (hi : ops[k]? = some o) (e : o.dst = some t) (hL : L k = false) : notYet ops L t := fun i oi hii hdi => by
  have := (dst_spec hd hi e).2 i oi hii hdi
  subst this; exact hL
/-- The append onto the row of chunks. -/
theorem app_chunk {w : World} {ty : TypeId} {B0 B n c : Nat} {A : Option Addr} {out : List ChB} {t f : Int} {ys : List Int} {v : Value} (h : GL B0 No w A n c out) (hv : PhSC B t f ys v w) (hn : n ≤ 32) (hB0 : B0 ≤ B) (hBw : ∀ k, blk? A = some k → k < B) (hy : Byt ys) (hyn : ys.length ≤ 70000) (ht : 0 ≤ t ∧ t < 256) (hf : 0 ≤ f ∧ f < 256) :
    ∃ u w', (Builtin.append_ #[25, 25] ty #[.slice A n c, v]).run Try.prog w = .ok u w' ∧ Out (fun k => blk? A = some k) w w' ∧ PhG B0 n out ⟨t, f, ys⟩ u w' := by
  obtain ⟨g, A9, N9, c9, rfl, hb, hg, hN, hO⟩ := hv
  have hlt := lt_of_blk hg
  obtain ⟨A', c', w', hr, ho, hrow, hbl⟩ := append_G (P := Try.prog) (ty := ty) Try.underlying25 info41 rfl (by decide) h.row.own (some ⟨g, 0, none⟩) 1 1 (rowc [⟨t, f, A9, N9, c9, ys⟩]) (by simp [rowc, chc]) (fun hne => ⟨g, 0, rfl, hlt, fun j u hu => cell_of hg (by rw [Nat.zero_add]; simpa [rowc, chc] using hu)⟩) (rowc_one _) (by omega) (by omega) (Nat.zero_le _)
  have hx : OwnC B0 No w ⟨t, f, A9, N9, c9, ys⟩ := ⟨hO.base (Nat.zero_le _), hy, ht, hf, by show N9 ≤ _; omega, fun k hk => ⟨by have := (row_lt hO hk).1; omega, fun h => h⟩⟩
  exact ⟨_, w', hr, ho, A', c', _, rfl, rfl, h.push hx (fun k hk e => by have h1 := (row_lt hO hk).1; have h2 := hBw k e; omega) rfl hrow ho hbl (fun k hk => hk.elim) (by omega)⟩
end Go.Proofs.Ytjdcglioppbfhaa
