import Derived.Test.YtgcabidhpnaoiaaFgC
import Derived.Sort.CutIn
namespace Go.Proofs.Ytgcabidhpnaoiaa
open Go Go.RowKit Go.Shelf Fg
set_option linter.unusedVariables false
set_option linter.unusedSimpArgs false
attribute [local go_sem] Oper.semAt_some
/-! The program's Cut. -/
set_option maxRecDepth 100000 in
set_option maxHeartbeats 1000000 in
theorem cut_nil (v : Value) (st n c : Nat) (A : Option Addr) (un : Bool) (sz : Int) (w : World) :
    Calls Try.prog 10 #[.pointer none, .agg #[.int .u16 (st : Int), .slice A n c], .bool un, .int .i64 sz] w fun e w' => e = .returned (.tuple #[.slice none 0 0, .int .i64 1]) ∧ Hid (Up w w') := by
  go_enter Try.func10, Try.ntmps10
  go_wp2_with fail
  go_ret2
  exact ⟨rfl, Lib.hid (up_alloc w _)⟩
set_option maxRecDepth 100000 in
set_option maxHeartbeats 1000000 in
theorem cut_bad (b st n c : Nat) (A : Option Addr) (un : Bool) (sz : Int) (w : World) (h : n = 0 ∨ 8 ≤ st ∨ sz < 1 ∨ 256 < sz) :
    Calls Try.prog 10 #[.pointer (some ⟨b, 0, none⟩), .agg #[.int .u16 (st : Int), .slice A n c], .bool un, .int .i64 sz] w fun e w' => e = .returned (.tuple #[.slice none 0 0, .int .i64 1]) ∧ Hid (Up w w') := by
  have fin : Hid (Up w (w.alloc (.cells #[.int .u16 (st : Int), .slice A n c] 32))) := Lib.hid (up_alloc w _)
  by_cases t0 : n = 0
  · subst t0
    go_enter Try.func10, Try.ntmps10
    go_wp2_with fail
    go_ret2
    exact ⟨rfl, fin⟩
  have d0 : ((n : Int) == 0) = false := by rw [beq_eq_false_iff_ne]; omega
  by_cases t1 : 8 ≤ st
  · have d1 : decide ((8 : Int) ≤ (st : Int)) = true := by simp; omega
    clear h t0 t1
    go_enter Try.func10, Try.ntmps10
    go_wp2_with fail
    go_ret2
    exact ⟨rfl, fin⟩
  have d1 : decide ((8 : Int) ≤ (st : Int)) = false := by simp; omega
  by_cases t2 : sz < 1
  · have d2 : decide (sz < 1) = true := by simp; omega
    clear h t0 t1
    go_enter Try.func10, Try.ntmps10
    go_wp2_with fail
    go_ret2
    exact ⟨rfl, fin⟩
  have d2 : decide (sz < 1) = false := by simp; omega
  have t3 : 256 < sz := by omega
  have d3 : decide (256 < sz) = true := by simp; omega
  clear h t0 t1
  go_enter Try.func10, Try.ntmps10
  go_wp2_with fail
  go_ret2
  exact ⟨rfl, fin⟩
set_option maxRecDepth 100000 in
set_option maxHeartbeats 1000000 in
theorem cut_large (b st n c : Nat) (A : Option Addr) (un : Bool) (sz : Nat) (w : World) (h0 : st < 8) (h1 : 1 ≤ sz) (h2 : sz ≤ 256) (hn : 4096 < n) :
    Calls Try.prog 10 #[.pointer (some ⟨b, 0, none⟩), .agg #[.int .u16 (st : Int), .slice A n c], .bool un, .int .i64 (sz : Int)] w fun e w' => e = .returned (.tuple #[.slice none 0 0, .int .i64 4]) ∧ Hid (Up w w') := by
  have fin : Hid (Up w (w.alloc (.cells #[.int .u16 (st : Int), .slice A n c] 32))) := Lib.hid (up_alloc w _)
  have d0 : ((n : Int) == 0) = false := by rw [beq_eq_false_iff_ne]; omega
  have d1 : decide ((8 : Int) ≤ (st : Int)) = false := by simp; omega
  have d2 : decide ((sz : Int) < 1) = false := by simp; omega
  have d3 : decide (256 < (sz : Int)) = false := by simp; omega
  have d4 : decide (4096 < (n : Int)) = true := by simp; omega
  go_enter Try.func10, Try.ntmps10
  go_wp2_with fail
  go_ret2
  exact ⟨rfl, fin⟩

/-- The struct that the pieces begin as. -/
def whC (st sq : Nat) (un : Bool) : Array Value := #[.int .u32 0, .int .u16 (st : Int), .int .u16 (sq : Int), .bool false, .bool false, .bool un, .slice none 0 0]
theorem cut_ne {w : World} {b n c : Nat} {nx : Nat → Nat} {ty : TypeId} {A : Option Addr} {bs : List Int} (hB : CutB ty w b nx) (hA : InB w A n c bs) (hne : bs ≠ []) : ∀ k, blk? A = some k → ¬ k = b := by
  intro k hk e
  subst e
  obtain ⟨x, xs, rfl⟩ := List.exists_cons_of_ne_nil hne
  obtain ⟨b', o, rfl, hlt, hc⟩ := hA.cells (by simp [ints])
  have e2 : b' = k := by simpa [blk?] using hk
  subst e2
  have h1 := hc 0 (.int .u8 x) (by simp [ints])
  rw [Nat.add_zero] at h1
  have h2 : (cutC nx)[o]? = some (.int .u8 x) := by
    have := h1
    simp only [World.cell?, show w.heap[b']? = _ from hB] at this
    simpa using this
  have h3 : o < 8 := by
    have := (Array.getElem?_eq_some_iff.1 h2).1
    simpa [cutC] using this
  rw [cutC_at nx h3] at h2
  injection h2 with h2
  injection h2 with h2
  cases h2
structure CutI (st sq : Nat) (un : Bool) (bs : List Int) (n qp : Nat) (w : World) (pre : List (Pt n)) (W : World) : Prop where
  ex : ∃ (l : List PcB) (A : Option Addr) (N c : Nat), Hid (N = l.length) ∧ ps l = pre.map (fun p => bare st sq un bs p.two) ∧ W.heap[qp]? = some (.cells #[.slice A N c] 35 (0, 0)) ∧
    W.ownsRow w.heap.size 51 7 (.slice A N c) N (l.flatMap pcc) ∧ (∀ x ∈ l, OwnI .u8 5 w.heap.size W x.A x.p.bs.length x.c x.p.bs)
  out : Out (fun k => k = qp) w W
theorem CutI.keep (st sq : Nat) (un : Bool) (bs : List Int) (n qp : Nat) (w : World) : OwnFrom w.heap.size (CutI st sq un bs n qp w) := fun pre W W' row h hg hr => by
  have hr2 : ∀ r, row = some r → ∃ o : Obj, W.heap[r]? = some o ∧ o.isCells = false := fun r e => (hr r e).2
  obtain ⟨⟨l, A, N, c, h1, h2, h3, h4, h5⟩, h6⟩ := h
  exact ⟨⟨l, A, N, c, h1, h2, cells_keep h3 hg hr2, row_keep h4 hg hr2, fun x hx => row_keep (h5 x hx) hg hr2⟩, h6.trans (grown_out hg) (fun k hk => .inr (hr k hk).1)⟩
set_option maxRecDepth 100000 in
set_option maxHeartbeats 4000000 in
theorem cut_ok (b st n c : Nat) (A : Option Addr) (un : Bool) (sz : Nat) (bs : List Int) (nx : Nat → Nat) (w : World) (hst : st < 8) (h1 : 1 ≤ sz) (h2 : sz ≤ 256) (hn0 : 0 < n) (hn : n ≤ 4096) (hA : InB w A n c bs) (hB : CutB 66 w b nx) :
    Calls Try.prog 10 #[.pointer (some ⟨b, 0, none⟩), .agg #[.int .u16 (st : Int), .slice A n c], .bool un, .int .i64 (sz : Int)] w (CutPost 66 b nx st un sz bs w) := by
  refine (callsIn_wide (n := 5)).1 ?_
  have hlen := hA.len
  obtain ⟨ab, ao, rfl, _⟩ : ∃ ab ao, A = some ⟨ab, ao, none⟩ ∧ True := by
    obtain ⟨ab, ao, e, _⟩ := hA.cells (fun e => by rw [ints, List.map_eq_nil_iff] at e; rw [e] at hlen; simp at hlen; omega)
    exact ⟨ab, ao, e, trivial⟩
  have d0 : ((n : Int) == 0) = false := by rw [beq_eq_false_iff_ne]; omega
  have d1 : decide ((8 : Int) ≤ (st : Int)) = false := by simp; omega
  have d2 : decide ((sz : Int) < 1) = false := by simp; omega
  have d3 : decide (256 < (sz : Int)) = false := by simp; omega
  have d4 : decide (4096 < (n : Int)) = false := by simp; omega
  refine callsIn_of_wp_marks Try.func10 rfl trivial ?_ rfl
  simp only [Try.ntmps10, List.size_toArray, List.length_cons, List.length_nil, Nat.reduceAdd, Nat.reduceSub, Array.replicate_succ, Array.replicate_zero, List.push_toArray, List.append_toArray, List.nil_append, List.cons_append]
  have hbl : b < w.heap.size := lt_of_blk hB
  obtain ⟨w1, hw1⟩ : ∃ w1, w1 = w.alloc (.cells #[.int .u16 (st : Int), .slice (some ⟨ab, ao, none⟩) n c] 32) := ⟨_, rfl⟩
  obtain ⟨w2, hw2⟩ : ∃ w2, w2 = w1.alloc (.cells (whC st 0 un) 51) := ⟨_, rfl⟩
  have u1 : Up w w1 := by rw [hw1]; exact up_alloc _ _
  have u2 : Up w1 w2 := by rw [hw2]; exact up_alloc _ _
  have s1 : w1.heap.size = w.heap.size + 1 := by rw [hw1, World.size_alloc]
  have m1 : w1.heap[w.heap.size]? = some (.cells #[.int .u16 (st : Int), .slice (some ⟨ab, ao, none⟩) n c] 32 (0, 0)) := by rw [hw1]; exact new_at w _
  have m2 : w2.heap[w.heap.size]? = some (.cells #[.int .u16 (st : Int), .slice (some ⟨ab, ao, none⟩) n c] 32 (0, 0)) := (u2.block _ (lt_of_blk m1)).trans m1
  have q2 : w2.heap[w.heap.size + 1]? = some (.cells (whC st 0 un) 51 (0, 0)) := by rw [hw2, ← s1]; exact new_at w1 _
  have B2 : CutB 66 w2 b nx := ((u2.block b (by omega)).trans (u1.block b hbl)).trans hB
  have I2 := Lib.hid (hA.up (u1.trans u2))
  have U2 := Lib.hid (u1.trans u2)
  have M2 := Lib.hid m2
  have Q2 := Lib.hid q2
  have C2 := Lib.hid B2
  have HL := Lib.hid hlen
  have HAL : Hid (∀ k, blk? (some ⟨ab, ao, none⟩) = some k → k < w.heap.size) := Lib.hid (fun k hk => hA.lt (fun e => by rw [e] at hlen; simp at hlen; omega) hk)
  have HW1 := Lib.hid hw1
  have HW2 := Lib.hid hw2
  have HS1 := Lib.hid s1
  clear hA hB hlen u1 u2 s1 m1 m2 q2 B2 hw1 hw2
  cases un with
  | true =>
    gi_upto_region 12 with (fail)
    rw [← HW1.out, show (.cells #[.int .u32 0, .int .u16 (st : Int), .int .u16 0, .bool false, .bool false, .bool true, .slice none 0 0] 51 : Obj) = .cells (whC st 0 true) 51 (0, 0) from rfl, ← HW2.out]
    have HX : Hid (w2.heap[w.heap.size]? = some (.cells #[.int .u16 (st : Int), .slice (some ⟨ab, ao, none⟩) n c] 32 (0, 0)) ∧ w2.heap[w.heap.size + 1]? = some (.cells (whC st 0 true) 51 (0, 0)) ∧ CutB 66 w2 b nx ∧ InB w2 (some ⟨ab, ao, none⟩) n c bs ∧ Out (fun k => k = b) w w2) := Lib.hid ⟨M2.out, Q2.out, C2.out, I2.out, U2.out.out _⟩
    clear M2 Q2 C2 I2 U2 HW2
    generalize w2 = wX at HX ⊢
    obtain ⟨W4, hW4⟩ : ∃ W4, W4 = wX.alloc (.cells #[.slice none 0 0] 35) := ⟨_, rfl⟩
    have U4 : Hid (Up wX W4) := Lib.hid (by rw [hW4]; exact up_alloc _ _)
    have P4 : Hid (W4.heap[wX.heap.size]? = some (.cells #[.slice none 0 0] 35 (0, 0))) := Lib.hid (by rw [hW4]; exact new_at wX _)
    have HW4 := Lib.hid hW4
    clear hW4
    have k4 : (wX.alloc (.cells #[.slice none 0 0] 35)).cell? ⟨w.heap.size, 1, none⟩ = some (.slice (some ⟨ab, ao, none⟩) n c) := by rw [← HW4.out]; exact cell_of ((U4.out.block _ (lt_of_blk HX.out.1)).trans HX.out.1) rfl
    gi_wp2_with (refine ⟨trivial, ?_⟩; gi_at_call 22; rw [← HW4.out]; refine (callsIn_wide.2 (chunk_any (some ⟨ab, ao, none⟩) n c sz W4 h1)).mono ?_; rintro e w5 ⟨q1, q2, rfl, E1, E2, E3, U5⟩)
    have P5 : Hid (w5.heap[wX.heap.size]? = some (.cells #[.slice none 0 0] 35 (0, 0))) := Lib.hid ((U5.out.block _ (lt_of_blk P4.out)).trans P4.out)
    have X5 : Hid (Up wX w5) := Lib.hid (U4.out.trans U5.out)
    have hq4 : Hid (wX.heap.size < W4.heap.size) := Lib.hid (lt_of_blk P4.out)
    have hqX : Hid (w.heap.size + 1 < wX.heap.size) := Lib.hid (lt_of_blk HX.out.2.1)
    have Q5 : Hid (w5.heap[w.heap.size + 1]? = some (.cells (whC st 0 true) 51 (0, 0))) := Lib.hid ((X5.out.block _ (lt_of_blk HX.out.2.1)).trans HX.out.2.1)
    have I5 : Hid (InB w5 (some ⟨ab, ao, none⟩) n c bs) := Lib.hid (HX.out.2.2.2.1.up X5.out)
    have B5 : Hid (CutB 66 w5 b nx) := Lib.hid ((X5.out.block _ (lt_of_blk HX.out.2.2.1)).trans HX.out.2.2.1)
    have O5 : Hid (Out (fun k => k = b) w w5) := Lib.hid (HX.out.2.2.2.2.trans (X5.out.out _) (Sub.refl _ _))
    have hc5 := I5.out.cap
    have hab5 : Hid (ab < w5.heap.size ∧ ab ≠ wX.heap.size) := Lib.hid ⟨Nat.lt_of_lt_of_le (HAL.out ab rfl) O5.out.size, by have := HAL.out ab rfl; have := hqX.out; omega⟩
    clear HX P4 U4 HW4 U5 k4
    refine wpIn_rangeFunc_ownF rfl (by omega) (gf := 33) (lb := #[.pointer (some ⟨q1, 0, none⟩), .pointer (some ⟨q2, 0, none⟩)]) rfl trivial (enters_of Try.func33 (by kernel_rfl) rfl)
      (chunk_stops 4 (by omega) q1 q2 ab ao n c sz hn hc5 h1 h2 w5 E1.out E2.out) (fun h k => h.trans k) (fun W l o o' hl h _ _ => ⟨by simp, World.putObj_heap_other (fun e => by have := lt_of_blk E1.out; omega), World.putObj_heap_other (fun e => by have := lt_of_blk E2.out; omega)⟩) (Below.refl _ _) (fun _ => rfl)
      (CutI st 0 true bs n wX.heap.size w5) (fun _ _ _ => False) (CutI.keep st 0 true bs n wX.heap.size w5) (fun _ _ _ _ _ hs _ _ => hs)
      ⟨⟨[], none, 0, 0, Lib.hid rfl, rfl, P5.out, World.ownsRow_nil _ _ _ _, fun x hx => by cases hx⟩, Out.refl _ _⟩
      (fun x => { tmps := #[.pointer (some { block := b, off := 0 }), .agg #[.int IntKind.u16 ↑st, .slice (some { block := ab, off := ao }) n c], .bool true, .int IntKind.i64 ↑sz, undef, .pointer (some { block := w.heap.size, off := 0 }), undef, undef, .slice none 0 0, .int IntKind.i64 0, .pointer (some { block := w.heap.size + 1, off := 0 }), .pointer (some { block := wX.heap.size, off := 0 }), .slice (some ⟨ab, ao + x.o, none⟩) x.l x.l, undef, .bool false, .pointer (some { block := b, off := 0 }), .bool false, .pointer (some { block := w.heap.size, off := 1 }), .slice (some { block := ab, off := ao }) n c, .int IntKind.i64 ↑n, .bool false, .pointer (some { block := w.heap.size, off := 0 }), .int IntKind.u16 ↑st, .bool false, .int IntKind.i64 ↑sz, .bool false, .int IntKind.i64 ↑sz, .bool false, .bool false, .pointer (some { block := w.heap.size, off := 1 }), .slice (some { block := ab, off := ao }) n c, .int IntKind.i64 ↑n, .bool false, .pointer (some { block := w.heap.size, off := 0 }), .int IntKind.u16 ↑st, .bool true, .agg #[.int IntKind.u32 0, .int IntKind.u16 ↑st, .int IntKind.u16 0, .bool false, .bool false, .bool true, .slice none 0 0], .bool true, .bool false, undef, undef, undef, undef, undef, .pointer (some { block := w.heap.size, off := 1 }), .slice (some { block := ab, off := ao }) n c, .int IntKind.i64 ↑sz, .func (Fn.func 33) #[] #[.pointer (some { block := q1, off := 0 }), .pointer (some { block := q2, off := 0 })], .slice (some ⟨ab, ao + x.o, none⟩) x.l x.l, undef, undef, undef, undef, undef, undef, undef, undef, undef, undef, undef, undef, undef, undef, undef, undef, undef, undef], defers := [] }) ?assign ?body ?done ?stop
    case assign =>
      intro l x W K hK
      gi_wp2
      exact hK
    case body =>
      intro l pre x W hI hlt
      obtain ⟨⟨L, AP, NP, cP, hNP, hps, hqp, hrow, hby⟩, hout⟩ := hI
      have HN := hNP
      have hqXX := hqX.out
      have QW := Lib.hid (hout.blk Q5.out (by omega))
      have c0 : W.cell? ⟨w.heap.size + 1, 0, none⟩ = some (.int .u32 0) := cell_of QW.out rfl
      have c1 : W.cell? ⟨w.heap.size + 1, 1, none⟩ = some (.int .u16 (st : Int)) := cell_of QW.out rfl
      have c2 : W.cell? ⟨w.heap.size + 1, 2, none⟩ = some (.int .u16 0) := cell_of QW.out rfl
      have c3 : W.cell? ⟨w.heap.size + 1, 3, none⟩ = some (.bool false) := cell_of QW.out rfl
      have c4 : W.cell? ⟨w.heap.size + 1, 4, none⟩ = some (.bool false) := cell_of QW.out rfl
      have c5 : W.cell? ⟨w.heap.size + 1, 5, none⟩ = some (.bool true) := cell_of QW.out rfl
      have c6 : W.cell? ⟨w.heap.size + 1, 6, none⟩ = some (.slice none 0 0) := cell_of QW.out rfl
      obtain ⟨W6, hW6⟩ : ∃ W6, W6 = W.alloc (.cells (whC st 0 true) 51) := ⟨_, rfl⟩
      have U6 : Hid (Up W W6) := Lib.hid (by rw [hW6]; exact up_alloc _ _)
      have S6 : Hid (W6.heap[W.heap.size]? = some (.cells (whC st 0 true) 51 (0, 0))) := Lib.hid (by rw [hW6]; exact new_at W _)
      have HW6 := Lib.hid hW6
      have HQP := Lib.hid hqp
      have HROW := Lib.hid hrow
      have HBY := Lib.hid hby
      have HPS := Lib.hid hps
      have HOUT := Lib.hid hout
      have I6 : Hid (InB W6 (some ⟨ab, ao + x.o, none⟩) x.l x.l ((bs.drop x.o).take x.l)) := Lib.hid (((I5.out.outS' hout (fun _ k hk e => by
        have h3 : ab = k := by simpa [blk?] using hk
        exact hab5.out.2 (by omega))).part x.le).up U6.out)
      have hxl := x.pos
      have hxn := x.le
      clear hW6 hqp hrow hby hps hout
      gi_upto_region 17 with (refine ⟨trivial, ?_⟩; gi_at_call 23; rw [show (.cells #[.int .u32 0, .int .u16 (st : Int), .int .u16 0, .bool false, .bool false, .bool true, .slice none 0 0] 51 : Obj) = .cells (whC st 0 true) 51 (0, 0) from rfl, ← HW6.out]; refine (CallsIn.inRound l (callsIn_wide.2 (clone_b _ x.l x.l _ W6 I6.out hxl (by omega)))).mono ?_; rintro e w7 ⟨A7, c7, rfl, O7, U7⟩; have S7 := Lib.hid ((U7.out.block _ (lt_of_blk S6.out)).trans S6.out); have k7 : w7.cell? ⟨W.heap.size, 6, none⟩ = some (.slice none 0 0) := cell_of S7.out rfl; have f7 : w7.frozen? ⟨W.heap.size, 6, none⟩ = false := frozen_at S7.out)
      have V7 := Lib.hid (U6.out.trans U7.out)
      have O8 := Lib.hid (setCell_out w7 W.heap.size 6 (.slice A7 x.l c7))
      have S8 : Hid ((w7.setCell ⟨W.heap.size, 6, none⟩ (.slice A7 x.l c7)).heap[W.heap.size]? = some (.cells #[.int .u32 0, .int .u16 (st : Int), .int .u16 0, .bool false, .bool false, .bool true, .slice A7 x.l c7] 51 (0, 0))) := Lib.hid (setCell_at (j := 6) (.slice A7 x.l c7) S7.out)
      have VO8 : Hid (Out No W (w7.setCell ⟨W.heap.size, 6, none⟩ (.slice A7 x.l c7))) := Lib.hid ((V7.out.out No).trans O8.out (fun k hk => .inr (by omega)))
      have OB8 : Hid (OwnI .u8 5 W6.heap.size (w7.setCell ⟨W.heap.size, 6, none⟩ (.slice A7 x.l c7)) A7 x.l c7 ((bs.drop x.o).take x.l)) := Lib.hid (Out.own O8.out O7.out (own_ne O7.out S7.out (by decide)))
      clear k7 f7 O7 U7 S7 V7 O8 c0 c1 c2 c3 c4 c5 c6
      generalize w7.setCell ⟨W.heap.size, 6, none⟩ (.slice A7 x.l c7) = w8 at S8 VO8 OB8 ⊢
      have V8 := Lib.hid VO8.out.up
      have Q8 := Lib.hid ((V8.out.block _ (lt_of_blk HQP.out)).trans HQP.out)
      have R8 := Lib.hid (own_up HROW.out V8.out)
      have hWw : w5.heap.size ≤ W.heap.size := HOUT.out.size
      have hW8 : W.heap.size ≤ w8.heap.size := V8.out.size
      have hNL := HN.out
      have hpl : L.length = pre.length := by have := congrArg List.length HPS.out; simpa [ps] using this
      have d0 : w8.cell? ⟨W.heap.size, 0, none⟩ = some (.int .u32 0) := cell_of S8.out rfl
      have d1 : w8.cell? ⟨W.heap.size, 1, none⟩ = some (.int .u16 (st : Int)) := cell_of S8.out rfl
      have d2 : w8.cell? ⟨W.heap.size, 2, none⟩ = some (.int .u16 0) := cell_of S8.out rfl
      have d3 : w8.cell? ⟨W.heap.size, 3, none⟩ = some (.bool false) := cell_of S8.out rfl
      have d4 : w8.cell? ⟨W.heap.size, 4, none⟩ = some (.bool false) := cell_of S8.out rfl
      have d5 : w8.cell? ⟨W.heap.size, 5, none⟩ = some (.bool true) := cell_of S8.out rfl
      have d6 : w8.cell? ⟨W.heap.size, 6, none⟩ = some (.slice A7 x.l c7) := cell_of S8.out rfl
      have e0 : w8.cell? ⟨wX.heap.size, 0, none⟩ = some (.slice AP NP cP) := cell_of Q8.out rfl
      have Z9 := Lib.hid (new_at w8 (.cells #[.int .u32 0, .int .u16 (st : Int), .int .u16 0, .bool false, .bool false, .bool true, .slice A7 x.l c7] 51 : Obj))
      have U9 := Lib.hid (up_alloc w8 (.cells #[.int .u32 0, .int .u16 (st : Int), .int .u16 0, .bool false, .bool false, .bool true, .slice A7 x.l c7] 51 : Obj))
      have hNP2 : NP ≤ 4096 := by omega
      have HNL := Lib.hid hNL
      have HPL := Lib.hid hpl
      clear hNL hpl
      gi_wp2_with (gi_at_builtin; refine wpListIn_appG rfl (.tmp 53) (.tmp 55) 35 51 (.agg #[.int .u32 0, .int .u16 0, .int .u16 0, .bool false, .bool false, .bool false, .slice none 0 0]) 7 40 w5.heap.size rfl Try.underlying35 info51 rfl (by omega) (A := AP) (n := NP) (c := cP) (by simp [Act.eval, Act.put]) (own_up R8.out U9.out) (B := some ⟨w8.heap.size, 0, none⟩) (m := 1) (d := 1) (news := [.int .u32 0, .int .u16 (st : Int), .int .u16 0, .bool false, .bool false, .bool true, .slice A7 x.l c7]) (by simp [Act.eval, Act.put]) (by rfl) (fun _ => ⟨_, 0, rfl, lt_of_blk Z9.out, fun j u hu => by rw [Nat.zero_add]; exact cell_of Z9.out (by simpa using hu)⟩) (by simp [Value.oneCell']) (by omega) (by omega) (by rw [World.size_alloc]; omega) ?_; intro A10 c10 w10 R10 O10 E10; have Q9 := Lib.hid ((U9.out.block _ (lt_of_blk Q8.out)).trans Q8.out); have Q10 := Lib.hid (O10.out.blk Q9.out (fun hk => own_ne (own_up R8.out U9.out) Q9.out (by decide) _ (by rw [ownBlock_slice]; exact hk) rfl)); have k10 : w10.cell? ⟨wX.heap.size, 0, none⟩ = some (.slice AP NP cP) := cell_of Q10.out rfl; have f10 : w10.frozen? ⟨wX.heap.size, 0, none⟩ = false := frozen_at Q10.out)
      have O11 := Lib.hid (setCell_out w10 wX.heap.size 0 (.slice A10 (NP + 1) c10))
      have Q11 : Hid ((w10.setCell ⟨wX.heap.size, 0, none⟩ (.slice A10 (NP + 1) c10)).heap[wX.heap.size]? = some (.cells #[.slice A10 (NP + 1) c10] 35 (0, 0))) := Lib.hid (setCell_at (j := 0) (.slice A10 (NP + 1) c10) Q10.out)
      have R11 := Lib.hid (Out.own O11.out R10.out (own_ne R10.out Q10.out (by decide)))
      have OA : Hid (Out (fun k => k = wX.heap.size ∨ blk? AP = some k) W (w10.setCell ⟨wX.heap.size, 0, none⟩ (.slice A10 (NP + 1) c10))) := Lib.hid ((((V8.out.trans U9.out).out (fun k => k = wX.heap.size ∨ blk? AP = some k)).trans (O10.out.mono (fun k hk => .inr hk)) (Sub.refl _ _)).trans (O11.out.mono (fun k hk => .inl hk)) (Sub.refl _ _))
      have key : ∀ {A : Option Addr} {N c : Nat} {zs : List Int}, OwnI .u8 5 w5.heap.size w8 A N c zs → OwnI .u8 5 w5.heap.size (w10.setCell ⟨wX.heap.size, 0, none⟩ (.slice A10 (NP + 1) c10)) A N c zs := fun {A N c zs} h => by
        have h3 := own_up h U9.out
        have h4 := Out.own O10.out h3 (fun g hg e => rows_ne h3 (own_up R8.out U9.out) (by decide) g hg (by rw [ownBlock_slice]; exact e))
        exact Out.own O11.out h4 (own_ne h4 Q10.out (by decide))
      have hbl : ((bs.drop x.o).take x.l).length = x.l := by rw [List.length_take, List.length_drop, HL.out]; omega
      have hA1 : ∀ k, blk? AP = some k → w5.heap.size ≤ k := fun k hk => (row_lt HROW.out hk).1
      have hq1 := E3.out
      have h41 := hq4.out
      have l1 := lt_of_blk E1.out
      have l2 := lt_of_blk E2.out
      refine ⟨keeps_of OA.out (fun k o hk ho => ?_), ⟨OA.out.size, OA.out.block q1 (by omega) (fun hk => ?_), OA.out.block q2 (by omega) (fun hk => ?_)⟩, ⟨⟨L ++ [⟨bare st 0 true bs x.two, A7, c7⟩], A10, NP + 1, c10, Lib.hid ?_, ?_, Q11.out, ?_, fun y hy => ?_⟩, HOUT.out.trans OA.out (fun k hk => ?_)⟩⟩
      · rcases hk with e | e
        · subst e; rw [HQP.out] at ho; injection ho with ho; rw [← ho]; rfl
        · exact row_isCells HROW.out e ho
      · rcases hk with e | e
        · omega
        · have := hA1 _ e; omega
      · rcases hk with e | e
        · omega
        · have := hA1 _ e; omega
      · rw [HNL.out]; simp
      · unfold ps at *
        rw [List.map_append, HPS.out, List.map_append]; rfl
      · rw [List.flatMap_append]
        have e9 : [(⟨bare st 0 true bs x.two, A7, c7⟩ : PcB)].flatMap pcc = [.int .u32 0, .int .u16 (st : Int), .int .u16 0, .bool false, .bool false, .bool true, .slice A7 x.l c7] := by
          simp only [List.flatMap_cons, List.flatMap_nil, List.append_nil, pcc, bare, Pt.two, hbl]
          rfl
        rw [e9]
        exact R11.out
      · rcases List.mem_append.1 hy with h3 | h3
        · exact key (own_up (HBY.out y h3) V8.out)
        · rw [List.mem_singleton.1 h3]
          show OwnI .u8 5 w5.heap.size _ A7 ((bs.drop x.o).take x.l).length c7 ((bs.drop x.o).take x.l)
          rw [hbl]
          exact key (OB8.out.mono (Nat.le_trans hWw U6.out.size))
      · rcases hk with e | e
        · exact .inl e
        · exact .inr (hA1 k e)
    case done =>
      intro D xs W hD hS hI hK
      obtain ⟨⟨L, AP, NP, cP, hNP, hps, hqp, hrow, hby⟩, hout⟩ := hI
      have hbn : 0 < bs.length := by have := HL.out; omega
      have hpl : L.length = npt sz bs.length := by
        have h3 := congrArg List.length (hps.trans (bare_all (st := st) (sq := 0) (un := true) HL.out h1 hS))
        simpa [ps] using h3
      have hnp := npt_pos h1 hbn
      have hnp4 := npt_le (N := bs.length) h1
      have hNP1 := hNP.out
      have hbn2 := HL.out
      obtain ⟨M, hM⟩ : ∃ M, NP = M + 1 := ⟨NP - 1, by omega⟩
      obtain ⟨x, hx⟩ : ∃ x, L[0]? = some x := ⟨_, List.getElem?_eq_getElem (by omega)⟩
      obtain ⟨y, hy⟩ : ∃ y, (L.set 0 (bgT x))[npt sz bs.length - 1]? = some y := ⟨_, List.getElem?_eq_getElem (by rw [List.length_set]; omega)⟩
      have hfin := ends_ok h1 hbn (hps.trans (bare_all (st := st) (sq := 0) (un := true) HL.out h1 hS)) hx hy
      have hMn : npt sz bs.length - 1 = M := by omega
      rw [hMn] at hy hfin
      have hM4 : M < 4096 := by omega
      obtain ⟨g, rfl⟩ := row_at hrow (by omega)
      have r1 := (World.ownsRow.stored hrow 3 (.bool true)).1
      have ho1 := setCell_out W g 3 (.bool true)
      have e3 := rowG_set pcc 7 pcc_len (y := bgT x) hx (j := 3) (v := .bool true) (by omega) rfl
      rw [Nat.zero_mul, Nat.zero_add] at e3
      rw [e3] at r1
      have r2 := (World.ownsRow.stored r1 (M * 7 + 4) (.bool true)).1
      have ho2 := setCell_out (W.setCell ⟨g, 3, none⟩ (.bool true)) g (M * 7 + 4) (.bool true)
      have e4 := rowG_set pcc 7 pcc_len (y := enT y) hy (j := 4) (v := .bool true) (by omega) rfl
      rw [e4] at r2
      have hgq : g ≠ wX.heap.size := own_ne hrow hqp (by decide) g rfl
      have c1 : W.cell? ⟨wX.heap.size, 0, none⟩ = some (.slice (some ⟨g, 0, none⟩) NP cP) := cell_of hqp rfl
      have Q2 := Lib.hid (ho1.blk hqp (fun e => hgq e.symm))
      have Q3 := Lib.hid (ho2.blk Q2.out (fun e => hgq e.symm))
      have c2 : (W.setCell ⟨g, 3, none⟩ (.bool true)).cell? ⟨wX.heap.size, 0, none⟩ = some (.slice (some ⟨g, 0, none⟩) NP cP) := cell_of Q2.out rfl
      have c3 : ((W.setCell ⟨g, 3, none⟩ (.bool true)).setCell ⟨g, M * 7 + 4, none⟩ (.bool true)).cell? ⟨wX.heap.size, 0, none⟩ = some (.slice (some ⟨g, 0, none⟩) NP cP) := cell_of Q3.out rfl
      have fz1 : W.frozen? ⟨g, 3, none⟩ = false := World.ownsRow.frozenAt hrow 3
      have fz2 : (W.setCell ⟨g, 3, none⟩ (.bool true)).frozen? ⟨g, M * 7 + 4, none⟩ = false := World.ownsRow.frozenAt r1 _
      obtain ⟨u1, hu1⟩ : ∃ u, W.cell? ⟨g, 3, none⟩ = some u := ⟨_, row_cell hrow (rowG_at pcc 7 pcc_len hx (j := 3) rfl)⟩
      obtain ⟨u2, hu2⟩ : ∃ u, (W.setCell ⟨g, 3, none⟩ (.bool true)).cell? ⟨g, M * 7 + 4, none⟩ = some u := ⟨_, row_cell r1 (rowG_at pcc 7 pcc_len hy (j := 4) rfl)⟩
      have hNM : (NP : Int) - 1 = (M : Int) := by omega
      have hMN : (M : Int) < (NP : Int) := by omega
      have HNP0 : (0 : Int) < (NP : Int) := by omega
      have HR := Lib.hid r2
      have HO := Lib.hid (ho1.trans ho2 (Sub.refl _ _))
      have HFIN := Lib.hid hfin
      have HOUT := Lib.hid hout
      have HROW := Lib.hid hrow
      have HBY := Lib.hid hby
      have HXY := Lib.hid (And.intro hx hy)
      have HK := Lib.hid hK
      have HD := Lib.hid hD
      have HPL : Hid (L.length = M + 1) := Lib.hid (by omega)
      clear r1 r2 ho1 ho2 e3 e4 hfin hout hrow hby hx hy hK hps hqp hS hpl hnp hnp4 hNP1 hMn hD hM hNP hbn hbn2
      gi_wp2

      have hDg : D ≠ g := fun e => by
        have h3 := row_isCells HROW.out (k := g) rfl (by rw [← e]; exact HK.out)
        cases h3
      have hK2 := HO.out.blk HK.out hDg
      refine ⟨by simp, .inl ⟨_, _, rfl, run_takeDeferred hK2, ?_⟩⟩
      have hput := grownBy_putObj' ((W.setCell ⟨g, 3, none⟩ (.bool true)).setCell ⟨g, M * 7 + 4, none⟩ (.bool true)) D (.deferred none)
      have hnc : ∀ r, (some D : Option Nat) = some r → ∃ o : Obj, ((W.setCell ⟨g, 3, none⟩ (.bool true)).setCell ⟨g, M * 7 + 4, none⟩ (.bool true)).heap[r]? = some o ∧ o.isCells = false := fun r e => by cases e; exact ⟨_, hK2, rfl⟩
      have hlen2 : ((L.set 0 (bgT x)).set M (enT y)).length = NP := by rw [List.length_set, List.length_set, HPL.out]; omega
      have hw5 : w.heap.size ≤ w5.heap.size := O5.out.size
      have hbg : ¬ b = wX.heap.size := fun e => by have h3 := lt_of_blk B5.out; have h4 := hqX.out; omega
      have hg5 : w5.heap.size ≤ g := (row_lt HROW.out rfl).1
      have hb5 : b < w5.heap.size := lt_of_blk B5.out
      have hby2 : ∀ z ∈ (L.set 0 (bgT x)).set M (enT y), OwnI .u8 5 w5.heap.size W z.A z.p.bs.length z.c z.p.bs := fun z hz => by
        have hx2 := HBY.out x (List.mem_of_getElem? HXY.out.1)
        have step : ∀ z ∈ L.set 0 (bgT x), OwnI .u8 5 w5.heap.size W z.A z.p.bs.length z.c z.p.bs := fun z hz => by
          rcases List.mem_or_eq_of_mem_set hz with h3 | h3
          · exact HBY.out z h3
          · rw [h3]; exact hx2
        rcases List.mem_or_eq_of_mem_set hz with h3 | h3
        · exact step z h3
        · rw [h3]; exact step y (List.mem_of_getElem? HXY.out.2)
      refine ⟨_, results_tmp2 rfl _ _ _, 0, (L.set 0 (bgT x)).set M (enT y), some ⟨g, 0, none⟩, cP, nx, by rw [hlen2]; rfl, Lib.hid (.inr (.inr ⟨?_, by rw [HL.out]; exact hn, rfl, by simpa using HFIN.out, by simp⟩)), Lib.hid ?_, Lib.hid ?_, Lib.hid (fun z hz => ?_), Lib.hid ?_⟩
      · unfold CutBad; rw [HL.out]; omega
      · exact cells_keep (HO.out.blk (HOUT.out.blk B5.out hbg) (by omega)) hput hnc
      · rw [hlen2]
        exact row_keep (row_mono HR.out hw5) hput hnc
      · have h3 := hby2 z hz
        exact row_keep (row_mono (Out.own HO.out h3 (fun g' hg' e => by subst e; exact rows_ne h3 HROW.out (by decide) _ hg' rfl)) hw5) hput hnc
      · exact ((O5.out.trans HOUT.out (fun k hk => .inr (by rw [hk]; have h4 := hqX.out; omega))).trans HO.out (fun k hk => .inr (by rw [hk]; omega))).trans (grown_out hput) (fun k hk => .inr (by injection hk with hk; have h4 := HD.out; omega))
    case stop =>
      intro D c' pre W _ _ h _
      exact h.elim
  | false =>
    gi_upto_region 12 with (refine ⟨trivial, ?_⟩; gi_at_call 21; rw [← HW1.out, show (.cells #[.int .u32 0, .int .u16 (st : Int), .int .u16 0, .bool false, .bool false, .bool false, .slice none 0 0] 51 : Obj) = .cells (whC st 0 false) 51 (0, 0) from rfl, ← HW2.out]; refine (callsIn_wide.2 (number_any b st nx w2 hst C2.out)).mono ?_; rintro e w3 ⟨rfl, C3, O3⟩; have Q3 := Lib.hid (O3.out.blk Q2.out (by omega)); have hk3 : w3.cell? ⟨w.heap.size + 1, 2, none⟩ = some (.int .u16 0) := cell_of Q3.out rfl; have hf3 : w3.frozen? ⟨w.heap.size + 1, 2, none⟩ = false := frozen_at Q3.out)
    have hO4 := setCell_out w3 (w.heap.size + 1) 2 (.int .u16 (nx st))
    have hQ4 := setCell_at (j := 2) (.int .u16 (nx st)) Q3.out
    have hne : bs ≠ [] := fun e => by have := HL.out; rw [e] at this; simp at this; omega
    have hAb := cut_ne C2.out I2.out hne
    have hAq : ∀ k, blk? (some ⟨ab, ao, none⟩) = some k → k < w.heap.size := fun k hk => HAL.out k hk
    have HX : Hid ((w3.setCell ⟨w.heap.size + 1, 2, none⟩ (.int .u16 (nx st))).heap[w.heap.size]? = some (.cells #[.int .u16 (st : Int), .slice (some ⟨ab, ao, none⟩) n c] 32 (0, 0)) ∧ (w3.setCell ⟨w.heap.size + 1, 2, none⟩ (.int .u16 (nx st))).heap[w.heap.size + 1]? = some (.cells (whC st (nx st) false) 51 (0, 0)) ∧ CutB 66 (w3.setCell ⟨w.heap.size + 1, 2, none⟩ (.int .u16 (nx st))) b (Fg.upd nx st) ∧ InB (w3.setCell ⟨w.heap.size + 1, 2, none⟩ (.int .u16 (nx st))) (some ⟨ab, ao, none⟩) n c bs ∧ Out (fun k => k = b) w (w3.setCell ⟨w.heap.size + 1, 2, none⟩ (.int .u16 (nx st)))) := Lib.hid ⟨hO4.blk (O3.out.blk M2.out (by omega)) (by omega), hQ4, hO4.blk C3.out (by omega), (I2.out.outS' O3.out (fun _ => hAb)).outS' hO4 (fun _ k hk e => by have := hAq k hk; omega), ((U2.out.out (fun k => k = b)).trans O3.out (Sub.refl _ _)).trans hO4 (fun k hk => .inr (by omega))⟩
    clear M2 Q2 C2 I2 U2 HW2 hO4 hQ4 C3 O3 Q3 hAb hAq hne hk3 hf3
    generalize w3.setCell ⟨w.heap.size + 1, 2, none⟩ (.int .u16 (nx st)) = wX at HX ⊢
    obtain ⟨W4, hW4⟩ : ∃ W4, W4 = wX.alloc (.cells #[.slice none 0 0] 35) := ⟨_, rfl⟩
    have U4 : Hid (Up wX W4) := Lib.hid (by rw [hW4]; exact up_alloc _ _)
    have P4 : Hid (W4.heap[wX.heap.size]? = some (.cells #[.slice none 0 0] 35 (0, 0))) := Lib.hid (by rw [hW4]; exact new_at wX _)
    have HW4 := Lib.hid hW4
    clear hW4
    have k4 : (wX.alloc (.cells #[.slice none 0 0] 35)).cell? ⟨w.heap.size, 1, none⟩ = some (.slice (some ⟨ab, ao, none⟩) n c) := by rw [← HW4.out]; exact cell_of ((U4.out.block _ (lt_of_blk HX.out.1)).trans HX.out.1) rfl
    gi_wp2_with (refine ⟨trivial, ?_⟩; gi_at_call 22; rw [← HW4.out]; refine (callsIn_wide.2 (chunk_any (some ⟨ab, ao, none⟩) n c sz W4 h1)).mono ?_; rintro e w5 ⟨q1, q2, rfl, E1, E2, E3, U5⟩)
    have P5 : Hid (w5.heap[wX.heap.size]? = some (.cells #[.slice none 0 0] 35 (0, 0))) := Lib.hid ((U5.out.block _ (lt_of_blk P4.out)).trans P4.out)
    have X5 : Hid (Up wX w5) := Lib.hid (U4.out.trans U5.out)
    have hq4 : Hid (wX.heap.size < W4.heap.size) := Lib.hid (lt_of_blk P4.out)
    have hqX : Hid (w.heap.size + 1 < wX.heap.size) := Lib.hid (lt_of_blk HX.out.2.1)
    have Q5 : Hid (w5.heap[w.heap.size + 1]? = some (.cells (whC st (nx st) false) 51 (0, 0))) := Lib.hid ((X5.out.block _ (lt_of_blk HX.out.2.1)).trans HX.out.2.1)
    have I5 : Hid (InB w5 (some ⟨ab, ao, none⟩) n c bs) := Lib.hid (HX.out.2.2.2.1.up X5.out)
    have B5 : Hid (CutB 66 w5 b (Fg.upd nx st)) := Lib.hid ((X5.out.block _ (lt_of_blk HX.out.2.2.1)).trans HX.out.2.2.1)
    have O5 : Hid (Out (fun k => k = b) w w5) := Lib.hid (HX.out.2.2.2.2.trans (X5.out.out _) (Sub.refl _ _))
    have hc5 := I5.out.cap
    have hab5 : Hid (ab < w5.heap.size ∧ ab ≠ wX.heap.size) := Lib.hid ⟨Nat.lt_of_lt_of_le (HAL.out ab rfl) O5.out.size, by have := HAL.out ab rfl; have := hqX.out; omega⟩
    clear HX P4 U4 HW4 U5 k4
    refine wpIn_rangeFunc_ownF rfl (by omega) (gf := 33) (lb := #[.pointer (some ⟨q1, 0, none⟩), .pointer (some ⟨q2, 0, none⟩)]) rfl trivial (enters_of Try.func33 (by kernel_rfl) rfl)
      (chunk_stops 4 (by omega) q1 q2 ab ao n c sz hn hc5 h1 h2 w5 E1.out E2.out) (fun h k => h.trans k) (fun W l o o' hl h _ _ => ⟨by simp, World.putObj_heap_other (fun e => by have := lt_of_blk E1.out; omega), World.putObj_heap_other (fun e => by have := lt_of_blk E2.out; omega)⟩) (Below.refl _ _) (fun _ => rfl)
      (CutI st (nx st) false bs n wX.heap.size w5) (fun _ _ _ => False) (CutI.keep st (nx st) false bs n wX.heap.size w5) (fun _ _ _ _ _ hs _ _ => hs)
      ⟨⟨[], none, 0, 0, Lib.hid rfl, rfl, P5.out, World.ownsRow_nil _ _ _ _, fun x hx => by cases hx⟩, Out.refl _ _⟩
      (fun x => { tmps := #[.pointer (some { block := b, off := 0 }), .agg #[.int IntKind.u16 ↑st, .slice (some { block := ab, off := ao }) n c], .bool false, .int IntKind.i64 ↑sz, undef, .pointer (some { block := w.heap.size, off := 0 }), undef, undef, .slice none 0 0, .int IntKind.i64 0, .pointer (some { block := w.heap.size + 1, off := 0 }), .pointer (some { block := wX.heap.size, off := 0 }), .slice (some ⟨ab, ao + x.o, none⟩) x.l x.l, undef, .bool false, .pointer (some { block := b, off := 0 }), .bool false, .pointer (some { block := w.heap.size, off := 1 }), .slice (some { block := ab, off := ao }) n c, .int IntKind.i64 ↑n, .bool false, .pointer (some { block := w.heap.size, off := 0 }), .int IntKind.u16 ↑st, .bool false, .int IntKind.i64 ↑sz, .bool false, .int IntKind.i64 ↑sz, .bool false, .bool false, .pointer (some { block := w.heap.size, off := 1 }), .slice (some { block := ab, off := ao }) n c, .int IntKind.i64 ↑n, .bool false, .pointer (some { block := w.heap.size, off := 0 }), .int IntKind.u16 ↑st, .bool false, .agg #[.int IntKind.u32 0, .int IntKind.u16 ↑st, .int IntKind.u16 0, .bool false, .bool false, .bool false, .slice none 0 0], .bool false, .bool true, .pointer (some { block := b, off := 0 }), .pointer (some { block := w.heap.size, off := 0 }), .int IntKind.u16 ↑st, .int IntKind.u16 ↑(nx st), .pointer (some { block := w.heap.size + 1, off := 2 }), .pointer (some { block := w.heap.size, off := 1 }), .slice (some { block := ab, off := ao }) n c, .int IntKind.i64 ↑sz, .func (Fn.func 33) #[] #[.pointer (some { block := q1, off := 0 }), .pointer (some { block := q2, off := 0 })], .slice (some ⟨ab, ao + x.o, none⟩) x.l x.l, undef, undef, undef, undef, undef, undef, undef, undef, undef, undef, undef, undef, undef, undef, undef, undef, undef, undef], defers := [] }) ?assign ?body ?done ?stop
    case assign =>
      intro l x W K hK
      gi_wp2
      exact hK
    case body =>
      intro l pre x W hI hlt
      obtain ⟨⟨L, AP, NP, cP, hNP, hps, hqp, hrow, hby⟩, hout⟩ := hI
      have HN := hNP
      have hqXX := hqX.out
      have QW := Lib.hid (hout.blk Q5.out (by omega))
      have c0 : W.cell? ⟨w.heap.size + 1, 0, none⟩ = some (.int .u32 0) := cell_of QW.out rfl
      have c1 : W.cell? ⟨w.heap.size + 1, 1, none⟩ = some (.int .u16 (st : Int)) := cell_of QW.out rfl
      have c2 : W.cell? ⟨w.heap.size + 1, 2, none⟩ = some (.int .u16 (((nx st) : Nat) : Int)) := cell_of QW.out rfl
      have c3 : W.cell? ⟨w.heap.size + 1, 3, none⟩ = some (.bool false) := cell_of QW.out rfl
      have c4 : W.cell? ⟨w.heap.size + 1, 4, none⟩ = some (.bool false) := cell_of QW.out rfl
      have c5 : W.cell? ⟨w.heap.size + 1, 5, none⟩ = some (.bool false) := cell_of QW.out rfl
      have c6 : W.cell? ⟨w.heap.size + 1, 6, none⟩ = some (.slice none 0 0) := cell_of QW.out rfl
      obtain ⟨W6, hW6⟩ : ∃ W6, W6 = W.alloc (.cells (whC st (nx st) false) 51) := ⟨_, rfl⟩
      have U6 : Hid (Up W W6) := Lib.hid (by rw [hW6]; exact up_alloc _ _)
      have S6 : Hid (W6.heap[W.heap.size]? = some (.cells (whC st (nx st) false) 51 (0, 0))) := Lib.hid (by rw [hW6]; exact new_at W _)
      have HW6 := Lib.hid hW6
      have HQP := Lib.hid hqp
      have HROW := Lib.hid hrow
      have HBY := Lib.hid hby
      have HPS := Lib.hid hps
      have HOUT := Lib.hid hout
      have I6 : Hid (InB W6 (some ⟨ab, ao + x.o, none⟩) x.l x.l ((bs.drop x.o).take x.l)) := Lib.hid (((I5.out.outS' hout (fun _ k hk e => by
        have h3 : ab = k := by simpa [blk?] using hk
        exact hab5.out.2 (by omega))).part x.le).up U6.out)
      have hxl := x.pos
      have hxn := x.le
      clear hW6 hqp hrow hby hps hout
      gi_upto_region 17 with (refine ⟨trivial, ?_⟩; gi_at_call 23; rw [show (.cells #[.int .u32 0, .int .u16 (st : Int), .int .u16 (((nx st) : Nat) : Int), .bool false, .bool false, .bool false, .slice none 0 0] 51 : Obj) = .cells (whC st (nx st) false) 51 (0, 0) from rfl, ← HW6.out]; refine (CallsIn.inRound l (callsIn_wide.2 (clone_b _ x.l x.l _ W6 I6.out hxl (by omega)))).mono ?_; rintro e w7 ⟨A7, c7, rfl, O7, U7⟩; have S7 := Lib.hid ((U7.out.block _ (lt_of_blk S6.out)).trans S6.out); have k7 : w7.cell? ⟨W.heap.size, 6, none⟩ = some (.slice none 0 0) := cell_of S7.out rfl; have f7 : w7.frozen? ⟨W.heap.size, 6, none⟩ = false := frozen_at S7.out)
      have V7 := Lib.hid (U6.out.trans U7.out)
      have O8 := Lib.hid (setCell_out w7 W.heap.size 6 (.slice A7 x.l c7))
      have S8 : Hid ((w7.setCell ⟨W.heap.size, 6, none⟩ (.slice A7 x.l c7)).heap[W.heap.size]? = some (.cells #[.int .u32 0, .int .u16 (st : Int), .int .u16 (((nx st) : Nat) : Int), .bool false, .bool false, .bool false, .slice A7 x.l c7] 51 (0, 0))) := Lib.hid (setCell_at (j := 6) (.slice A7 x.l c7) S7.out)
      have VO8 : Hid (Out No W (w7.setCell ⟨W.heap.size, 6, none⟩ (.slice A7 x.l c7))) := Lib.hid ((V7.out.out No).trans O8.out (fun k hk => .inr (by omega)))
      have OB8 : Hid (OwnI .u8 5 W6.heap.size (w7.setCell ⟨W.heap.size, 6, none⟩ (.slice A7 x.l c7)) A7 x.l c7 ((bs.drop x.o).take x.l)) := Lib.hid (Out.own O8.out O7.out (own_ne O7.out S7.out (by decide)))
      clear k7 f7 O7 U7 S7 V7 O8 c0 c1 c2 c3 c4 c5 c6
      generalize w7.setCell ⟨W.heap.size, 6, none⟩ (.slice A7 x.l c7) = w8 at S8 VO8 OB8 ⊢
      have V8 := Lib.hid VO8.out.up
      have Q8 := Lib.hid ((V8.out.block _ (lt_of_blk HQP.out)).trans HQP.out)
      have R8 := Lib.hid (own_up HROW.out V8.out)
      have hWw : w5.heap.size ≤ W.heap.size := HOUT.out.size
      have hW8 : W.heap.size ≤ w8.heap.size := V8.out.size
      have hNL := HN.out
      have hpl : L.length = pre.length := by have := congrArg List.length HPS.out; simpa [ps] using this
      have d0 : w8.cell? ⟨W.heap.size, 0, none⟩ = some (.int .u32 0) := cell_of S8.out rfl
      have d1 : w8.cell? ⟨W.heap.size, 1, none⟩ = some (.int .u16 (st : Int)) := cell_of S8.out rfl
      have d2 : w8.cell? ⟨W.heap.size, 2, none⟩ = some (.int .u16 (((nx st) : Nat) : Int)) := cell_of S8.out rfl
      have d3 : w8.cell? ⟨W.heap.size, 3, none⟩ = some (.bool false) := cell_of S8.out rfl
      have d4 : w8.cell? ⟨W.heap.size, 4, none⟩ = some (.bool false) := cell_of S8.out rfl
      have d5 : w8.cell? ⟨W.heap.size, 5, none⟩ = some (.bool false) := cell_of S8.out rfl
      have d6 : w8.cell? ⟨W.heap.size, 6, none⟩ = some (.slice A7 x.l c7) := cell_of S8.out rfl
      have e0 : w8.cell? ⟨wX.heap.size, 0, none⟩ = some (.slice AP NP cP) := cell_of Q8.out rfl
      have Z9 := Lib.hid (new_at w8 (.cells #[.int .u32 0, .int .u16 (st : Int), .int .u16 (((nx st) : Nat) : Int), .bool false, .bool false, .bool false, .slice A7 x.l c7] 51 : Obj))
      have U9 := Lib.hid (up_alloc w8 (.cells #[.int .u32 0, .int .u16 (st : Int), .int .u16 (((nx st) : Nat) : Int), .bool false, .bool false, .bool false, .slice A7 x.l c7] 51 : Obj))
      have hNP2 : NP ≤ 4096 := by omega
      have HNL := Lib.hid hNL
      have HPL := Lib.hid hpl
      clear hNL hpl
      gi_wp2_with (gi_at_builtin; refine wpListIn_appG rfl (.tmp 53) (.tmp 55) 35 51 (.agg #[.int .u32 0, .int .u16 0, .int .u16 0, .bool false, .bool false, .bool false, .slice none 0 0]) 7 40 w5.heap.size rfl Try.underlying35 info51 rfl (by omega) (A := AP) (n := NP) (c := cP) (by simp [Act.eval, Act.put]) (own_up R8.out U9.out) (B := some ⟨w8.heap.size, 0, none⟩) (m := 1) (d := 1) (news := [.int .u32 0, .int .u16 (st : Int), .int .u16 (((nx st) : Nat) : Int), .bool false, .bool false, .bool false, .slice A7 x.l c7]) (by simp [Act.eval, Act.put]) (by rfl) (fun _ => ⟨_, 0, rfl, lt_of_blk Z9.out, fun j u hu => by rw [Nat.zero_add]; exact cell_of Z9.out (by simpa using hu)⟩) (by simp [Value.oneCell']) (by omega) (by omega) (by rw [World.size_alloc]; omega) ?_; intro A10 c10 w10 R10 O10 E10; have Q9 := Lib.hid ((U9.out.block _ (lt_of_blk Q8.out)).trans Q8.out); have Q10 := Lib.hid (O10.out.blk Q9.out (fun hk => own_ne (own_up R8.out U9.out) Q9.out (by decide) _ (by rw [ownBlock_slice]; exact hk) rfl)); have k10 : w10.cell? ⟨wX.heap.size, 0, none⟩ = some (.slice AP NP cP) := cell_of Q10.out rfl; have f10 : w10.frozen? ⟨wX.heap.size, 0, none⟩ = false := frozen_at Q10.out)
      have O11 := Lib.hid (setCell_out w10 wX.heap.size 0 (.slice A10 (NP + 1) c10))
      have Q11 : Hid ((w10.setCell ⟨wX.heap.size, 0, none⟩ (.slice A10 (NP + 1) c10)).heap[wX.heap.size]? = some (.cells #[.slice A10 (NP + 1) c10] 35 (0, 0))) := Lib.hid (setCell_at (j := 0) (.slice A10 (NP + 1) c10) Q10.out)
      have R11 := Lib.hid (Out.own O11.out R10.out (own_ne R10.out Q10.out (by decide)))
      have OA : Hid (Out (fun k => k = wX.heap.size ∨ blk? AP = some k) W (w10.setCell ⟨wX.heap.size, 0, none⟩ (.slice A10 (NP + 1) c10))) := Lib.hid ((((V8.out.trans U9.out).out (fun k => k = wX.heap.size ∨ blk? AP = some k)).trans (O10.out.mono (fun k hk => .inr hk)) (Sub.refl _ _)).trans (O11.out.mono (fun k hk => .inl hk)) (Sub.refl _ _))
      have key : ∀ {A : Option Addr} {N c : Nat} {zs : List Int}, OwnI .u8 5 w5.heap.size w8 A N c zs → OwnI .u8 5 w5.heap.size (w10.setCell ⟨wX.heap.size, 0, none⟩ (.slice A10 (NP + 1) c10)) A N c zs := fun {A N c zs} h => by
        have h3 := own_up h U9.out
        have h4 := Out.own O10.out h3 (fun g hg e => rows_ne h3 (own_up R8.out U9.out) (by decide) g hg (by rw [ownBlock_slice]; exact e))
        exact Out.own O11.out h4 (own_ne h4 Q10.out (by decide))
      have hbl : ((bs.drop x.o).take x.l).length = x.l := by rw [List.length_take, List.length_drop, HL.out]; omega
      have hA1 : ∀ k, blk? AP = some k → w5.heap.size ≤ k := fun k hk => (row_lt HROW.out hk).1
      have hq1 := E3.out
      have h41 := hq4.out
      have l1 := lt_of_blk E1.out
      have l2 := lt_of_blk E2.out
      refine ⟨keeps_of OA.out (fun k o hk ho => ?_), ⟨OA.out.size, OA.out.block q1 (by omega) (fun hk => ?_), OA.out.block q2 (by omega) (fun hk => ?_)⟩, ⟨⟨L ++ [⟨bare st (nx st) false bs x.two, A7, c7⟩], A10, NP + 1, c10, Lib.hid ?_, ?_, Q11.out, ?_, fun y hy => ?_⟩, HOUT.out.trans OA.out (fun k hk => ?_)⟩⟩
      · rcases hk with e | e
        · subst e; rw [HQP.out] at ho; injection ho with ho; rw [← ho]; rfl
        · exact row_isCells HROW.out e ho
      · rcases hk with e | e
        · omega
        · have := hA1 _ e; omega
      · rcases hk with e | e
        · omega
        · have := hA1 _ e; omega
      · rw [HNL.out]; simp
      · unfold ps at *
        rw [List.map_append, HPS.out, List.map_append]; rfl
      · rw [List.flatMap_append]
        have e9 : [(⟨bare st (nx st) false bs x.two, A7, c7⟩ : PcB)].flatMap pcc = [.int .u32 0, .int .u16 (st : Int), .int .u16 (((nx st) : Nat) : Int), .bool false, .bool false, .bool false, .slice A7 x.l c7] := by
          simp only [List.flatMap_cons, List.flatMap_nil, List.append_nil, pcc, bare, Pt.two, hbl]
          rfl
        rw [e9]
        exact R11.out
      · rcases List.mem_append.1 hy with h3 | h3
        · exact key (own_up (HBY.out y h3) V8.out)
        · rw [List.mem_singleton.1 h3]
          show OwnI .u8 5 w5.heap.size _ A7 ((bs.drop x.o).take x.l).length c7 ((bs.drop x.o).take x.l)
          rw [hbl]
          exact key (OB8.out.mono (Nat.le_trans hWw U6.out.size))
      · rcases hk with e | e
        · exact .inl e
        · exact .inr (hA1 k e)
    case done =>
      intro D xs W hD hS hI hK
      obtain ⟨⟨L, AP, NP, cP, hNP, hps, hqp, hrow, hby⟩, hout⟩ := hI
      have hbn : 0 < bs.length := by have := HL.out; omega
      have hpl : L.length = npt sz bs.length := by
        have h3 := congrArg List.length (hps.trans (bare_all (st := st) (sq := (nx st)) (un := false) HL.out h1 hS))
        simpa [ps] using h3
      have hnp := npt_pos h1 hbn
      have hnp4 := npt_le (N := bs.length) h1
      have hNP1 := hNP.out
      have hbn2 := HL.out
      obtain ⟨M, hM⟩ : ∃ M, NP = M + 1 := ⟨NP - 1, by omega⟩
      obtain ⟨x, hx⟩ : ∃ x, L[0]? = some x := ⟨_, List.getElem?_eq_getElem (by omega)⟩
      obtain ⟨y, hy⟩ : ∃ y, (L.set 0 (bgT x))[npt sz bs.length - 1]? = some y := ⟨_, List.getElem?_eq_getElem (by rw [List.length_set]; omega)⟩
      have hfin := ends_ok h1 hbn (hps.trans (bare_all (st := st) (sq := (nx st)) (un := false) HL.out h1 hS)) hx hy
      have hMn : npt sz bs.length - 1 = M := by omega
      rw [hMn] at hy hfin
      have hM4 : M < 4096 := by omega
      obtain ⟨g, rfl⟩ := row_at hrow (by omega)
      have r1 := (World.ownsRow.stored hrow 3 (.bool true)).1
      have ho1 := setCell_out W g 3 (.bool true)
      have e3 := rowG_set pcc 7 pcc_len (y := bgT x) hx (j := 3) (v := .bool true) (by omega) rfl
      rw [Nat.zero_mul, Nat.zero_add] at e3
      rw [e3] at r1
      have r2 := (World.ownsRow.stored r1 (M * 7 + 4) (.bool true)).1
      have ho2 := setCell_out (W.setCell ⟨g, 3, none⟩ (.bool true)) g (M * 7 + 4) (.bool true)
      have e4 := rowG_set pcc 7 pcc_len (y := enT y) hy (j := 4) (v := .bool true) (by omega) rfl
      rw [e4] at r2
      have hgq : g ≠ wX.heap.size := own_ne hrow hqp (by decide) g rfl
      have c1 : W.cell? ⟨wX.heap.size, 0, none⟩ = some (.slice (some ⟨g, 0, none⟩) NP cP) := cell_of hqp rfl
      have Q2 := Lib.hid (ho1.blk hqp (fun e => hgq e.symm))
      have Q3 := Lib.hid (ho2.blk Q2.out (fun e => hgq e.symm))
      have c2 : (W.setCell ⟨g, 3, none⟩ (.bool true)).cell? ⟨wX.heap.size, 0, none⟩ = some (.slice (some ⟨g, 0, none⟩) NP cP) := cell_of Q2.out rfl
      have c3 : ((W.setCell ⟨g, 3, none⟩ (.bool true)).setCell ⟨g, M * 7 + 4, none⟩ (.bool true)).cell? ⟨wX.heap.size, 0, none⟩ = some (.slice (some ⟨g, 0, none⟩) NP cP) := cell_of Q3.out rfl
      have fz1 : W.frozen? ⟨g, 3, none⟩ = false := World.ownsRow.frozenAt hrow 3
      have fz2 : (W.setCell ⟨g, 3, none⟩ (.bool true)).frozen? ⟨g, M * 7 + 4, none⟩ = false := World.ownsRow.frozenAt r1 _
      obtain ⟨u1, hu1⟩ : ∃ u, W.cell? ⟨g, 3, none⟩ = some u := ⟨_, row_cell hrow (rowG_at pcc 7 pcc_len hx (j := 3) rfl)⟩
      obtain ⟨u2, hu2⟩ : ∃ u, (W.setCell ⟨g, 3, none⟩ (.bool true)).cell? ⟨g, M * 7 + 4, none⟩ = some u := ⟨_, row_cell r1 (rowG_at pcc 7 pcc_len hy (j := 4) rfl)⟩
      have hNM : (NP : Int) - 1 = (M : Int) := by omega
      have hMN : (M : Int) < (NP : Int) := by omega
      have HNP0 : (0 : Int) < (NP : Int) := by omega
      have HR := Lib.hid r2
      have HO := Lib.hid (ho1.trans ho2 (Sub.refl _ _))
      have HFIN := Lib.hid hfin
      have HOUT := Lib.hid hout
      have HROW := Lib.hid hrow
      have HBY := Lib.hid hby
      have HXY := Lib.hid (And.intro hx hy)
      have HK := Lib.hid hK
      have HD := Lib.hid hD
      have HPL : Hid (L.length = M + 1) := Lib.hid (by omega)
      clear r1 r2 ho1 ho2 e3 e4 hfin hout hrow hby hx hy hK hps hqp hS hpl hnp hnp4 hNP1 hMn hD hM hNP hbn hbn2
      gi_wp2

      have hDg : D ≠ g := fun e => by
        have h3 := row_isCells HROW.out (k := g) rfl (by rw [← e]; exact HK.out)
        cases h3
      have hK2 := HO.out.blk HK.out hDg
      refine ⟨by simp, .inl ⟨_, _, rfl, run_takeDeferred hK2, ?_⟩⟩
      have hput := grownBy_putObj' ((W.setCell ⟨g, 3, none⟩ (.bool true)).setCell ⟨g, M * 7 + 4, none⟩ (.bool true)) D (.deferred none)
      have hnc : ∀ r, (some D : Option Nat) = some r → ∃ o : Obj, ((W.setCell ⟨g, 3, none⟩ (.bool true)).setCell ⟨g, M * 7 + 4, none⟩ (.bool true)).heap[r]? = some o ∧ o.isCells = false := fun r e => by cases e; exact ⟨_, hK2, rfl⟩
      have hlen2 : ((L.set 0 (bgT x)).set M (enT y)).length = NP := by rw [List.length_set, List.length_set, HPL.out]; omega
      have hw5 : w.heap.size ≤ w5.heap.size := O5.out.size
      have hbg : ¬ b = wX.heap.size := fun e => by have h3 := lt_of_blk B5.out; have h4 := hqX.out; omega
      have hg5 : w5.heap.size ≤ g := (row_lt HROW.out rfl).1
      have hb5 : b < w5.heap.size := lt_of_blk B5.out
      have hby2 : ∀ z ∈ (L.set 0 (bgT x)).set M (enT y), OwnI .u8 5 w5.heap.size W z.A z.p.bs.length z.c z.p.bs := fun z hz => by
        have hx2 := HBY.out x (List.mem_of_getElem? HXY.out.1)
        have step : ∀ z ∈ L.set 0 (bgT x), OwnI .u8 5 w5.heap.size W z.A z.p.bs.length z.c z.p.bs := fun z hz => by
          rcases List.mem_or_eq_of_mem_set hz with h3 | h3
          · exact HBY.out z h3
          · rw [h3]; exact hx2
        rcases List.mem_or_eq_of_mem_set hz with h3 | h3
        · exact step z h3
        · rw [h3]; exact step y (List.mem_of_getElem? HXY.out.2)
      refine ⟨_, results_tmp2 rfl _ _ _, 0, (L.set 0 (bgT x)).set M (enT y), some ⟨g, 0, none⟩, cP, (Fg.upd nx st), by rw [hlen2]; rfl, Lib.hid (.inr (.inr ⟨?_, by rw [HL.out]; exact hn, rfl, by simpa using HFIN.out, by simp⟩)), Lib.hid ?_, Lib.hid ?_, Lib.hid (fun z hz => ?_), Lib.hid ?_⟩
      · unfold CutBad; rw [HL.out]; omega
      · exact cells_keep (HO.out.blk (HOUT.out.blk B5.out hbg) (by omega)) hput hnc
      · rw [hlen2]
        exact row_keep (row_mono HR.out hw5) hput hnc
      · have h3 := hby2 z hz
        exact row_keep (row_mono (Out.own HO.out h3 (fun g' hg' e => by subst e; exact rows_ne h3 HROW.out (by decide) _ hg' rfl)) hw5) hput hnc
      · exact ((O5.out.trans HOUT.out (fun k hk => .inr (by rw [hk]; have h4 := hqX.out; omega))).trans HO.out (fun k hk => .inr (by rw [hk]; omega))).trans (grown_out hput) (fun k hk => .inr (by injection hk with hk; have h4 := HD.out; omega))
    case stop =>
      intro D c' pre W _ _ h _
      exact h.elim
end Go.Proofs.Ytgcabidhpnaoiaa
