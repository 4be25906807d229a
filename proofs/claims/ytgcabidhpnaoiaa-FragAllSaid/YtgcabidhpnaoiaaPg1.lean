import Derived.Test.YtgcabidhpnaoiaaFgB
import Derived.Test.YtgcabidhpnaoiaaFgR3
import Derived.Test.YtgcabidhpnaoiaaSteady
import Derived.RangeFuncNested
import Derived.RangeFuncBound
import Derived.RangeFuncCalls
import Derived.RangeFuncLeaves
import Derived.RangeFuncBox
import Derived.Shelf.Abstract
import Derived.Shelf.RegionOpen
import Derived.OwnWalkIn
import Derived.TacticsInMore
import Derived.LoopNIn
import Derived.LoopIn
namespace Go.Proofs.Ytgcabidhpnaoiaa
open Go Go.RowKit Fg
set_option linter.unusedVariables false
/-! slices.Clone at bytes; a new Cutter; the number of the next message. -/
theorem und30 : Try.prog.underlying 30 = some (.slice 5) := Try.underlying30
set_option maxRecDepth 100000 in
theorem clone_any (A : Addr) (m c : Nat) (xs : List Int) (w : World) (h : InB w (some A) m c xs) (hm : m ≤ 140737488351232) :
    Calls Try.prog 23 #[.slice (some A) m c] w fun e w' => ∃ A' c', e = .returned (.slice A' m c') ∧ Hid (OwnI .u8 5 w.heap.size w' A' m c' xs) ∧ Hid (Up w w') := by
  have qT : ∀ (w : World) (a : Option Addr) (n c n' c' : Nat), (binOp .eql 30 (.slice a n c) (.slice none n' c')).run Try.prog w = .ok (.bool a.isNone) w := fun w a n c n' c' => Lib.run_eql_slice_nil w _ _ a n c n' c' Try.underlying30
  have H := Lib.hid h
  clear h
  go_enter Try.func23, Try.ntmps23
  go_wp2_with (at_builtin; refine wpList_appendI rfl (.tmp 5) (.tmp 6) 30 rfl .u8 w.heap.size 5 1 Try.underlying30 info5 (some ⟨w.heap.size, 0, none⟩) 0 0 [] rfl (ownI_new _ _ _) (some A) m c xs rfl H.out.len (H.out.cells.alloc _) (by omega) (by omega) (by simp) ((Below.refl _ _).alloc (Nat.le_refl _) _) ?_; intro A6 N6 c6 w6 HN6 HW6 HB6 hsz6)
  have hN : N6 = m := by have := HN6.out; omega
  subst hN
  go_ret
  exact ⟨A6, c6, rfl, Lib.hid (by have := HW6.out; rw [List.nil_append] at this; exact this), Lib.hid HB6.out⟩
theorem clone_b (A : Option Addr) (m c : Nat) (xs : List Int) (w : World) (h : InB w A m c xs) (h0 : 0 < m) (hm : m ≤ 140737488351232) :
    Calls Try.prog 23 #[.slice A m c] w fun e w' => ∃ A' c', e = .returned (.slice A' m c') ∧ Hid (OwnI .u8 5 w.heap.size w' A' m c' xs) ∧ Hid (Up w w') := by
  obtain ⟨b, o, rfl, _⟩ := h.cells (fun e => by rw [ints, List.map_eq_nil_iff] at e; have := h.len; rw [e] at this; simp at this; omega)
  exact clone_any _ m c xs w h hm
/-- The block of a Cutter. -/
def cutC (nx : Nat → Nat) : Array Value := #[.int .u16 (nx 0), .int .u16 (nx 1), .int .u16 (nx 2), .int .u16 (nx 3), .int .u16 (nx 4), .int .u16 (nx 5), .int .u16 (nx 6), .int .u16 (nx 7)]
def CutB (ty : TypeId) (w : World) (b : Nat) (nx : Nat → Nat) : Prop := w.heap[b]? = some (.cells (cutC nx) ty (0, 0))
theorem cutC_at (nx : Nat → Nat) {s : Nat} (hs : s < 8) : (cutC nx)[s]? = some (.int .u16 (nx s)) := by
  match s, hs with
  | 0, _ => rfl
  | 1, _ => rfl
  | 2, _ => rfl
  | 3, _ => rfl
  | 4, _ => rfl
  | 5, _ => rfl
  | 6, _ => rfl
  | 7, _ => rfl
theorem cutC_upd (nx : Nat → Nat) {s : Nat} (hs : s < 8) : (cutC nx).setIfInBounds s (.int .u16 (((nx s + 1) % 65536 : Nat) : Int)) = cutC (Fg.upd nx s) := by
  match s, hs with
  | 0, _ => rfl
  | 1, _ => rfl
  | 2, _ => rfl
  | 3, _ => rfl
  | 4, _ => rfl
  | 5, _ => rfl
  | 6, _ => rfl
  | 7, _ => rfl
set_option maxRecDepth 100000 in
theorem newc_any (w : World) : Calls Try.prog 9 #[] w fun e w' => e = .returned (.pointer (some ⟨w.heap.size, 0, none⟩)) ∧ Hid (CutB 66 w' w.heap.size (fun _ => 0)) ∧ Hid (Up w w') := by
  go_enter Try.func9, Try.ntmps9
  go_wp2_with fail
  go_ret
  exact ⟨rfl, Lib.hid (new_at w _), Lib.hid (up_alloc w _)⟩
set_option maxRecDepth 100000 in
set_option maxHeartbeats 1000000 in
theorem number_any (b st : Nat) (nx : Nat → Nat) (w : World) (hst : st < 8) (h : CutB 66 w b nx) :
    Calls Try.prog 21 #[.pointer (some ⟨b, 0, none⟩), .int .u16 (st : Int)] w fun e w' => e = .returned (.int .u16 (nx st)) ∧ Hid (CutB 66 w' b (Fg.upd nx st)) ∧ Hid (Out (fun k => k = b) w w') := by
  have k0 : w.cell? ⟨b, st, none⟩ = some (.int .u16 (nx st)) := cell_of h (cutC_at nx hst)
  have f0 : w.frozen? ⟨b, st, none⟩ = false := frozen_at h
  have hst2 : (st : Int) < 8 := by omega
  have H := Lib.hid h
  clear h
  go_enter Try.func21, Try.ntmps21
  go_upto_region 2 with (fail)
  go_cut [] (fun wx => Hid (CutB 66 wx b (Fg.upd nx st)) ∧ Hid (Out (fun k => k = b) w wx))
  case first =>
    go_region
    all_goals
      have e1 : IntKind.u16.wrap ((nx st : Int) + 1) = (((nx st + 1) % 65536 : Nat) : Int) := by simp [IntKind.wrap_u16]
      rw [e1]
      have h4 := setCell_at (j := st) (.int .u16 (((nx st + 1) % 65536 : Nat) : Int)) H.out
      rw [cutC_upd nx hst] at h4
      have h5 := setCell_out w b st (.int .u16 (((nx st + 1) % 65536 : Nat) : Int))
      have H4 := Lib.hid h4
      have H5 := Lib.hid h5
      clear h4 h5
      go_wp2_with fail
      go_meet
      exact ⟨H4, Lib.hid (H5.out.trans ((Up.drew _).out _) (Sub.refl _ _))⟩
  case rest =>
    obtain ⟨h1, h2⟩ := hcut
    go_wp2_with fail
    go_ret
    exact ⟨rfl, h1, h2⟩
end Go.Proofs.Ytgcabidhpnaoiaa
namespace Go.Proofs.Ytgcabidhpnaoiaa
open Go Go.RowKit Go.Shelf Fg
set_option linter.unusedVariables false
set_option linter.unusedSimpArgs false
attribute [local go_sem] Oper.semAt_some
/-! slices.Chunk at bytes: the parts, one by one. -/
namespace Fg
/-- A part of N bytes. -/
structure Pt (N : Nat) where
  o : Nat
  l : Nat
  pos : 0 < l
  le : o + l ≤ N
def ptAt (sz N i : Nat) : Nat × Nat := (i * sz, min sz (N - i * sz))
def Pt.two {N : Nat} (p : Pt N) : Nat × Nat := (p.o, p.l)
/-- All of it, in parts of sz. -/
def InParts (N sz : Nat) (xs : List (Pt N)) : Prop := ∃ k, xs.map Pt.two = (List.range k).map (ptAt sz N) ∧ N ≤ k * sz ∧ ∀ j, j < k → j * sz < N
structure KpC (q1 q2 : Nat) (W W' : World) : Prop where
  size : W.heap.size ≤ W'.heap.size
  a1 : W'.heap[q1]? = W.heap[q1]?
  a2 : W'.heap[q2]? = W.heap[q2]?
theorem KpC.trans {q1 q2 : Nat} {A B C : World} (h : KpC q1 q2 A B) (k : KpC q1 q2 B C) : KpC q1 q2 A C := ⟨Nat.le_trans h.size k.size, k.a1.trans h.a1, k.a2.trans h.a2⟩
end Fg
set_option maxRecDepth 100000 in
theorem chunk_any (A : Option Addr) (n c sz : Nat) (w : World) (h1 : 1 ≤ sz) :
    Calls Try.prog 22 #[.slice A n c, .int .i64 (sz : Int)] w fun e w' => ∃ q1 q2, e = .returned (.func (.func 33) #[] #[.pointer (some ⟨q1, 0, none⟩), .pointer (some ⟨q2, 0, none⟩)]) ∧
      Hid (w'.heap[q1]? = some (.cells #[.slice A n c] 30 (0, 0))) ∧ Hid (w'.heap[q2]? = some (.cells #[.int .i64 (sz : Int)] 3 (0, 0))) ∧ Hid (w.heap.size ≤ q1 ∧ w.heap.size ≤ q2) ∧ Hid (Up w w') := by
  have t1 : decide ((sz : Int) < 1) = false := by simp; omega
  go_enter Try.func22, Try.ntmps22
  go_wp2_with fail
  go_ret
  refine ⟨_, _, rfl, Lib.hid ?_, Lib.hid (by have := new_at (w.alloc (.cells #[.slice A n c] 30)) (.cells #[.int .i64 (sz : Int)] 3); rw [World.size_alloc] at this; exact this), Lib.hid ⟨Nat.le_refl _, by simp⟩, Lib.hid ((up_alloc w _).trans (up_alloc _ _))⟩
  exact ((up_alloc _ _).block _ (lt_of_blk (new_at w _))).trans (new_at w _)
set_option maxRecDepth 100000 in
set_option maxHeartbeats 1000000 in
theorem chunk1 (n : Nat) (hn : 1 ≤ n) (l q1 q2 b off N c sz : Nat) (hN : N ≤ 4096) (hc : N ≤ c) (hs0 : 1 ≤ sz) (hs1 : sz ≤ 256) (J Jx : List (Pt N) → World → Prop)
    (hY : ∀ pre x W, J pre W → pre.length < 4096 → YieldAt Fence.wide (n - 1) Try.prog l #[.slice (some ⟨b, off + x.o, none⟩) x.l x.l] W fun e W' =>
      (e = .returned (.bool true) ∧ J (pre ++ [x]) W' ∧ KpC q1 q2 W W') ∨ (e = .returned (.bool false) ∧ Jx (pre ++ [x]) W'))
    (W : World) (hJ : AbidesFrom W.heap.size J) (h1 : W.heap[q1]? = some (.cells #[.slice (some ⟨b, off, none⟩) N c] 30 (0, 0))) (h2 : W.heap[q2]? = some (.cells #[.int .i64 (sz : Int)] 3 (0, 0))) (h0 : J [] W) :
    CallsIn Fence.wide n Try.prog 33 #[.func (.yield l) #[] #[], .pointer (some ⟨q1, 0, none⟩), .pointer (some ⟨q2, 0, none⟩)] W fun e W' => (∃ v, e = .returned v) ∧
      ((∃ xs, InParts N sz xs ∧ J xs W') ∨ (∃ pre : List (Pt N), True ∧ Jx pre W')) := by
  refine callsIn_of_wp Try.func33 rfl trivial ?_ rfl
  simp only [Try.ntmps33, List.size_toArray, List.length_cons, List.length_nil, Nat.reduceAdd, Nat.reduceSub, Array.replicate_succ, Array.replicate_zero, List.push_toArray, List.append_toArray, List.nil_append, List.cons_append]
  have H1 := Lib.hid h1
  have H2 := Lib.hid h2
  have HJ := Lib.hid hJ
  have HY := Lib.hid hY
  clear hJ h1 h2 hY
  gi_wp2
  gi_loopw [4] (fun iv wr => ∃ (k a : Nat) (pre : List (Pt N)), iv = .int .i64 (a : Int) ∧ Hid (a = k * sz) ∧ Hid (pre.map Pt.two = (List.range k).map (Fg.ptAt sz N) ∧ ∀ j, j < k → j * sz < N) ∧ a ≤ N + 256 ∧ Hid (J pre wr ∧ KpC q1 q2 W wr)) (fun iv _ => 8192 - (intOf iv).toNat)
  case atStart => exact ⟨0, 0, [], rfl, Lib.hid (by simp), Lib.hid ⟨rfl, by intro j hj; omega⟩, by omega, Lib.hid ⟨h0, Nat.le_refl _, rfl, rfl⟩⟩
  case round =>
    obtain ⟨k, a, pre, rfl, hA, hP, ha, hK⟩ := hrel
    have B1 := Lib.hid (hK.out.2.a1.trans H1.out)
    have B2 := Lib.hid (hK.out.2.a2.trans H2.out)
    have k1 : wr.cell? ⟨q1, 0, none⟩ = some (.slice (some ⟨b, off, none⟩) N c) := cell_of B1.out rfl
    have k2 : wr.cell? ⟨q2, 0, none⟩ = some (.int .i64 (sz : Int)) := cell_of B2.out rfl
    by_cases hlt : a < N
    · have d1 : decide ((a : Int) < (N : Int)) = true := by simp; omega
      gi_wp2
      gi_quiet (fail)
      obtain ⟨e, he⟩ : ∃ e : Nat, e = min sz (N - a) := ⟨_, rfl⟩
      have he2 : (if N - a < sz then ((N - a : Nat) : Int) else (sz : Int)) = (e : Int) := by
        rw [he]
        by_cases h : N - a < sz
        · rw [if_pos h, Nat.min_eq_right (by omega)]
        · rw [if_neg h, Nat.min_eq_left (by omega)]
      rw [he2]
      clear he2
      have he0 : 0 < e ∧ e ≤ 256 ∧ a + e ≤ N := by omega
      have hkl : k = pre.length := by have := congrArg List.length hP.out.1; simpa using this.symm
      have HE := Lib.hid he
      have HKL := Lib.hid hkl
      have hp4 : pre.length < 4096 := by
        have h3 := hA.out
        have : k * 1 ≤ k * sz := Nat.mul_le_mul_left k hs0
        omega
      have K2 : Hid (J pre (wr.drewN nq) ∧ KpC q1 q2 W (wr.drewN nq)) := Lib.hid ⟨HJ.out pre wr _ none hK.out.1 ⟨rfl, rfl, rfl, Nat.le_refl _, fun _ _ _ => rfl⟩ (fun r e => by cases e), hK.out.2.size, hK.out.2.a1, hK.out.2.a2⟩
      have C1 := Lib.hid (show (wr.drewN nq).cell? ⟨q1, 0, none⟩ = some (.slice (some ⟨b, off, none⟩) N c) from k1)
      have C2 := Lib.hid (show (wr.drewN nq).cell? ⟨q2, 0, none⟩ = some (.int .i64 (sz : Int)) from k2)
      clear he hkl k1 k2 d1
      generalize wr.drewN nq = w2 at K2 C1 C2 ⊢
      have k1 := C1.out
      obtain ⟨fn, tmps, assign, body, hy, hR⟩ := HY.out pre ⟨a, e, he0.1, he0.2.2⟩ w2 K2.out.1 hp4
      have e9 : (a + e - a) = e := by omega
      gi_wp2
      refine hR.mono ?_
      rintro ev W3 (⟨rfl, hJ3, hk3⟩ | ⟨rfl, hJx3⟩)
      · have K3 : Hid (J (pre ++ [⟨a, e, he0.1, he0.2.2⟩]) W3 ∧ KpC q1 q2 W W3) := Lib.hid ⟨hJ3, K2.out.2.trans hk3⟩
        have k2 : W3.cell? ⟨q2, 0, none⟩ = some (.int .i64 (sz : Int)) := cell_of (K3.out.2.a2.trans H2.out) rfl
        gi_wp2
        go_roundw
        case rel => exact ⟨k + 1, a + sz, _, by go_num, Lib.hid (by rw [hA.out, Nat.add_mul, Nat.one_mul]), Lib.hid ⟨by
            rw [List.map_append, hP.out.1, List.range_succ, List.map_append]
            simp only [List.map_cons, List.map_nil, Pt.two, Fg.ptAt]
            rw [← hA.out, ← HE.out], fun j hj => by
            by_cases h : j = k
            · rw [h, ← hA.out]; exact hlt
            · exact hP.out.2 j (by omega)⟩, by omega, K3⟩
        case measure => simp [intOf]; omega
      · gi_wp2
        refine bodyPost_ret (results_none rfl _ _ _) rfl ?_
        exact ⟨⟨_, rfl⟩, .inr ⟨_, trivial, hJx3⟩⟩
    · have d1 : decide ((a : Int) < (N : Int)) = false := by simp; omega
      gi_wp2
      go_end0
      exact ⟨⟨_, rfl⟩, .inl ⟨pre, ⟨k, hP.out.1, by have := hA.out; omega, hP.out.2⟩, hK.out.1⟩⟩
/-- What slices.Chunk hands back. -/
theorem chunk_stops (n : Nat) (hn : 1 ≤ n) (q1 q2 b off N c sz : Nat) (hN : N ≤ 4096) (hc : N ≤ c) (hs0 : 1 ≤ sz) (hs1 : sz ≤ 256) (w : World) (h1 : w.heap[q1]? = some (.cells #[.slice (some ⟨b, off, none⟩) N c] 30 (0, 0))) (h2 : w.heap[q2]? = some (.cells #[.int .i64 (sz : Int)] 3 (0, 0))) :
    SeqStopsK Fence.wide n Try.prog 33 #[.pointer (some ⟨q1, 0, none⟩), .pointer (some ⟨q2, 0, none⟩)] (fun x : Pt N => #[.slice (some ⟨b, off + x.o, none⟩) x.l x.l]) (KpC q1 q2) (InParts N sz) (fun _ => True) 4096 w := fun l J Jx W hW hJ _ hY h0 =>
  chunk1 n hn l q1 q2 b off N c sz hN hc hs0 hs1 J Jx hY W hJ ((hW.block q1 (lt_of_blk h1)).trans h1) ((hW.block q2 (lt_of_blk h2)).trans h2) h0
end Go.Proofs.Ytgcabidhpnaoiaa
