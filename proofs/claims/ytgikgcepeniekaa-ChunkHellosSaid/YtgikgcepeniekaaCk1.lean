import Derived.Test.YtgikgcepeniekaaCk0
import Derived.Test.YtgikgcepeniekaaWireC
import Derived.Test.YtgikgcepeniekaaWRef
import Derived.BigQuiet
namespace Go.Proofs.Ytgikgcepeniekaa
open Go Go.RowKit
set_option linter.unusedVariables false
/-! wire's Pad, Padded, Part, of the program and of the reference. -/
theorem pad_any (n : Nat) (w : World) (h : (n : Int) ≤ 9223372036854775807) : Calls Try.prog 34 #[.int .i64 (n : Int)] w fun e w' => e = .returned (.int .i64 (padN n : Int)) ∧ w = w' := by
  have h0 : (0 : Int) ≤ (n : Int) := by omega
  have hx : (4 - (n : Int) % 4) % 4 = (padN n : Int) := by unfold padN; omega
  have HX := Lib.hid hx
  clear hx
  go_enter Try.func34, Try.ntmps34
  go_wp2
  go_ret
  refine ⟨?_, rfl⟩
  rw [← HX.out]; rfl
theorem refpad_any (n : Nat) (w : World) (h : (n : Int) ≤ 9223372036854775807) : Calls Try.prog 43 #[.int .i64 (n : Int)] w fun e w' => e = .returned (.int .i64 (padN n : Int)) ∧ w = w' := by
  have h0 : (0 : Int) ≤ (n : Int) := by omega
  have hd : decide ((n : Int) < 0) = false := by simp
  by_cases h4 : n % 4 = 0
  · have hb : ((n : Int) % 4 == 0) = true := by rw [beq_iff_eq]; omega
    have HX := Lib.hid (show padN n = 0 by unfold padN; omega)
    clear h4
    go_enter Try.func43, Try.ntmps43
    go_wp2
    go_ret
    exact ⟨by rw [HX.out]; rfl, rfl⟩
  · have hb : ((n : Int) % 4 == 0) = false := by rw [beq_eq_false_iff_ne]; omega
    have HX := Lib.hid (show (4 - (n : Int) % 4) = (padN n : Int) by unfold padN; omega)
    clear h4
    go_enter Try.func43, Try.ntmps43
    go_wp2
    go_ret
    exact ⟨by rw [← HX.out]; rfl, rfl⟩
/-- A call answers a row of its own with these bytes. -/
def OwnB (ys : List Int) (w : World) (e : Ending) (w' : World) : Prop := ∃ A N c, e = .returned (.slice A N c) ∧ Hid (N = ys.length) ∧ Hid (OwnI .u8 5 w.heap.size w' A N c ys) ∧ Hid (Up w w')
set_option maxHeartbeats 400000 in
theorem padded_any (A : Option Addr) (m c : Nat) (xs : List Int) (w : World) (h : InB w A m c xs) (hk : m + 4 ≤ 140737488355328) :
    Calls Try.prog 59 #[.slice A m c] w (OwnB (padL xs) w) := by
  have HL := Lib.hid (show (ints .u8 xs).length = m by rw [ints_length]; exact h.len)
  have HM := Lib.hid h.len
  have HO := Lib.hid (ints_one .u8 xs)
  have HR := Lib.hid h.cells
  clear h
  have hp := padN_lt m
  go_enter Try.func59, Try.ntmps59
  go_wp2_with (first
    | (go_at_call 34; refine (pad_any m _ (by omega)).mono ?_; rintro e w' ⟨rfl, rfl⟩)
    | (go_at_call 66; refine (ext_any A m c (padN m) (ints .u8 xs) _ HL.out HR.out HO.out (by omega)).mono ?_; rintro e w' ⟨rfl, hrow, hbel⟩))
  go_ret
  have hr := hrow.out
  have e : (ints .u8 xs ++ List.replicate (padN m) (Value.int .u8 0)) = ints .u8 (padL xs) := by simp [padL, ints, HM.out]
  rw [e] at hr
  have el : (padL xs).length = m + padN m := by rw [padL_length, HM.out]
  exact ⟨_, _, _, rfl, Lib.hid el.symm, Lib.hid (ownI_row el (by unfold maxLen; omega) hr), Lib.hid hbel⟩
theorem padN_step {k : Nat} (h : k % 4 ≠ 0) : padN k = padN (k + 1) + 1 := by unfold padN; omega
set_option maxHeartbeats 400000 in
theorem refpadded_any (A : Option Addr) (m c : Nat) (xs : List Int) (w : World) (h : InB w A m c xs) (hk : m + 4 ≤ 140737488355328) :
    Calls Try.prog 38 #[.slice A m c] w (OwnB (padL xs) w) := by
  have H := Lib.hid h
  clear h
  have hp := padN_lt m
  go_enter Try.func38, Try.ntmps38
  go_wp2_with (at_builtin; refine wpList_appendI rfl (.tmp 4) (.tmp 5) 23 rfl .u8 w.heap.size 5 1 Try.underlying23 info5 (some ⟨w.heap.size, 0, none⟩) 0 0 [] rfl (ownI_new _ _ _) A m c xs rfl H.out.len (H.out.cells.alloc _) (by omega) (by omega) (by simp) ((Below.refl _ _).alloc (Nat.le_refl _) _) ?_; intro A' N c' w' HN HW HB hsz)
  have HW2 : Hid (OwnI .u8 5 w.heap.size w' A' N c' xs) := by have := HW.out; rw [List.nil_append] at this; exact this
  have hN : N = m := by have := HN.out; omega
  have HNN := Lib.hid hN
  clear hN HN HW hsz
  go_loopw [3] (fun v wr => ∃ (t : Nat) (ys : List Int) (A1 : Option Addr) (N1 c1 : Nat), v = .slice A1 N1 c1 ∧ Hid (t = padN N1) ∧ Hid (ys ++ List.replicate t 0 = padL xs) ∧ Hid (OwnI .u8 5 w.heap.size wr A1 N1 c1 ys) ∧ Hid (Below w.heap.size w wr) ∧ Hid (N1 + t = m + padN m)) (fun v _ => match v with | .slice _ n _ => padN n | _ => 0)
  case atStart => exact ⟨padN m, xs, A', N, c', rfl, Lib.hid (by rw [HNN.out]), Lib.hid (by unfold padL; rw [H.out.len]), HW2, HB, Lib.hid (by rw [HNN.out])⟩
  case round =>
    obtain ⟨t, ys, A1, N1, c1, rfl, ht, hys, hw, hb, hlen⟩ := hrel
    have hsz : w.heap.size ≤ wr.heap.size := hb.out.size
    have h0 : (0 : Int) ≤ (N1 : Int) := by omega
    have hN1 : N1 ≤ m + 4 := by have := hlen.out; omega
    by_cases h4 : N1 % 4 = 0
    · have hd : ((N1 : Int) % 4 == 0) = true := by rw [beq_iff_eq]; omega
      have hd' : ((N1 : Int) % 4 != 0) = false := by simp; omega
      have HT := Lib.hid (show t = 0 by rw [ht.out]; unfold padN; omega)
      clear h4
      go_wp2
      go_ret
      have e := hys.out
      rw [HT.out] at e
      simp only [List.replicate_zero, List.append_nil] at e
      have hl := hw.out.len
      exact ⟨_, _, _, rfl, Lib.hid (by rw [← e]; exact hl.symm), Lib.hid (by rw [← e]; exact hw.out), Lib.hid hb.out⟩
    · have hd : ((N1 : Int) % 4 == 0) = false := by rw [beq_eq_false_iff_ne]; omega
      have hd' : ((N1 : Int) % 4 != 0) = true := by simp; omega
      have HT := Lib.hid (padN_step h4)
      have hN2 : N1 + 1 ≤ m + 3 := by have := hlen.out; have := ht.out; have := HT.out; omega
      clear h4
      go_wp2_with (at_builtin; refine wpList_appendI rfl (.tmp 11) (.tmp 12) 23 rfl .u8 w.heap.size 5 1 Try.underlying23 info5 A1 N1 c1 ys rfl (hw.out.alloc _) (some ⟨wr.heap.size, 0, none⟩) 1 1 [0] rfl rfl (cells_new _ _ _ _ rfl) (by omega) (by omega) (by simp; omega) (hb.out.alloc hsz _) ?_; intro A2 N2 c2 w2 HN2 HW2' HB2 hsz2)
      go_roundw
      case rel => exact ⟨padN (N1 + 1), ys ++ [0], A2, N2, c2, rfl, Lib.hid (by rw [HN2.out]), Lib.hid (by have e := hys.out; rw [← e, ht.out, HT.out, List.replicate_succ]; simp), HW2', HB2, Lib.hid (by have := HN2.out; have := hlen.out; have := ht.out; have := HT.out; omega)⟩
      case measure =>
        have e := HT.out
        have e2 := HN2.out
        show padN _ < padN _
        rw [e2]
        omega
set_option maxHeartbeats 400000 in
theorem part_any (A : Option Addr) (m c a n : Nat) (xs : List Int) (w : World) (h : InB w A m c xs) (hk : m ≤ 140737488355328) (ha : a + n ≤ m) :
    Calls Try.prog 63 #[.slice A m c, .int .i64 (a : Int), .int .i64 (n : Int)] w fun e w' => ∃ A' N c', e = .returned (.tuple #[.slice A' N c', .int .i64 0]) ∧ Hid (N = n) ∧ Hid (OwnI .u8 5 w.heap.size w' A' N c' ((xs.drop a).take n)) ∧ Hid (Up w w') := by
  have HC := Lib.hid (show Cells w (A.map (·.add a)) (ints .u8 ((xs.drop a).take n)) by have := h.cells.cut a n; simpa [ints, List.map_take, List.map_drop] using this)
  have HL0 := Lib.hid (show ((xs.drop a).take n).length = n by simp [h.len]; omega)
  have HL := Lib.hid (show (ints .u8 ((xs.drop a).take n)).length = n by rw [ints_length]; exact HL0.out)
  have HO := Lib.hid (ints_one .u8 ((xs.drop a).take n))
  have ha0 : decide ((a : Int) < 0) = false := by simp
  have hn0 : decide ((n : Int) < 0) = false := by simp
  have hmi : (m : Int) ≤ 9223372036854775807 := by omega
  have hcap := h.cap
  clear h
  by_cases hca : c = a
  · subst hca
    obtain rfl : n = 0 := by omega
    obtain rfl : m = c := by omega
    have HC' := Lib.hid (show Cells w A (ints .u8 ((xs.drop m).take 0)) by simpa [ints] using Cells.nil w A)
    go_enter Try.func63, Try.ntmps63
    go_wp2_with (first
      | (go_at_call 69; refine (reaches_any _ m m (m : Int) 0 true _ hmi (by omega) (by omega) (by simp)).mono ?_; rintro e w' ⟨rfl, rfl⟩)
      | (go_at_call 66; refine (ext_any A 0 0 0 (ints .u8 ((xs.drop m).take 0)) _ HL.out HC'.out HO.out (by omega)).mono ?_; rintro e w' ⟨rfl, hrow, hbel⟩))
    go_ret2
    have hr := hrow.out
    rw [List.replicate_zero, List.append_nil] at hr
    exact ⟨_, _, _, rfl, Lib.hid rfl, Lib.hid (ownI_row (by rw [HL0.out]) (by unfold maxLen; omega) hr), Lib.hid hbel⟩
  · go_enter Try.func63, Try.ntmps63
    go_wp2_with (first
      | (go_at_call 69; refine (reaches_any _ m c (a : Int) (n : Int) true _ hmi (by omega) (by omega) (by simp; omega)).mono ?_; rintro e w' ⟨rfl, rfl⟩)
      | (go_at_call 66; refine (ext_any (A.map (·.add a)) n (c - a) 0 (ints .u8 ((xs.drop a).take n)) _ HL.out HC.out HO.out (by omega)).mono ?_; rintro e w' ⟨rfl, hrow, hbel⟩))
    go_ret2
    have hr := hrow.out
    rw [List.replicate_zero, List.append_nil] at hr
    exact ⟨_, _, _, rfl, Lib.hid rfl, Lib.hid (ownI_row (by rw [HL0.out]) (by unfold maxLen; omega) hr), Lib.hid hbel⟩
theorem part_short (A : Option Addr) (m c a n : Nat) (w : World) (hk : m ≤ 140737488355328) (ha : m < a + n) (ha2 : a ≤ 140737488355328) :
    Calls Try.prog 63 #[.slice A m c, .int .i64 (a : Int), .int .i64 (n : Int)] w fun e w' => e = .returned (.tuple #[.slice none 0 0, .int .i64 3]) ∧ w' = w := by
  have ha0 : decide ((a : Int) < 0) = false := by simp
  have hn0 : decide ((n : Int) < 0) = false := by simp
  have hmi : (m : Int) ≤ 9223372036854775807 := by omega
  go_enter Try.func63, Try.ntmps63
  go_wp2_with (go_at_call 69; refine (reaches_any _ m c (a : Int) (n : Int) false _ hmi (by omega) (by omega) (by simp; omega)).mono ?_; rintro e w' ⟨rfl, rfl⟩)
  go_ret2
  exact ⟨rfl, rfl⟩
theorem part_neg (A : Option Addr) (m c a : Nat) (n : Int) (w : World) (hn : n < 0) :
    Calls Try.prog 63 #[.slice A m c, .int .i64 (a : Int), .int .i64 n] w fun e w' => e = .returned (.tuple #[.slice none 0 0, .int .i64 1]) ∧ w' = w := by
  have ha0 : decide ((a : Int) < 0) = false := by simp
  have hn0 : decide (n < 0) = true := by simp [hn]
  go_enter Try.func63, Try.ntmps63
  go_wp2
  go_ret2
  exact ⟨rfl, rfl⟩
end Go.Proofs.Ytgikgcepeniekaa
namespace Go.Proofs.Ytgikgcepeniekaa
open Go Go.RowKit
set_option linter.unusedVariables false
/-! The writer. -/
/-- At g lies a writer that has these bytes; all of it lies within S. -/
structure IsW (S : Nat → Prop) (w : World) (g : Nat) (xs : List Int) : Prop where
  ex : ∃ A N c, w.heap[g]? = some (.cells #[.slice A N c] 70 (0, 0)) ∧ OwnI .u8 5 0 w A N c xs ∧ S g ∧ ∀ k, blk? A = some k → S k ∧ k ≠ g
theorem IsW.lt {S : Nat → Prop} {w : World} {g : Nat} {xs : List Int} (h : IsW S w g xs) : g < w.heap.size := by
  obtain ⟨A, N, c, h1, h2, h3, h4⟩ := h.ex
  exact lt_of_blk h1
theorem IsW.out {S T : Nat → Prop} {w w' : World} {g : Nat} {xs : List Int} (h : IsW S w g xs) (ho : Out T w w') (hd : ∀ k, S k → ¬ T k) : IsW S w' g xs := by
  obtain ⟨A, N, c, h1, h2, h3, h4⟩ := h.ex
  exact ⟨A, N, c, ho.blk h1 (hd g h3), ho.own h2 (fun k hk => hd k (h4 k (by rwa [ownBlock_slice] at hk)).1), h3, h4⟩
theorem IsW.up {S : Nat → Prop} {w w' : World} {g : Nat} {xs : List Int} (h : IsW S w g xs) (hu : Up w w') : IsW S w' g xs := h.out (hu.out No) (fun _ _ h => h)
/-- Behind a writer's method: these are its bytes now. -/
def WPost (S : Nat → Prop) (g : Nat) (xs : List Int) (w : World) (e : Ending) (w' : World) : Prop := e = .returned (.tuple #[]) ∧ ∃ S', IsW S' w' g xs ∧ Sub S' S w ∧ Out S w w'
theorem WPost.up {S : Nat → Prop} {g : Nat} {xs : List Int} {w w1 w' : World} {e : Ending} (h : WPost S g xs w1 e w') (hu : Up w w1) : WPost S g xs w e w' := by
  obtain ⟨h1, S', h2, h3, h4⟩ := h
  exact ⟨h1, S', h2, fun k hk => (h3 k hk).imp id (fun h => Nat.le_trans hu.size h), (hu.out S).trans h4 (Sub.refl _ _)⟩
theorem WPost.out {S S1 : Nat → Prop} {g : Nat} {xs : List Int} {w w1 w' : World} {e : Ending} (h : WPost S1 g xs w1 e w') (hs : Sub S1 S w) (hu : Out S w w1) : WPost S g xs w e w' := by
  obtain ⟨h1, S', h2, h3, h4⟩ := h
  exact ⟨h1, S', h2, hs.trans h3 hu.size, hu.trans h4 hs⟩
set_option maxRecDepth 100000 in
theorem wbytes {S : Nat → Prop} {g : Nat} {xs : List Int} (A : Option Addr) (m c : Nat) (ys : List Int) (w : World) (h : IsW S w g xs) (hy : InB w A m c ys) (hk : xs.length + m ≤ 1000000) :
    Calls Try.prog 52 #[.pointer (some ⟨g, 0, none⟩), .slice A m c] w (WPost S g (xs ++ ys) w) := by
  obtain ⟨A0, N, c0, h1, h2, h3, h4⟩ := h.ex
  have HY := Lib.hid hy
  have H1 := Lib.hid h1
  have H2 := Lib.hid h2
  have H3 := Lib.hid h3
  have H4 := Lib.hid h4
  have HL := Lib.hid h2.len
  have hc := cell_of h1 (j := 0) rfl
  have hN : N + m ≤ 1000000 := by have := h2.len; omega
  clear h h1 h2 h3 h4 hy hk
  go_enter Try.func52, Try.ntmps52
  go_wp2_with (at_builtin; refine wpList_appendG rfl (.tmp 8) (.tmp 9) 23 rfl 0 5 (.int .u8 0) 1 1 Try.underlying23 info5 rfl (by decide) A0 N c0 (ints .u8 xs) rfl H2.out A m c (ints .u8 ys) rfl (by rw [ints_length, HY.out.len, Nat.mul_one]) HY.out.cells (ints_one .u8 ys) (by omega) (by omega) (Nat.zero_le _) ?_; intro A' N' c' w' HN HW HO HB; have h1' := HO.out.blk H1.out (fun e => (H4.out g e).2 rfl); have hc' := cell_of h1' (j := 0) rfl; have hf' := frozen_at (j := 0) h1')
  go_end0
  have hso := setCell_out w' g 0 (.slice A' N' c')
  have hown : OwnI .u8 5 0 w' A' N' c' (xs ++ ys) := by unfold OwnI; rw [ints_append]; exact HW.out
  refine ⟨rfl, fun k => S k ∨ blk? A' = some k, ⟨A', N', c', by rw [setCell_at _ h1']; rfl, hso.own hown (fun q hq e => ?_), .inl H3.out, fun k hk => ⟨.inr hk, fun e => ?_⟩⟩, fun k hk => ?_, (HO.out.mono fun k hk => (H4.out k hk).1).trans (hso.mono fun k hk => by rw [hk]; exact H3.out) (Sub.refl _ _)⟩
  · rw [ownBlock_slice] at hq
    subst e
    rcases HB.out with hb | hb
    · exact (H4.out q (by rw [← hb]; exact hq)).2 rfl
    · have h9 : blk? A' = some q := hq
      rw [hb] at h9; injection h9 with h9
      have := lt_of_blk H1.out; omega
  · subst e
    rcases HB.out with hb | hb
    · exact (H4.out k (by rw [← hb]; exact hk)).2 rfl
    · rw [hb] at hk; injection hk with hk
      have := lt_of_blk H1.out; omega
  · rcases hk with hk | hk
    · exact .inl hk
    · rcases HB.out with hb | hb
      · exact .inl (H4.out k (by rw [← hb]; exact hk)).1
      · rw [hb] at hk; injection hk with hk
        exact .inr (by omega)
set_option maxRecDepth 100000 in
theorem wnumber {S : Nat → Prop} {g : Nat} {xs : List Int} (n : Int) (s : Nat) (w : World) (h : IsW S w g xs) (h1 : 1 ≤ s) (h8 : s ≤ 8) (hk : xs.length ≤ 900000) :
    Calls Try.prog 58 #[.pointer (some ⟨g, 0, none⟩), .int .u64 n, .int .i64 (s : Int)] w (WPost S g (xs ++ be n s) w) := by
  have H := Lib.hid h
  have HK := Lib.hid hk
  clear h hk
  go_enter Try.func58, Try.ntmps58
  go_wp2_with fail
  refine (put_any none 0 0 s [] n w (inB_nil w) (by omega) h1 h8).mono ?_
  rintro e w1 ⟨A, N, c, rfl, hN, hO, hu⟩
  have HN := Lib.hid hN
  have HO := Lib.hid hO
  have HU := Lib.hid hu
  clear hN hO hu
  go_wp2_with fail
  have hl : N = s := by rw [HN.out]; simp [be_length]
  refine (wbytes A N c (be n s) w1 (H.out.up HU.out) (by have := own_inB HO.out (by simpa using be_byt n s); simpa using this) (by have := HK.out; omega)).mono ?_
  intro e w2 hp
  have HP := Lib.hid (hp.up HU.out)
  obtain ⟨rfl, -⟩ := hp
  go_wp2_with fail
  go_end0
  exact HP.out
set_option maxRecDepth 100000 in
theorem wone {S : Nat → Prop} {g : Nat} {xs : List Int} (n : Int) (w : World) (h : IsW S w g xs) (h0 : 0 ≤ n) (h1 : n < 256) (hk : xs.length ≤ 900000) :
    Calls Try.prog 35 #[.pointer (some ⟨g, 0, none⟩), .int .u8 n] w (WPost S g (xs ++ be n 1) w) := by
  have H := Lib.hid h
  have HK := Lib.hid hk
  clear h hk
  go_enter Try.func35, Try.ntmps35
  go_wp2_with fail
  refine (wnumber n 1 w H.out (by omega) (by omega) HK.out).mono ?_
  intro e w2 hp
  have HP := Lib.hid hp
  obtain ⟨rfl, -⟩ := hp
  go_wp2_with fail
  go_end0
  exact HP.out
set_option maxRecDepth 100000 in
theorem wtwo {S : Nat → Prop} {g : Nat} {xs : List Int} (n : Int) (w : World) (h : IsW S w g xs) (h0 : 0 ≤ n) (h1 : n < 65536) (hk : xs.length ≤ 900000) :
    Calls Try.prog 46 #[.pointer (some ⟨g, 0, none⟩), .int .u16 n] w (WPost S g (xs ++ be n 2) w) := by
  have H := Lib.hid h
  have HK := Lib.hid hk
  clear h hk
  go_enter Try.func46, Try.ntmps46
  go_wp2_with fail
  refine (wnumber n 2 w H.out (by omega) (by omega) HK.out).mono ?_
  intro e w2 hp
  have HP := Lib.hid hp
  obtain ⟨rfl, -⟩ := hp
  go_wp2_with fail
  go_end0
  exact HP.out
set_option maxRecDepth 100000 in
theorem wfour {S : Nat → Prop} {g : Nat} {xs : List Int} (n : Int) (w : World) (h : IsW S w g xs) (h0 : 0 ≤ n) (h1 : n < 4294967296) (hk : xs.length ≤ 900000) :
    Calls Try.prog 45 #[.pointer (some ⟨g, 0, none⟩), .int .u32 n] w (WPost S g (xs ++ be n 4) w) := by
  have H := Lib.hid h
  have HK := Lib.hid hk
  clear h hk
  go_enter Try.func45, Try.ntmps45
  go_wp2_with fail
  refine (wnumber n 4 w H.out (by omega) (by omega) HK.out).mono ?_
  intro e w2 hp
  have HP := Lib.hid hp
  obtain ⟨rfl, -⟩ := hp
  go_wp2_with fail
  go_end0
  exact HP.out
set_option maxRecDepth 100000 in
theorem wpadded {S : Nat → Prop} {g : Nat} {xs : List Int} (A : Option Addr) (m c : Nat) (ys : List Int) (w : World) (h : IsW S w g xs) (hy : InB w A m c ys) (hA : ys ≠ [] → ∀ k, blk? A = some k → ¬ S k) (hm : m ≤ 50000) (hk : xs.length ≤ 800000) :
    Calls Try.prog 36 #[.pointer (some ⟨g, 0, none⟩), .slice A m c] w (WPost S g (xs ++ be (4 + (m : Int)) 2 ++ padL ys) w) := by
  have H := Lib.hid h
  have HY := Lib.hid hy
  have HA := Lib.hid hA
  have HK := Lib.hid hk
  clear h hk hy hA
  go_enter Try.func36, Try.ntmps36
  go_wp2_with fail
  refine (wtwo (4 + (m : Int)) w H.out (by omega) (by omega) (by have := HK.out; omega)).mono ?_
  rintro e w1 ⟨rfl, S1, i1, s1, o1⟩
  have I1 := Lib.hid i1
  have S1' := Lib.hid s1
  have O1 := Lib.hid o1
  have HY1 := Lib.hid (HY.out.outS' O1.out HA.out)
  clear i1 s1 o1
  go_wp2_with fail
  refine (padded_any A m c ys w1 HY1.out (by omega)).mono ?_
  rintro e w2 ⟨A2, N2, c2, rfl, HN2, HO2, HU2⟩
  go_wp2_with fail
  have hl : N2 ≤ m + 3 := by rw [HN2.out, padL_length, HY1.out.len]; have := padN_lt m; omega
  refine (wbytes A2 N2 c2 (padL ys) w2 (I1.out.up HU2.out) (own_inB HO2.out (byt_padL HY1.out.byt)) (by have := HK.out; simp [be_length]; omega)).mono ?_
  intro e w3 hp
  have HP := Lib.hid ((hp.up HU2.out).out S1'.out O1.out)
  obtain ⟨rfl, -⟩ := hp
  go_wp2_with fail
  go_end0
  exact HP.out
end Go.Proofs.Ytgikgcepeniekaa
