import Derived.Test.YtjdcglioppbfhaaCk31
import Derived.Test.YtjdcglioppbfhaaCrcC6
import Derived.Lib.SliceRun
import Derived.Laws.BitsAllLaws
namespace Go.Proofs.Ytjdcglioppbfhaa
open Go Go.RowKit
set_option linter.unusedVariables false
set_option linter.unusedSimpArgs false
/-! A row of the call's own, written in one part; the numbers of a packet; bytes turned round. -/
/-- These from place o on. -/
def setL : List Int → Nat → List Int → List Int
  | xs, _, [] => xs
  | xs, o, y :: ys => setL (xs.set o y) (o + 1) ys
theorem setL_length (ys : List Int) : ∀ (xs : List Int) (o : Nat), (setL xs o ys).length = xs.length := by
  induction ys with
  | nil => intro xs o; rfl
  | cons y ys ih => intro xs o; rw [setL, ih, List.length_set]
theorem setL_mid (ys : List Int) : ∀ (a b r : List Int), b.length = ys.length → setL (a ++ (b ++ r)) a.length ys = a ++ (ys ++ r) := by
  induction ys with
  | nil =>
    intro a b r h
    obtain rfl := List.eq_nil_of_length_eq_zero h
    rfl
  | cons y ys ih =>
    intro a b r h
    cases b with
    | nil => simp at h
    | cons x b =>
      rw [setL]
      have e : (a ++ (x :: b ++ r)).set a.length y = (a ++ [y]) ++ (b ++ r) := by simp
      have e2 : a.length + 1 = (a ++ [y]).length := by simp
      rw [e, e2, ih (a ++ [y]) b r (by simpa using h)]
      simp
theorem setL_cut (xs ys : List Int) (o : Nat) (h : o + ys.length ≤ xs.length) : setL xs o ys = xs.take o ++ (ys ++ xs.drop (o + ys.length)) := by
  have e : xs = xs.take o ++ ((xs.drop o).take ys.length ++ xs.drop (o + ys.length)) := by
    rw [← List.drop_drop, List.take_append_drop, List.take_append_drop]
  have h1 : (xs.take o).length = o := by simp; omega
  have := setL_mid ys (xs.take o) ((xs.drop o).take ys.length) (xs.drop (o + ys.length)) (by simp; omega)
  rw [← e, h1] at this
  exact this
section
variable {k : IntKind} {E : TypeId} {base : Nat} {N c g : Nat}
theorem ownI_setCells (ys : List Int) : ∀ (o : Nat) (w : World) (xs : List Int), OwnI k E base w (some ⟨g, 0, none⟩) N c xs → OwnI k E base (w.setCells g o (ints k ys)) (some ⟨g, 0, none⟩) N c (setL xs o ys) := by
  induction ys with
  | nil => intro o w xs h; exact h
  | cons y ys ih => intro o w xs h; exact ih (o + 1) _ _ (h.stored o y)
theorem out_setCells (vs : List Value) : ∀ (o : Nat) (w : World), Out (fun q => q = g) w (w.setCells g o vs) := by
  induction vs with
  | nil => intro o w; exact Out.refl _ _
  | cons v vs ih => intro o w; exact (setCell_out w g o v).trans (ih (o + 1) _) (Sub.refl _ _)
theorem size_setCells (vs : List Value) : ∀ (o : Nat) (w : World), (w.setCells g o vs).heap.size = w.heap.size := by
  induction vs with
  | nil => intro o w; rfl
  | cons v vs ih => intro o w; show ((w.setCell ⟨g, o, none⟩ v).setCells g (o + 1) vs).heap.size = _; rw [ih]; simp
theorem wpList_clearI {P : Program} {w : World} {ops : Array Oper} {rest : List Oper} {o : Oper} {a : Act} {Q : Exit → Act → World → Prop} (hgd : Region.wanted o (yielded ops a.tmps) = true) (s : Operand) (t : TypeId)
    (ho : o.op = .call { callee := .builtin .clear, args := #[s], argTypes := #[t] }) (ht : P.underlying t = some (.slice E)) (hv : ∀ w, (zeroValue E).run P w = .ok (.int k 0) w)
    (xs : List Int) (hown : OwnI k E base w (some ⟨g, 0, none⟩) N c xs) (off n d : Nat) (hs : a.eval s = .slice (some ⟨g, off, none⟩) n d) (hn : 0 < n) (hfit : off + n ≤ N)
    (h : ∀ w', Hid (OwnI k E base w' (some ⟨g, 0, none⟩) N c (setL xs off (List.replicate n 0))) → Hid (Out (fun q => q = g) w w') → Hid (w'.heap.size = w.heap.size) → wpList P ops Q rest (a.put o.dst (.tuple #[])) w') : wpList P ops Q (o :: rest) a w := by
  refine wpList_wanted hgd fun K hK => ?_
  have hrun := Lib.run_clear_slice (P := P) w t E o.type (.int k 0) ht hv rfl rfl g off n d hn (fun j hj => by
      obtain ⟨x, hx⟩ : ∃ x, xs[off + j]? = some x := ⟨_, List.getElem?_eq_getElem (by have := hown.len; omega)⟩
      rw [hown.cellAt hx]; rfl) (fun j hj => hown.frozenAt _)
  unfold Oper.wp execOp
  simp only [ho, resolve, invoke, builtin, Sem.run_bind, Sem.run_pure, Result.andThen_ok, List.map_toArray, List.map_cons, List.map_nil, hs, hrun]
  have e : List.replicate n (Value.int k 0) = ints k (List.replicate n 0) := by simp [ints]
  rw [e]
  exact hK _ _ (h _ (Lib.hid (ownI_setCells _ _ _ _ hown)) (Lib.hid (out_setCells _ _ _)) (Lib.hid (size_setCells _ _ _)))
theorem wpList_copyI {P : Program} {w : World} {ops : Array Oper} {rest : List Oper} {o : Oper} {a : Act} {Q : Exit → Act → World → Prop} (hgd : o.guard = none) (s x : Operand) (t : TypeId)
    (ho : o.op = .call { callee := .builtin .copy, args := #[s, x], argTypes := #[t, t] }) (ht : P.underlying t = some (.slice E)) (hi : (P.info? E).map (·.size) = some 1)
    (xs : List Int) (hown : OwnI k E base w (some ⟨g, 0, none⟩) N c xs) (off n d : Nat) (hs : a.eval s = .slice (some ⟨g, off, none⟩) n d) (ad : Addr) (m e : Nat) (ys : List Int) (hx : a.eval x = .slice (some ad) m e) (hc : Cells w (some ad) (ints k ys)) (hm : ys.length = m) (hnm : m = n) (hfit : off + n ≤ N)
    (h : ∀ w', Hid (OwnI k E base w' (some ⟨g, 0, none⟩) N c (setL xs off ys)) → Hid (Out (fun q => q = g) w w') → Hid (w'.heap.size = w.heap.size) → wpList P ops Q rest (a.put o.dst (goInt n)) w') : wpList P ops Q (o :: rest) a w := by
  subst hnm
  refine wpList_wanted (by simp [Region.wanted, hgd]) fun K hK => ?_
  have hl : (ints k ys).length = m := by rw [ints_length]; exact hm
  have hrun := run_copy_cells (P := P) w t t o.type E g off m d ad m e (ints k ys) ht hi (by rw [hl]; simp) (fun j v hv => by
      obtain ⟨b, o', e1, _, hh⟩ := hc (by intro h0; rw [h0] at hv; simp at hv)
      injection e1 with e1
      subst e1
      rw [add_flat]
      exact hh j v hv) (fun j hj => by
      rw [hl] at hj
      obtain ⟨x, hx⟩ : ∃ x, xs[off + j]? = some x := ⟨_, List.getElem?_eq_getElem (by have := hown.len; omega)⟩
      rw [hown.cellAt hx]; rfl) (fun j hj => hown.frozenAt _) (ints_one k ys)
  rw [hl] at hrun
  unfold Oper.wp execOp
  simp only [ho, resolve, invoke, builtin, Sem.run_bind, Sem.run_pure, Result.andThen_ok, List.map_toArray, List.map_cons, List.map_nil, hs, hx, hrun]
  exact hK _ _ (h _ (Lib.hid (ownI_setCells _ _ _ _ hown)) (Lib.hid (out_setCells _ _ _)) (Lib.hid (size_setCells _ _ _)))
end
end Go.Proofs.Ytjdcglioppbfhaa
namespace Go.Proofs.Ytjdcglioppbfhaa
open Go Go.RowKit
set_option linter.unusedVariables false
set_option linter.unusedSimpArgs false
/-! The lowest byte first. -/
/-- The four bytes of a sum, the lowest first. -/
def le4 (s : Nat) : List Int := [((s % 256 : Nat) : Int), ((s / 256 % 256 : Nat) : Int), ((s / 65536 % 256 : Nat) : Int), ((s / 16777216 % 256 : Nat) : Int)]
theorem byt_le4 (s : Nat) : Byt (le4 s) := by
  intro x hx
  simp only [le4, List.mem_cons, List.mem_nil_iff, or_false] at hx
  rcases hx with rfl | rfl | rfl | rfl <;> omega
theorem le4_inj {s t : Nat} (hs : s < 4294967296) (ht : t < 4294967296) (h : le4 s = le4 t) : s = t := by
  simp only [le4, List.cons.injEq, Int.natCast_inj] at h
  omega
/-- Its bytes the other way round. -/
def revN (s : Nat) : Nat := 16777216 * (s % 256) + 65536 * (s / 256 % 256) + 256 * (s / 65536 % 256) + s / 16777216 % 256
theorem revN_lt (s : Nat) : revN s < 4294967296 := by unfold revN; omega
theorem be_revN (s : Nat) : be (revN s : Int) 4 = le4 s := by
  have e1 : (2 : Int) ^ 24 = 16777216 := by decide
  have e2 : (2 : Int) ^ 16 = 65536 := by decide
  have e3 : (2 : Int) ^ 8 = 256 := by decide
  have e4 : (2 : Int) ^ 0 = 1 := by decide
  show [(revN s : Int) / 2 ^ 24 % 256, (revN s : Int) / 2 ^ 16 % 256, (revN s : Int) / 2 ^ 8 % 256, (revN s : Int) / 2 ^ 0 % 256] = _
  rw [e1, e2, e3, e4]
  unfold le4 revN
  have h0 : s % 256 < 256 := by omega
  have h1 : s / 256 % 256 < 256 := by omega
  have h2 : s / 65536 % 256 < 256 := by omega
  have h3 : s / 16777216 % 256 < 256 := by omega
  generalize s % 256 = b0 at *
  generalize s / 256 % 256 = b1 at *
  generalize s / 65536 % 256 = b2 at *
  generalize s / 16777216 % 256 = b3 at *
  simp only [List.cons.injEq, and_true]
  refine ⟨?_, ?_, ?_, ?_⟩ <;> omega
theorem or_dig (x y : Nat) : x ||| y = (x % 256 ||| y % 256) + 256 * (x / 256 ||| y / 256) := by
  have h1 := Nat.or_mod_two_pow (a := x) (b := y) (n := 8)
  have h2 := Nat.or_div_two_pow (a := x) (b := y) (n := 8)
  have e : 2 ^ 8 = 256 := by decide
  rw [e] at h1 h2
  rw [← h1, ← h2]
  omega
theorem and_dig (x y : Nat) : x &&& y = (x % 256 &&& y % 256) + 256 * (x / 256 &&& y / 256) := by
  have h1 := Nat.and_mod_two_pow (a := x) (b := y) (n := 8)
  have h2 := Nat.and_div_two_pow (a := x) (b := y) (n := 8)
  have e : 2 ^ 8 = 256 := by decide
  rw [e] at h1 h2
  rw [← h1, ← h2]
  omega
theorem and_255 (x : Nat) : x &&& 255 = x % 256 := Nat.and_two_pow_sub_one_eq_mod x 8
/-- Each second byte. -/
theorem and_ff (x : Nat) : x &&& 16711935 = x % 256 + 65536 * (x / 65536 % 256) := by
  rw [and_dig x 16711935, show 16711935 % 256 = 255 by rfl, show 16711935 / 256 = 65280 by rfl, and_dig (x / 256) 65280, show 65280 % 256 = 0 by rfl, show 65280 / 256 = 255 by rfl, and_255, and_255, Nat.and_zero]
  omega
theorem or_two (a0 a1 b0 b1 : Nat) (h1 : a0 < 256) (h2 : a1 < 256) (h3 : b0 < 256) (h4 : b1 < 256) : (a0 + 65536 * a1) ||| (256 * b0 + 16777216 * b1) = a0 + 256 * b0 + 65536 * a1 + 16777216 * b1 := by
  rw [or_dig (a0 + 65536 * a1), show (a0 + 65536 * a1) % 256 = a0 by omega, show (256 * b0 + 16777216 * b1) % 256 = 0 by omega, Nat.or_zero, show (a0 + 65536 * a1) / 256 = 256 * a1 by omega, show (256 * b0 + 16777216 * b1) / 256 = b0 + 65536 * b1 by omega]
  rw [or_dig (256 * a1), show (256 * a1) % 256 = 0 by omega, show (b0 + 65536 * b1) % 256 = b0 by omega, Nat.zero_or, show (256 * a1) / 256 = a1 by omega, show (b0 + 65536 * b1) / 256 = 256 * b1 by omega]
  rw [or_dig a1, show a1 % 256 = a1 by omega, show 256 * b1 % 256 = 0 by omega, Nat.or_zero, show a1 / 256 = 0 by omega, show 256 * b1 / 256 = b1 by omega, Nat.zero_or]
  omega
theorem or_half (a b : Nat) (h1 : a < 65536) (h2 : b < 65536) : a ||| (65536 * b) = a + 65536 * b := by
  have := Nat.two_pow_add_eq_or_of_lt (i := 16) (b := a) (by omega) b
  rw [show 2 ^ 16 = 65536 by rfl] at this
  rw [Nat.or_comm, ← this]; omega
theorem rev_v1 (b0 b1 b2 b3 : Nat) (h0 : b0 < 256) (h1 : b1 < 256) (h2 : b2 < 256) (h3 : b3 < 256) : bits .or .u32 ((b1 : Int) + 65536 * (b3 : Int)) (((b0 : Int) + 65536 * (b2 : Int)) * 256 % 4294967296) = ((b1 + 256 * b0 + 65536 * b3 + 16777216 * b2 : Nat) : Int) := by
  have h := u32_or_nat (b1 + 65536 * b3) (256 * b0 + 16777216 * b2) (by omega) (by omega)
  rw [or_two b1 b3 b0 b2 h1 h3 h0 h2] at h
  rw [← h]
  congr 1
  omega
theorem rev_v2 (b0 b1 b2 b3 : Nat) (h0 : b0 < 256) (h1 : b1 < 256) (h2 : b2 < 256) (h3 : b3 < 256) : bits .or .u32 (((b1 + 256 * b0 + 65536 * b3 + 16777216 * b2 : Nat) : Int) / 65536) (((b1 + 256 * b0 + 65536 * b3 + 16777216 * b2 : Nat) : Int) * 65536 % 4294967296) = ((16777216 * b0 + 65536 * b1 + 256 * b2 + b3 : Nat) : Int) := by
  have h := u32_or_nat (b3 + 256 * b2) (65536 * (b1 + 256 * b0)) (by omega) (by omega)
  rw [or_half _ _ (by omega) (by omega)] at h
  have e1 : (((b1 + 256 * b0 + 65536 * b3 + 16777216 * b2 : Nat) : Int) / 65536) = ((b3 + 256 * b2 : Nat) : Int) := by omega
  have e2 : (((b1 + 256 * b0 + 65536 * b3 + 16777216 * b2 : Nat) : Int) * 65536 % 4294967296) = ((65536 * (b1 + 256 * b0) : Nat) : Int) := by omega
  rw [e1, e2, h]
  omega
set_option maxRecDepth 100000 in
theorem rev_any (s : Nat) (w : World) (hs : s < 4294967296) : Calls Try.prog 27 #[.int .u32 (s : Int)] w fun e w' => e = .returned (.int .u32 ((revN s : Nat) : Int)) ∧ w = w' := by
  obtain ⟨b0, hb0⟩ : ∃ b, b = s % 256 := ⟨_, rfl⟩
  obtain ⟨b1, hb1⟩ : ∃ b, b = s / 256 % 256 := ⟨_, rfl⟩
  obtain ⟨b2, hb2⟩ : ∃ b, b = s / 65536 % 256 := ⟨_, rfl⟩
  obtain ⟨b3, hb3⟩ : ∃ b, b = s / 16777216 % 256 := ⟨_, rfl⟩
  have a1 : bits .and .u32 ((s : Int) / 256) 16711935 = ((b1 + 65536 * b3 : Nat) : Int) := by
    have := u32_and_nat (s / 256) 16711935 (by omega) (by omega)
    rw [and_ff] at this
    rw [show ((s : Int) / 256) = ((s / 256 : Nat) : Int) by omega, show (16711935 : Int) = ((16711935 : Nat) : Int) by rfl, this]
    omega
  have a2 : bits .and .u32 (s : Int) 16711935 = ((b0 + 65536 * b2 : Nat) : Int) := by
    have := u32_and_nat s 16711935 (by omega) (by omega)
    rw [and_ff] at this
    rw [show (16711935 : Int) = ((16711935 : Nat) : Int) by rfl, this]
    omega
  have HR := Lib.hid (show revN s = 16777216 * b0 + 65536 * b1 + 256 * b2 + b3 by unfold revN; omega)
  have H1 := Lib.hid (rev_v1 b0 b1 b2 b3 (by omega) (by omega) (by omega) (by omega))
  have H2 := Lib.hid (rev_v2 b0 b1 b2 b3 (by omega) (by omega) (by omega) (by omega))
  clear hb0 hb1 hb2 hb3
  go_enter Try.func27, Try.ntmps27
  go_wp2_with fail
  go_ret
  refine ⟨ret_i ?_, rfl⟩
  rw [H1.out, H2.out, HR.out]
end Go.Proofs.Ytjdcglioppbfhaa
namespace Go.Proofs.Ytjdcglioppbfhaa
open Go Go.RowKit
set_option linter.unusedVariables false
set_option linter.unusedSimpArgs false
/-! bytes.Clone, bytes.Equal, the numbers, the sum in its place. -/
/-- It answers a row of its own with these bytes. -/
def SlPost (m : Nat) (ys : List Int) (w : World) (e : Ending) (w' : World) : Prop := ∃ A c, e = .returned (.slice A m c) ∧ Hid (OwnI .u8 5 w.heap.size w' A m c ys) ∧ Hid (Up w w')
theorem clone_any (A : Addr) (m c : Nat) (xs : List Int) (w : World) (h : InB w (some A) m c xs) (hm : m ≤ 140737488351232) : Calls Try.prog 26 #[.slice (some A) m c] w (SlPost m xs w) := by
  have qT : ∀ (w : World) (a : Option Addr) (n c n' c' : Nat), (binOp .eql 22 (.slice a n c) (.slice none n' c')).run Try.prog w = .ok (.bool a.isNone) w := fun w a n c n' c' => Lib.run_eql_slice_nil w _ _ a n c n' c' Try.underlying22
  have H := Lib.hid h
  clear h
  go_enter Try.func26, Try.ntmps26
  go_wp2_with (at_builtin; refine wpList_appendI rfl (.tmp 5) (.tmp 6) 22 rfl .u8 w.heap.size 5 1 Try.underlying22 info5 (some ⟨w.heap.size, 0, none⟩) 0 0 [] rfl (ownI_new _ _ _) (some A) m c xs rfl H.out.len (H.out.cells.alloc _) (by omega) (by omega) (by simp) ((Below.refl _ _).alloc (Nat.le_refl _) _) ?_; intro A6 N6 c6 w6 HN6 HW6 HB6 hsz6)
  have hN : N6 = m := by have := HN6.out; omega
  subst hN
  go_ret
  exact ⟨A6, c6, rfl, Lib.hid (by have := HW6.out; rw [List.nil_append] at this; exact this), Lib.hid HB6.out⟩
theorem equal_any (A B : Option Addr) (n c m d : Nat) (xs ys : List Int) (w : World) (ha : InB w A n c xs) (hb : InB w B m d ys) : Calls Try.prog 14 #[.slice A n c, .slice B m d] w (RetS (decide (xs = ys)) w) := by
  have h1 := conv_up ha (Up.refl w)
  have h2 := conv_up hb (Up.refl w)
  have HA := Lib.hid ha.byt
  have HB := Lib.hid hb.byt
  clear ha hb
  go_enter Try.func14, Try.ntmps14
  go_wp2_with fail
  go_ret
  exact ⟨by rw [← str_eq HA.out HB.out]; rfl, rfl⟩
theorem num_02 (A : Option Addr) (m c : Nat) (xs : List Int) (w : World) (h : InB w A m c xs) (hm : m ≤ 140737488351232) (h12 : 12 ≤ m) : Calls Try.prog 17 #[.slice A m c, .int .i64 0, .int .i64 2] w fun e w' => e = .returned (.int .u64 (num 0 ((xs.drop 0).take 2))) ∧ w = w' := by
  have H := Lib.hid h
  clear h
  go_enter Try.func17, Try.ntmps17
  go_wp2_with fail
  refine (get_any A m c 0 2 xs w H.out (by omega) (by omega) (by omega) (by omega)).mono ?_
  rintro e w1 ⟨rfl, rfl⟩
  go_wp2_with fail
  go_ret
  exact ⟨rfl, rfl⟩
theorem num_24 (A : Option Addr) (m c : Nat) (xs : List Int) (w : World) (h : InB w A m c xs) (hm : m ≤ 140737488351232) (h12 : 12 ≤ m) : Calls Try.prog 17 #[.slice A m c, .int .i64 2, .int .i64 4] w fun e w' => e = .returned (.int .u64 (num 0 ((xs.drop 2).take 2))) ∧ w = w' := by
  have H := Lib.hid h
  clear h
  go_enter Try.func17, Try.ntmps17
  go_wp2_with fail
  refine (get_any A m c 2 2 xs w H.out (by omega) (by omega) (by omega) (by omega)).mono ?_
  rintro e w1 ⟨rfl, rfl⟩
  go_wp2_with fail
  go_ret
  exact ⟨rfl, rfl⟩
theorem num_48 (A : Option Addr) (m c : Nat) (xs : List Int) (w : World) (h : InB w A m c xs) (hm : m ≤ 140737488351232) (h12 : 12 ≤ m) : Calls Try.prog 17 #[.slice A m c, .int .i64 4, .int .i64 8] w fun e w' => e = .returned (.int .u64 (num 0 ((xs.drop 4).take 4))) ∧ w = w' := by
  have H := Lib.hid h
  clear h
  go_enter Try.func17, Try.ntmps17
  go_wp2_with fail
  refine (get_any A m c 4 4 xs w H.out (by omega) (by omega) (by omega) (by omega)).mono ?_
  rintro e w1 ⟨rfl, rfl⟩
  go_wp2_with fail
  go_ret
  exact ⟨rfl, rfl⟩
namespace Pk
/-- Four bytes 0 in the sum's place. -/
def zer (xs : List Int) : List Int := xs.take 8 ++ ([0, 0, 0, 0] ++ xs.drop 12)
/-- The sum that bytes should have. -/
def sumOf (xs : List Int) : Nat := Crc.more 0 (nats (zer xs))
/-- With their sum. -/
def sealP (xs : List Int) : List Int := xs.take 8 ++ (le4 (sumOf xs) ++ xs.drop 12)
end Pk
theorem byt_zer {xs : List Int} (h : Byt xs) : Byt (Pk.zer xs) := (h.take 8).append ((show Byt [0, 0, 0, 0] by intro x hx; simp at hx; omega).append (h.drop 12))
theorem byt_sealP {xs : List Int} (h : Byt xs) : Byt (Pk.sealP xs) := (h.take 8).append ((byt_le4 _).append (h.drop 12))
theorem zer_length {xs : List Int} (h : 12 ≤ xs.length) : (Pk.zer xs).length = xs.length := by simp [Pk.zer]; omega
theorem sealP_length {xs : List Int} (h : 12 ≤ xs.length) : (Pk.sealP xs).length = xs.length := by simp [Pk.sealP, le4]; omega
theorem sumOf_lt {xs : List Int} (h : Byt xs) : Pk.sumOf xs < 4294967296 := Crc.more_lt (by omega) (nats_lt (byt_zer h))
theorem setL_zer {xs : List Int} (h : 12 ≤ xs.length) : setL xs 8 (List.replicate 4 0) = Pk.zer xs := setL_cut xs (List.replicate 4 0) 8 (by simpa using h)
theorem setL_sealP {xs : List Int} (h : 12 ≤ xs.length) : setL (Pk.zer xs) 8 (le4 (Pk.sumOf xs)) = Pk.sealP xs := by
  have h1 : (xs.take 8).length = 8 := by simp; omega
  rw [setL_cut _ _ _ (by rw [zer_length h]; exact h)]
  unfold Pk.sealP Pk.zer
  rw [List.take_left' h1]
  congr 2
  show (List.take 8 xs ++ ([0, 0, 0, 0] ++ List.drop 12 xs)).drop 12 = _
  rw [← List.append_assoc]
  exact List.drop_left' (by simp; omega)
theorem size5 : (Try.prog.info? 5).map (·.size) = some 1 := by kernel_rfl
theorem zero5 (w : World) : (zeroValue 5).run Try.prog w = .ok (.int .u8 0) w := by kernel_rfl
set_option maxRecDepth 100000 in
theorem sealed_any (A : Addr) (m c : Nat) (xs : List Int) (w : World) (h : InB w (some A) m c xs) (hm : m ≤ 140737488351232) (h12 : 12 ≤ m) : Calls Try.prog 15 #[.slice (some A) m c] w (SlPost m (Pk.sealP xs) w) := by
  have H := Lib.hid h
  have HL := Lib.hid h.len
  have HB := Lib.hid h.byt
  clear h
  go_enter Try.func15, Try.ntmps15
  go_wp2_with fail
  refine (clone_any A m c xs w H.out hm).mono ?_
  rintro e w1 ⟨A1, c1, rfl, hO, hU⟩
  obtain ⟨g, rfl, hg, hgw⟩ := hO.out.at_ (by omega)
  have hc1 := hO.out.cap
  obtain ⟨k, rfl⟩ : ∃ k, c1 = k + 12 := ⟨c1 - 12, by omega⟩
  have hclr := Lib.run_clear_slice (P := Try.prog) w1 22 5 0 (.int .u8 0) Try.underlying22 zero5 rfl rfl g 8 4 (k + 4) (by omega) (fun j hj => by
      obtain ⟨x, hx⟩ : ∃ x, xs[8 + j]? = some x := ⟨_, List.getElem?_eq_getElem (by have := hO.out.len; omega)⟩
      rw [hO.out.cellAt hx]; rfl) (fun j hj => hO.out.frozenAt _)
  have HO2 := Lib.hid (show OwnI .u8 5 w.heap.size (w1.setCells g 8 (List.replicate 4 (.int .u8 0))) (some ⟨g, 0, none⟩) m (k + 12) (Pk.zer xs) from by
    have := ownI_setCells (List.replicate 4 0) 8 w1 xs hO.out
    rw [setL_zer (by rw [HL.out]; exact h12)] at this
    exact this)
  have HU2 := Lib.hid (show Up w (w1.setCells g 8 (List.replicate 4 (.int .u8 0))) from Below.out hU.out (out_setCells _ _ _) (fun q hq => by rw [hq]; exact hg) hU.out.size)
  have HS2 := Lib.hid (size_setCells (g := g) (List.replicate 4 (.int .u8 0)) 8 w1)
  generalize w1.setCells g 8 (List.replicate 4 (.int .u8 0)) = w2 at hclr HO2 HU2 HS2
  go_wp2_with fail
  clear hclr
  refine (sum_c (some ⟨g, 0, none⟩) m (k + 12) (Pk.zer xs) w2 (own_inB HO2.out (byt_zer HB.out)) (by omega)).mono ?_
  rintro e w3 ⟨rfl, hu3⟩
  have HSU := Lib.hid (show Pk.sumOf xs = Crc.more 0 (nats (Pk.zer xs)) from rfl)
  rw [← HSU.out]
  clear HSU
  have HO3 := Lib.hid (own_up HO2.out hu3)
  have HU3 := Lib.hid (HU2.out.trans hu3)
  have HS3 := Lib.hid hu3.size
  clear hu3 HO2
  go_wp2_with fail
  refine (rev_any (Pk.sumOf xs) w3 (sumOf_lt HB.out)).mono ?_
  rintro e w4 ⟨rfl, rfl⟩
  have hrl := revN_lt (Pk.sumOf xs)
  have HBE := Lib.hid (be_revN (Pk.sumOf xs))
  go_wp2_with fail
  refine (put_any none 0 0 4 [] (revN (Pk.sumOf xs) : Int) w3 (inB_nil w3) (by omega) (by omega) (by omega)).mono ?_
  rintro e w5 ⟨A9, N9, c9, rfl, hN9, hO9, hu9⟩
  have hN : N9 = 4 := by rw [hN9]; simp [be_length]
  subst hN
  rw [List.nil_append, HBE.out] at hO9
  obtain ⟨g9, rfl, hg9, hgw9⟩ := hO9.at_ (by omega)
  have HO9 := Lib.hid hO9
  have HO5 := Lib.hid (show OwnI .u8 5 w.heap.size w5 (some ⟨g, 0, none⟩) m (k + 12) (Pk.zer xs) from own_up HO3.out hu9)
  have HU5 := Lib.hid (HU3.out.trans hu9)
  clear hO9 hu9 hN9 HO3
  go_wp2_with (with_reducible refine wpList_copyI rfl (.tmp 14) (.tmp 19) 22 rfl Try.underlying22 size5 (Pk.zer xs) HO5.out 8 4 (k + 4) rfl ⟨g9, 0, none⟩ 4 c9 (le4 (Pk.sumOf xs)) rfl HO9.out.cells rfl rfl (by omega) ?_; intro w6 HO6 HX6 HS6)
  go_ret
  refine ⟨_, _, rfl, Lib.hid ?_, Lib.hid (Below.out HU5.out HX6.out (fun q hq => by rw [hq]; exact hg) HU5.out.size)⟩
  rw [← setL_sealP (by rw [HL.out]; exact h12)]
  exact HO6.out
end Go.Proofs.Ytjdcglioppbfhaa
