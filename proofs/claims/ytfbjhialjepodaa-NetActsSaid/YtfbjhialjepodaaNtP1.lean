import Derived.Test.YtfbjhialjepodaaNtRef5
import Derived.Deep.QuietTactic
import Derived.BigQuiet
namespace Go.Proofs.Ytfbjhialjepodaa
open Go Go.RowKit
set_option linter.unusedVariables false
/-! The landed net: its small calls. -/
def netBlk (m : Nat) (h : Int) (A : Option Addr) (n c : Nat) : Array Value := #[.int .i64 h, .slice A n c, .map (some m)]
theorem netBlk_way (m : Nat) (h : Int) (A A' : Option Addr) (n c n' c' : Nat) : (netBlk m h A n c).setIfInBounds 1 (.slice A' n' c') = netBlk m h A' n' c' := rfl
set_option maxRecDepth 100000 in
theorem full_t (b n c : Nat) (A : Option Addr) (w : World) (hc : w.cell? ⟨b, 1, none⟩ = some (.slice A n c)) (h : 1024 ≤ n) :
    Calls Try.prog 29 #[.pointer (some ⟨b, 0, none⟩)] w fun e w' => e = .returned (.bool true) ∧ w' = w := by
  go_enter Try.func29, Try.ntmps29
  go_wp2_with fail
  go_ret
  exact ⟨by simp; omega, rfl⟩
set_option maxRecDepth 100000 in
theorem full_f (b n c : Nat) (A : Option Addr) (w : World) (hc : w.cell? ⟨b, 1, none⟩ = some (.slice A n c)) (h : n < 1024) :
    Calls Try.prog 29 #[.pointer (some ⟨b, 0, none⟩)] w fun e w' => e = .returned (.bool false) ∧ w' = w := by
  go_enter Try.func29, Try.ntmps29
  go_wp2_with fail
  go_ret
  exact ⟨by simp; omega, rfl⟩
set_option maxRecDepth 100000 in
theorem find_in (b n c k : Nat) (A : Option Addr) (w : World) (hc : w.cell? ⟨b, 1, none⟩ = some (.slice A n c)) (hn : n ≤ 1024) (h : k < n) :
    Calls Try.prog 33 #[.pointer (some ⟨b, 0, none⟩), .int .i64 (k : Int)] w fun e w' => e = .returned (.int .i64 0) ∧ w' = w := by
  go_enter Try.func33, Try.ntmps33
  go_wp2_with fail
  go_ret
  exact ⟨rfl, rfl⟩
set_option maxRecDepth 100000 in
theorem find_lo (b n c : Nat) (k : Int) (A : Option Addr) (w : World) (hc : w.cell? ⟨b, 1, none⟩ = some (.slice A n c)) (hn : n ≤ 1024) (h : k < 0) :
    Calls Try.prog 33 #[.pointer (some ⟨b, 0, none⟩), .int .i64 k] w fun e w' => e = .returned (.int .i64 8) ∧ w' = w := by
  go_enter Try.func33, Try.ntmps33
  go_wp2_with fail
  go_ret
  exact ⟨rfl, rfl⟩
set_option maxRecDepth 100000 in
theorem find_hi (b n c k : Nat) (A : Option Addr) (w : World) (hc : w.cell? ⟨b, 1, none⟩ = some (.slice A n c)) (hn : n ≤ 1024) (h : n ≤ k) :
    Calls Try.prog 33 #[.pointer (some ⟨b, 0, none⟩), .int .i64 (k : Int)] w fun e w' => e = .returned (.int .i64 8) ∧ w' = w := by
  go_enter Try.func33, Try.ntmps33
  go_wp2_with fail
  go_ret
  exact ⟨rfl, rfl⟩
theorem find_out (b n c : Nat) (k : Int) (A : Option Addr) (w : World) (hc : w.cell? ⟨b, 1, none⟩ = some (.slice A n c)) (hn : n ≤ 1024) (h : ¬ (0 ≤ k ∧ k < n)) :
    Calls Try.prog 33 #[.pointer (some ⟨b, 0, none⟩), .int .i64 k] w fun e w' => e = .returned (.int .i64 8) ∧ w' = w := by
  by_cases h0 : k < 0
  · exact find_lo b n c k A w hc hn h0
  · obtain ⟨j, rfl⟩ : ∃ j : Nat, k = j := ⟨k.toNat, by omega⟩
    exact find_hi b n c j A w hc hn (by omega)
set_option maxRecDepth 100000 in
theorem find_nil (k : Int) (w : World) : Calls Try.prog 33 #[.pointer none, .int .i64 k] w fun e w' => e = .returned (.int .i64 1) ∧ w' = w := by
  go_enter Try.func33, Try.ntmps33
  go_wp2_with fail
  go_ret
  exact ⟨rfl, rfl⟩
set_option maxRecDepth 100000 in
theorem len_p (b n c : Nat) (A : Option Addr) (w : World) (hc : w.cell? ⟨b, 1, none⟩ = some (.slice A n c)) (hn : n ≤ 1024) :
    Calls Try.prog 14 #[.pointer (some ⟨b, 0, none⟩)] w fun e w' => e = .returned (.int .i64 (n : Int)) ∧ w' = w := by
  go_enter Try.func14, Try.ntmps14
  go_wp2_with fail
  go_ret
  exact ⟨rfl, rfl⟩
set_option maxRecDepth 100000 in
theorem len_nil (w : World) : Calls Try.prog 14 #[.pointer none] w fun e w' => e = .returned (.int .i64 0) ∧ Up w w' := by
  go_enter Try.func14, Try.ntmps14
  go_wp2_with fail
  go_ret
  exact ⟨rfl, Up.refl w⟩
/-- 'bytes.Clone'. -/
theorem clone_ok (A : Option Addr) (n c : Nat) (bs : List Int) (w : World) (h : InB w A n c bs) (hn : n ≤ 140737488351232) :
    Calls Try.prog 30 #[.slice A n c] w fun e w' => ∃ A' c', e = .returned (.slice A' n c') ∧ OwnI .u8 5 w.heap.size w' A' n c' bs ∧ Up w w' := by
  have HI := Lib.hid h
  clear h
  by_cases hA : A = none
  · subst hA
    have h0 : n = 0 ∧ bs = [] := by
      by_cases hb : bs = []
      · exact ⟨by have := HI.out.len; rw [hb] at this; simpa using this.symm, hb⟩
      · obtain ⟨b, o, e, _⟩ := HI.out.cells (by intro e; apply hb; have := congrArg List.length e; rw [ints_length] at this; exact List.eq_nil_of_length_eq_zero this)
        cases e
    obtain ⟨rfl, rfl⟩ := h0
    have he : ∀ w, (binOp .eql 38 (.slice none 0 c) (.slice none 0 0)).run Try.prog w = .ok (.bool true) w := fun w => Lib.run_eql_slice_nil w 38 5 none 0 c 0 0 Try.underlying38
    go_enter Try.func30, Try.ntmps30
    go_wp2_with fail
    go_ret
    exact ⟨none, 0, rfl, ownI_nil _ _ _ _, Up.refl w⟩
  · obtain ⟨a, rfl⟩ : ∃ a, A = some a := by cases A with | none => exact absurd rfl hA | some a => exact ⟨a, rfl⟩
    clear hA
    have he : ∀ w, (binOp .eql 38 (.slice (some a) n c) (.slice none 0 0)).run Try.prog w = .ok (.bool false) w := fun w => Lib.run_eql_slice_nil w 38 5 (some a) n c 0 0 Try.underlying38
    go_enter Try.func30, Try.ntmps30
    go_wp2_with (at_builtin; refine wpList_appendI rfl (.tmp 5) (.tmp 6) 38 rfl .u8 w.heap.size 5 1 Try.underlying38 info5t (some ⟨w.heap.size, 0, none⟩) 0 0 [] rfl (ownI_new _ _ _) (some a) n c bs rfl HI.out.len (HI.out.cells.alloc _) (by omega) (by omega) (by simp) ((Below.refl _ _).alloc (Nat.le_refl _) _) ?_; intro A3 N3 c3 w3 HN3 HW3 HU3 hsz3)
    go_ret
    have hN := HN3.out
    rw [Nat.zero_add] at hN
    subst hN
    exact ⟨A3, c3, rfl, HW3.out, HU3.out⟩
end Go.Proofs.Ytfbjhialjepodaa
namespace Go.Proofs.Ytfbjhialjepodaa
open Go Go.RowKit
set_option linter.unusedVariables false
def okB (h : Int) (a : Int × Int) : Bool := decide ((0 ≤ a.1 ∧ a.1 < h) ∧ 0 ≤ a.2 ∧ a.2 < 2)
set_option maxRecDepth 100000 in
/-- The closure of apart: nb is the block of the variable n. -/
theorem valid_cl (a : Int × Int) (h : Int) (b nb : Nat) (w : World) (hn : w.cell? ⟨nb, 0, none⟩ = some (.pointer (some ⟨b, 0, none⟩))) (hc : w.cell? ⟨b, 0, none⟩ = some (.int .i64 h)) :
    Calls Try.prog 37 #[adV a, .pointer (some ⟨nb, 0, none⟩)] w fun e w' => e = .returned (.bool (okB h a)) ∧ Up w w' := by
  obtain ⟨x, y⟩ := a
  have hlb := cell_lt hc
  have hln := cell_lt hn
  simp only at hlb hln
  unfold adV
  by_cases h1 : 0 ≤ x
  · have d1 : decide (0 ≤ x) = true := decide_eq_true h1
    by_cases h2 : x < h
    · have d2 : decide (x < h) = true := decide_eq_true h2
      by_cases h3 : 0 ≤ y
      · have d3 : decide (0 ≤ y) = true := decide_eq_true h3
        by_cases h4 : y < 2
        · have d4 : decide (y < 2) = true := decide_eq_true h4
          have E := Lib.hid (show okB h (x, y) = true from decide_eq_true ⟨⟨h1, h2⟩, h3, h4⟩)
          go_enter Try.func37, Try.ntmps37
          go_upto_region 1 with (fail)
          have c1 := cell_up hn (up_alloc w (.cells #[.int .i64 x, .int .i64 y] 37))
          have c2 := cell_up hc (up_alloc w (.cells #[.int .i64 x, .int .i64 y] 37))
          go_quiet (fail)
          go_wp2_with fail
          go_ret
          rw [E.out]
          exact ⟨rfl, (up_alloc w _).trans (up_drewN _ _)⟩
        · have d4 : decide (y < 2) = false := decide_eq_false h4
          have E := Lib.hid (show okB h (x, y) = false from decide_eq_false (by intro hh; simp only at hh; omega))
          clear h4
          go_enter Try.func37, Try.ntmps37
          go_upto_region 1 with (fail)
          have c1 := cell_up hn (up_alloc w (.cells #[.int .i64 x, .int .i64 y] 37))
          have c2 := cell_up hc (up_alloc w (.cells #[.int .i64 x, .int .i64 y] 37))
          go_quiet (fail)
          go_wp2_with fail
          go_ret
          rw [E.out]
          exact ⟨rfl, (up_alloc w _).trans (up_drewN _ _)⟩
      · have d3 : decide (0 ≤ y) = false := decide_eq_false h3
        have E := Lib.hid (show okB h (x, y) = false from decide_eq_false (by intro hh; simp only at hh; omega))
        clear h3
        go_enter Try.func37, Try.ntmps37
        go_upto_region 1 with (fail)
        have c1 := cell_up hn (up_alloc w (.cells #[.int .i64 x, .int .i64 y] 37))
        have c2 := cell_up hc (up_alloc w (.cells #[.int .i64 x, .int .i64 y] 37))
        go_quiet (fail)
        go_wp2_with fail
        go_ret
        rw [E.out]
        exact ⟨rfl, (up_alloc w _).trans (up_drewN _ _)⟩
    · have d2 : decide (x < h) = false := decide_eq_false h2
      have E := Lib.hid (show okB h (x, y) = false from decide_eq_false (by intro hh; simp only at hh; omega))
      clear h2
      go_enter Try.func37, Try.ntmps37
      go_upto_region 1 with (fail)
      have c1 := cell_up hn (up_alloc w (.cells #[.int .i64 x, .int .i64 y] 37))
      have c2 := cell_up hc (up_alloc w (.cells #[.int .i64 x, .int .i64 y] 37))
      go_quiet (fail)
      go_wp2_with fail
      go_ret
      rw [E.out]
      exact ⟨rfl, (up_alloc w _).trans (up_drewN _ _)⟩
  · have d1 : decide (0 ≤ x) = false := decide_eq_false h1
    have E := Lib.hid (show okB h (x, y) = false from decide_eq_false (by intro hh; simp only at hh; omega))
    clear h1
    go_enter Try.func37, Try.ntmps37
    go_upto_region 1 with (fail)
    have c1 := cell_up hn (up_alloc w (.cells #[.int .i64 x, .int .i64 y] 37))
    have c2 := cell_up hc (up_alloc w (.cells #[.int .i64 x, .int .i64 y] 37))
    go_quiet (fail)
    go_wp2_with fail
    go_ret
    rw [E.out]
    exact ⟨rfl, (up_alloc w _).trans (up_drewN _ _)⟩
end Go.Proofs.Ytfbjhialjepodaa
namespace Go.Proofs.Ytfbjhialjepodaa
open Go Go.RowKit
set_option linter.unusedVariables false
def apB (h : Int) (a b : Int × Int) : Bool := decide (okB h a = true ∧ okB h b = true ∧ a.1 ≠ b.1)
theorem apB_spec (st : Nt.St) (a b : Int × Int) : (apB st.hosts a b = true) ↔ (Nt.okA st a ∧ Nt.okA st b ∧ a.1 ≠ b.1) := by
  unfold apB okB Nt.okA
  simp only [decide_eq_true_eq]
set_option maxRecDepth 100000 in
set_option maxHeartbeats 1000000 in
theorem apart_ok (b : Nat) (h : Int) (x y : Int × Int) (w : World) (hc : w.cell? ⟨b, 0, none⟩ = some (.int .i64 h)) :
    Calls Try.prog 28 #[.pointer (some ⟨b, 0, none⟩), adV x, adV y] w fun e w' => e = .returned (.bool (apB h x y)) ∧ Up w w' := by
  have hlb := cell_lt hc
  simp only at hlb
  have hmf : ∀ (fn : Fn) (first cap : Array Value) (w : World), (Instr.makeFunc fn first cap).run Try.prog w = .ok (.func fn first cap) w := fun _ _ _ _ => rfl
  obtain ⟨W, hW⟩ : ∃ W, W = ((w.alloc (.cells #[.pointer (some ⟨b, 0, none⟩)] 23)).alloc (.cells #[.int .i64 x.1, .int .i64 x.2] 37)).alloc (.cells #[.int .i64 y.1, .int .i64 y.2] 37) := ⟨_, rfl⟩
  have u1 := up_alloc w (.cells #[.pointer (some ⟨b, 0, none⟩)] 23)
  have u2 := up_alloc (w.alloc (.cells #[.pointer (some ⟨b, 0, none⟩)] 23)) (.cells #[.int .i64 x.1, .int .i64 x.2] 37)
  have u3 := up_alloc ((w.alloc (.cells #[.pointer (some ⟨b, 0, none⟩)] 23)).alloc (.cells #[.int .i64 x.1, .int .i64 x.2] 37)) (.cells #[.int .i64 y.1, .int .i64 y.2] 37)
  have n1 := cell_up (cell_up (cell_of (new_at w (.cells #[.pointer (some ⟨b, 0, none⟩)] 23)) (j := 0) rfl) u2) u3
  have a1 := new_at (w.alloc (.cells #[.pointer (some ⟨b, 0, none⟩)] 23)) (.cells #[.int .i64 x.1, .int .i64 x.2] 37)
  have a1c := cell_up (cell_of a1 (j := 0) rfl) u3
  have a2c := cell_up (cell_of a1 (j := 1) rfl) u3
  have b1 := new_at ((w.alloc (.cells #[.pointer (some ⟨b, 0, none⟩)] 23)).alloc (.cells #[.int .i64 x.1, .int .i64 x.2] 37)) (.cells #[.int .i64 y.1, .int .i64 y.2] 37)
  have b1c := cell_of b1 (j := 0) rfl
  have b2c := cell_of b1 (j := 1) rfl
  have c1 := cell_up (cell_up (cell_up hc u1) u2) u3
  have U := Lib.hid ((u1.trans u2).trans u3)
  rw [← hW] at n1 a1c a2c b1c b2c c1 U
  clear u1 u2 u3 a1 b1
  have s1 : (w.alloc (.cells #[.pointer (some ⟨b, 0, none⟩)] 23)).heap.size = w.heap.size + 1 := by simp
  have s2 : ((w.alloc (.cells #[.pointer (some ⟨b, 0, none⟩)] 23)).alloc (.cells #[.int .i64 x.1, .int .i64 x.2] 37)).heap.size = w.heap.size + 1 + 1 := by simp
  rw [s1] at a1c a2c
  rw [s2] at b1c b2c
  clear s1 s2
  have HW := Lib.hid hW
  clear hW
  by_cases hx : okB h x = true
  · have hx' : okB h (x.1, x.2) = true := hx
    by_cases hy : okB h y = true
    · have hy' : okB h (y.1, y.2) = true := hy
      by_cases hne : x.1 = y.1
      · have E := Lib.hid (show apB h x y = false from decide_eq_false (fun hh => hh.2.2 hne))
        have E1 := Lib.hid (show ((x.1 == y.1) : Bool) = true by simpa using hne)
        clear hne
        clear hx hy
        unfold adV
        go_enter Try.func28, Try.ntmps28
        go_upto_region 1 with (fail)
        rw [← HW.out]
        go_wp2_with fail
        refine (valid_cl (x.1, x.2) h b w.heap.size W n1 c1).mono ?_
        rintro e w1 ⟨rfl, v1⟩
        have n2 := cell_up n1 v1
        have a3 := cell_up a1c v1
        have b3 := cell_up b1c v1
        have b4 := cell_up b2c v1
        have c2 := cell_up c1 v1
        have V1 := Lib.hid v1
        clear v1
        rw [hx']
        go_wp2_with fail
        refine (valid_cl (y.1, y.2) h b w.heap.size w1 n2 c2).mono ?_
        rintro e w2 ⟨rfl, v2⟩
        have a4 := cell_up a3 v2
        have b5 := cell_up b3 v2
        have V2 := Lib.hid v2
        clear v2
        rw [hy']
        go_wp2_with fail
        go_ret
        rw [E.out]
        exact ⟨by simp; simpa using E1.out, (U.out.trans V1.out).trans V2.out⟩
      · have E := Lib.hid (show apB h x y = true from decide_eq_true ⟨hx, hy, hne⟩)
        have E1 := Lib.hid (show ((x.1 == y.1) : Bool) = false by simpa using hne)
        clear hne
        clear hx hy
        unfold adV
        go_enter Try.func28, Try.ntmps28
        go_upto_region 1 with (fail)
        rw [← HW.out]
        go_wp2_with fail
        refine (valid_cl (x.1, x.2) h b w.heap.size W n1 c1).mono ?_
        rintro e w1 ⟨rfl, v1⟩
        have n2 := cell_up n1 v1
        have a3 := cell_up a1c v1
        have b3 := cell_up b1c v1
        have b4 := cell_up b2c v1
        have c2 := cell_up c1 v1
        have V1 := Lib.hid v1
        clear v1
        rw [hx']
        go_wp2_with fail
        refine (valid_cl (y.1, y.2) h b w.heap.size w1 n2 c2).mono ?_
        rintro e w2 ⟨rfl, v2⟩
        have a4 := cell_up a3 v2
        have b5 := cell_up b3 v2
        have V2 := Lib.hid v2
        clear v2
        rw [hy']
        go_wp2_with fail
        go_ret
        rw [E.out]
        exact ⟨by simp; simpa using E1.out, (U.out.trans V1.out).trans V2.out⟩
    · have hy' : okB h (y.1, y.2) = false := by simpa using hy
      have E := Lib.hid (show apB h x y = false from decide_eq_false (fun hh => hy hh.2.1))
      clear hx hy
      unfold adV
      go_enter Try.func28, Try.ntmps28
      go_upto_region 1 with (fail)
      rw [← HW.out]
      go_wp2_with fail
      refine (valid_cl (x.1, x.2) h b w.heap.size W n1 c1).mono ?_
      rintro e w1 ⟨rfl, v1⟩
      have n2 := cell_up n1 v1
      have a3 := cell_up a1c v1
      have b3 := cell_up b1c v1
      have b4 := cell_up b2c v1
      have c2 := cell_up c1 v1
      have V1 := Lib.hid v1
      clear v1
      rw [hx']
      go_wp2_with fail
      refine (valid_cl (y.1, y.2) h b w.heap.size w1 n2 c2).mono ?_
      rintro e w2 ⟨rfl, v2⟩
      have a4 := cell_up a3 v2
      have b5 := cell_up b3 v2
      have V2 := Lib.hid v2
      clear v2
      rw [hy']
      go_wp2_with fail
      go_ret
      rw [E.out]
      exact ⟨rfl, (U.out.trans V1.out).trans V2.out⟩
  · have hx' : okB h (x.1, x.2) = false := by simpa using hx
    have E := Lib.hid (show apB h x y = false from decide_eq_false (fun hh => hx hh.1))
    clear hx
    unfold adV
    go_enter Try.func28, Try.ntmps28
    go_upto_region 1 with (fail)
    rw [← HW.out]
    go_wp2_with fail
    refine (valid_cl (x.1, x.2) h b w.heap.size W n1 c1).mono ?_
    rintro e w1 ⟨rfl, v1⟩
    have V1 := Lib.hid v1
    clear v1
    rw [hx']
    go_wp2_with fail
    go_ret
    rw [E.out]
    exact ⟨rfl, U.out.trans V1.out⟩
end Go.Proofs.Ytfbjhialjepodaa
