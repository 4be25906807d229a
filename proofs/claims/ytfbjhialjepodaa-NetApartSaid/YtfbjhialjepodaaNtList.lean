import Derived.Test.YtfbjhialjepodaaNtErr
namespace Go.Proofs.Ytfbjhialjepodaa
open Go Go.RowKit
set_option linter.unusedVariables false
theorem rowc_cons (x : FrB) (l : List FrB) : rowc (x :: l) = frc x ++ rowc l := by simp [rowc]
theorem set6 (a d : List Value) (u0 u1 u2 u3 u4 u5 v0 v1 v2 v3 v4 v5 : Value) (m : Nat) (h : a.length = m) :
    ((((((a ++ ([u0, u1, u2, u3, u4, u5] ++ d)).set m v0).set (m + 1) v1).set (m + 2) v2).set (m + 3) v3).set (m + 4) v4).set (m + 5) v5 = a ++ ([v0, v1, v2, v3, v4, v5] ++ d) := by
  subst h
  have hs : ∀ (b : List Value) (j : Nat) (v : Value), (a ++ b).set (a.length + j) v = a ++ b.set j v := fun b j v => by rw [List.set_append_right _ _ (by omega), Nat.add_sub_cancel_left]
  have h0 : ∀ (b : List Value) (v : Value), (a ++ b).set a.length v = a ++ b.set 0 v := fun b v => by have := hs b 0 v; rwa [Nat.add_zero] at this
  rw [h0, hs, hs, hs, hs, hs]
  rfl
theorem rowc_set6 {k : Nat} {x y : FrB} {l1 l2 : List FrB} (hk : l1.length = k) :
    (((((((rowc (l1 ++ x :: l2)).set (k * 6) (.int .i64 y.f.fh)).set (k * 6 + 1) (.int .i64 y.f.fp)).set (k * 6 + 2) (.int .i64 y.f.th)).set (k * 6 + 3) (.int .i64 y.f.tp)).set (k * 6 + 4) (.slice y.A y.f.bytes.length y.c)).set (k * 6 + 5) (.bool y.f.tn)) = rowc (l1 ++ y :: l2) := by
  rw [rowc_append, rowc_append, rowc_cons, rowc_cons]
  exact set6 (rowc l1) (rowc l2) _ _ _ _ _ _ _ _ _ _ _ _ (k * 6) (by rw [rowc_length, hk])
/-- A frame of a row is stored anew. -/
theorem own_setFrame {w : World} {base n c g k : Nat} {x y : FrB} {l1 l2 : List FrB} (h : w.ownsRow base 46 6 (.slice (some ⟨g, 0, none⟩) n c) n (rowc (l1 ++ x :: l2))) (hk : l1.length = k) :
    ((((((w.setCell ⟨g, k * 6, none⟩ (.int .i64 y.f.fh)).setCell ⟨g, k * 6 + 1, none⟩ (.int .i64 y.f.fp)).setCell ⟨g, k * 6 + 2, none⟩ (.int .i64 y.f.th)).setCell ⟨g, k * 6 + 3, none⟩ (.int .i64 y.f.tp)).setCell ⟨g, k * 6 + 4, none⟩ (.slice y.A y.f.bytes.length y.c)).setCell ⟨g, k * 6 + 5, none⟩ (.bool y.f.tn)).ownsRow base 46 6 (.slice (some ⟨g, 0, none⟩) n c) n (rowc (l1 ++ y :: l2)) := by
  have h1 := (World.ownsRow.stored h (k * 6) (.int .i64 y.f.fh)).1
  have h2 := (World.ownsRow.stored h1 (k * 6 + 1) (.int .i64 y.f.fp)).1
  have h3 := (World.ownsRow.stored h2 (k * 6 + 2) (.int .i64 y.f.th)).1
  have h4 := (World.ownsRow.stored h3 (k * 6 + 3) (.int .i64 y.f.tp)).1
  have h5 := (World.ownsRow.stored h4 (k * 6 + 4) (.slice y.A y.f.bytes.length y.c)).1
  have h6 := (World.ownsRow.stored h5 (k * 6 + 5) (.bool y.f.tn)).1
  have e := rowc_set6 (x := x) (y := y) (l2 := l2) hk
  rw [e] at h6
  exact h6
/-- The list so far. -/
def LsS (w0 : World) (g n c : Nat) (l : List FrB) (k : Nat) (w : World) : Prop := Up w0 w ∧ ∃ l1 : List FrB, l1.length = k ∧ l1.map (·.f) = (l.take k).map (·.f) ∧
  (∀ y ∈ l1, OwnI .u8 5 w0.heap.size w y.A y.f.bytes.length y.c y.f.bytes ∧ blk? y.A ≠ some g) ∧ w.ownsRow w0.heap.size 46 6 (.slice (some ⟨g, 0, none⟩) n c) n (rowc (l1 ++ l.drop k))
/-- 'slices.Clone' of frames. -/
def FcPost (n : Nat) (l : List FrB) (w : World) (e : Ending) (w' : World) : Prop := ∃ A' c', e = .returned (.slice A' n c') ∧ w'.ownsRow w.heap.size 46 6 (.slice A' n c') n (rowc l) ∧ Up w w'
set_option maxRecDepth 100000 in
theorem fclone_ok (A : Option Addr) (n c : Nat) (l : List FrB) (w : World) (hl : l.length = n) (hn : n ≤ 1024) (hrow : w.ownsRow 0 46 6 (.slice A n c) n (rowc l)) :
    Calls Try.prog 31 #[.slice A n c] w (FcPost n l w) := by
  by_cases hA : A = none
  · subst hA
    have h0 : n = 0 := by
      rcases Nat.eq_zero_or_pos n with h | h
      · exact h
      · obtain ⟨g, e⟩ := row_at hrow h; cases e
    subst h0
    have hl0 := List.eq_nil_of_length_eq_zero hl
    subst hl0
    have he : ∀ w, (binOp .eql 29 (.slice none 0 c) (.slice none 0 0)).run Try.prog w = .ok (.bool true) w := fun w => Lib.run_eql_slice_nil w 29 46 none 0 c 0 0 Try.underlying29
    clear hrow hl
    go_enter Try.func31, Try.ntmps31
    go_wp2_with fail
    go_ret
    exact ⟨none, 0, rfl, World.ownsRow_nil _ _ _ _, Up.refl w⟩
  · obtain ⟨a, rfl⟩ : ∃ a, A = some a := by cases A with | none => exact absurd rfl hA | some a => exact ⟨a, rfl⟩
    clear hA
    have he : ∀ w, (binOp .eql 29 (.slice (some a) n c) (.slice none 0 0)).run Try.prog w = .ok (.bool false) w := fun w => Lib.run_eql_slice_nil w 29 46 (some a) n c 0 0 Try.underlying29
    have HL := Lib.hid hl
    have hcl : ∀ j u, (rowc l)[j]? = some u → ∃ g' o, (some a : Option Addr) = some ⟨g', o, none⟩ ∧ (w.alloc (.cells #[] 46)).cell? ⟨g', o + j, none⟩ = some u := fun j u hu => by
      have hpos : 0 < n := by
        have := (List.getElem?_eq_some_iff.1 hu).1
        rw [rowc_length] at this; omega
      obtain ⟨g, e⟩ := row_at hrow hpos
      rw [e] at hrow
      exact ⟨g, 0, e, by rw [Nat.zero_add]; exact cell_up (row_cell hrow hu) (up_alloc _ _)⟩
    have HCL := Lib.hid hcl
    have HZ := Lib.hid (World.ownsRow_made (base := w.heap.size) (e := 46) (size := 6) w #[] 0 (Nat.le_refl _) (by unfold maxLen; omega) (by simp))
    clear hl hcl hrow
    go_enter Try.func31, Try.ntmps31
    go_wp2_with (at_builtin; refine wpList_appendF rfl (.tmp 5) (.tmp 6) rfl w.heap.size (some ⟨w.heap.size, 0, none⟩) 0 0 [] rfl HZ.out (some a) n c l rfl HL.out HCL.out (by omega) (by simp) ?_; intro A3 N3 c3 w3 HN3 HW3 HO3 HE3)
    go_ret
    have hN : N3 = n := by have := HN3.out; omega
    subst hN
    refine ⟨A3, c3, rfl, by simpa using HW3.out, ?_⟩
    exact Below.out (up_alloc w (.cells #[] 46)) HO3.out (fun k hk => by injection hk with hk; rw [← hk]; exact Nat.le_refl _) (up_alloc w (.cells #[] 46)).size
/-- Behind a List of the program. -/
def ListPost (l : List FrB) (w : World) (e : Ending) (w' : World) : Prop := ∃ A c, e = .returned (.slice A l.length c) ∧ Up w w' ∧ (0 < l.length → ∃ g, A = some ⟨g, 0, none⟩ ∧ w.heap.size ≤ g ∧ LsS w g l.length c l l.length w')
theorem lsS_step {w0 wr w3 : World} {g n c k c3 B3 : Nat} {A3 : Option Addr} {l l1 : List FrB} {x : FrB} (hl1 : l1.length = k) (hm : l1.map (·.f) = (l.take k).map (·.f)) (hx : l[k]? = some x)
    (hown : ∀ y ∈ l1, OwnI .u8 5 w0.heap.size wr y.A y.f.bytes.length y.c y.f.bytes ∧ blk? y.A ≠ some g) (hrow : wr.ownsRow w0.heap.size 46 6 (.slice (some ⟨g, 0, none⟩) n c) n (rowc (l1 ++ x :: l.drop (k + 1)))) (hu : Up w0 wr) (hu3 : Up wr w3) (hg : w0.heap.size ≤ g)
    (hB : wr.heap.size ≤ B3) (hw3 : OwnI .u8 5 B3 w3 A3 x.f.bytes.length c3 x.f.bytes) :
    LsS w0 g n c l (k + 1) ((((((w3.setCell ⟨g, k * 6, none⟩ (.int .i64 x.f.fh)).setCell ⟨g, k * 6 + 1, none⟩ (.int .i64 x.f.fp)).setCell ⟨g, k * 6 + 2, none⟩ (.int .i64 x.f.th)).setCell ⟨g, k * 6 + 3, none⟩ (.int .i64 x.f.tp)).setCell ⟨g, k * 6 + 4, none⟩ (.slice A3 x.f.bytes.length c3)).setCell ⟨g, k * 6 + 5, none⟩ (.bool x.f.tn)) := by
  have hgs : g < wr.heap.size := (World.ownsRow.lt hrow g rfl).2
  have hO : Out (fun q => q = g) w3 ((((((w3.setCell ⟨g, k * 6, none⟩ (.int .i64 x.f.fh)).setCell ⟨g, k * 6 + 1, none⟩ (.int .i64 x.f.fp)).setCell ⟨g, k * 6 + 2, none⟩ (.int .i64 x.f.th)).setCell ⟨g, k * 6 + 3, none⟩ (.int .i64 x.f.tp)).setCell ⟨g, k * 6 + 4, none⟩ (.slice A3 x.f.bytes.length c3)).setCell ⟨g, k * 6 + 5, none⟩ (.bool x.f.tn)) :=
    (((((setCell_out _ _ _ _).trans (setCell_out _ _ _ _) (Sub.refl _ _)).trans (setCell_out _ _ _ _) (Sub.refl _ _)).trans (setCell_out _ _ _ _) (Sub.refl _ _)).trans (setCell_out _ _ _ _) (Sub.refl _ _)).trans (setCell_out _ _ _ _) (Sub.refl _ _)
  have hnew : ∀ q, blk? A3 = some q → B3 ≤ q := fun q hq => (World.ownsRow.lt hw3 q (by rw [ownBlock_slice]; exact hq)).1
  refine ⟨Below.out (hu.trans hu3) hO (fun q hq => by omega) (Nat.le_trans hu.size hu3.size), l1 ++ [⟨x.f, A3, c3⟩], by simp [hl1], ?_, fun y hy => ?_, ?_⟩
  · rw [List.map_append, hm, List.take_add_one, hx]; simp
  · rcases List.mem_append.1 hy with h | h
    · have h1 := hown y h
      exact ⟨hO.own (own_up h1.1 hu3) (fun q hq e => by rw [ownBlock_slice] at hq; exact h1.2 (by rw [← e]; exact hq)), h1.2⟩
    · rw [List.mem_singleton.1 h]
      exact ⟨hO.own (OwnI.mono hw3 (Nat.le_trans hu.size hB)) (fun q hq e => by rw [ownBlock_slice] at hq; have := hnew q hq; omega), fun e => by have := hnew g e; omega⟩
  · have := own_setFrame (y := ⟨x.f, A3, c3⟩) (own_up hrow hu3) hl1
    simpa using this
set_option maxRecDepth 100000 in
set_option maxHeartbeats 1000000 in
theorem list_p (b n c : Nat) (A : Option Addr) (l : List FrB) (w : World) (hl : l.length = n) (hn : n ≤ 1024) (kb : w.cell? ⟨b, 1, none⟩ = some (.slice A n c)) (hrow : w.ownsRow 0 46 6 (.slice A n c) n (rowc l)) (hfr : ∀ x ∈ l, FrIn w x) :
    Calls Try.prog 13 #[.pointer (some ⟨b, 0, none⟩)] w (ListPost l w) := by
  have HL := Lib.hid hl
  have HROW := Lib.hid hrow
  have HFR := Lib.hid hfr
  clear hl hrow hfr
  go_enter Try.func13, Try.ntmps13
  go_wp2_with fail
  refine (fclone_ok A n c l w HL.out hn HROW.out).mono ?_
  rintro e w1 ⟨A1, c1, rfl, hr1, hu1⟩
  have HR1 := Lib.hid hr1
  have HU1 := Lib.hid hu1
  clear hr1 hu1 kb
  by_cases h0 : n = 0
  · have H0 := Lib.hid h0
    clear h0
    go_wp2_with fail
    go_loopw [15] (fun s wx => ∃ k : Nat, k ≤ n ∧ s = .int .i64 k ∧ Hid (Up w wx)) (fun s _ => n - (intOf s).toNat)
    case atStart => exact ⟨0, Nat.zero_le _, rfl, HU1⟩
    case round =>
      obtain ⟨k, hk, rfl, hA⟩ := hrel
      by_cases hlt : k < n
      · exfalso
        have := H0.out
        omega
      · go_wp2_with fail
        go_ret
        exact ⟨A1, c1, by rw [HL.out]; rfl, hA.out, fun h => absurd h (by rw [HL.out, H0.out]; omega)⟩
  · have hpos : 0 < n := by omega
    obtain ⟨g, hg⟩ := row_at HR1.out hpos
    subst hg
    have hgB : w.heap.size ≤ g := (World.ownsRow.lt HR1.out g rfl).1
    have HG := Lib.hid hgB
    have A0 : Hid (LsS w g n c1 l 0 w1) := ⟨HU1.out, [], rfl, rfl, fun _ h => (by cases h), by simpa using HR1.out⟩
    clear HR1 HU1 hgB h0 hpos
    go_wp2_with fail
    go_loopw [15] (fun s wx => ∃ k : Nat, k ≤ n ∧ s = .int .i64 k ∧ Hid (LsS w g n c1 l k wx)) (fun s _ => n - (intOf s).toNat)
    case atStart => exact ⟨0, Nat.zero_le _, rfl, A0⟩
    case round =>
      obtain ⟨k, hk, rfl, hA⟩ := hrel
      clear A0
      by_cases hlt : k < n
      · obtain ⟨hu, l1, hl1, hm, hown, hrow⟩ := hA.out
        obtain ⟨x, hx⟩ : ∃ x, l[k]? = some x := ⟨l[k]'(by rw [HL.out]; exact hlt), by simp⟩
        have hkl : k < l.length := by rw [HL.out]; exact hlt
        have hdrop : l.drop k = x :: l.drop (k + 1) := by
          rw [List.drop_eq_getElem_cons hkl]
          congr 1
          exact (List.getElem?_eq_some_iff.1 hx).2
        rw [hdrop] at hrow
        have hcell : ∀ (j : Nat) (v : Value), (frc x)[j]? = some v → wr.cell? ⟨g, k * 6 + j, none⟩ = some v := fun j v hv => row_cell hrow (rowc_at (l := l1 ++ x :: l.drop (k + 1)) (i := k) (by rw [List.getElem?_append_right (by omega)]; simp [hl1]) hv)
        have q0 : wr.cell? ⟨g, k * 6, none⟩ = some (.int .i64 x.f.fh) := hcell 0 _ rfl
        have q1 : wr.cell? ⟨g, k * 6 + 1, none⟩ = some (.int .i64 x.f.fp) := hcell 1 _ rfl
        have q2 : wr.cell? ⟨g, k * 6 + 2, none⟩ = some (.int .i64 x.f.th) := hcell 2 _ rfl
        have q3 : wr.cell? ⟨g, k * 6 + 3, none⟩ = some (.int .i64 x.f.tp) := hcell 3 _ rfl
        have q4 : wr.cell? ⟨g, k * 6 + 4, none⟩ = some (.slice x.A x.f.bytes.length x.c) := hcell 4 _ rfl
        have q5 : wr.cell? ⟨g, k * 6 + 5, none⟩ = some (.bool x.f.tn) := hcell 5 _ rfl
        have HIN := Lib.hid (show InB wr x.A x.f.bytes.length x.c x.f.bytes from (own_inB (HFR.out x (List.mem_of_getElem? hx)).1 (HFR.out x (List.mem_of_getElem? hx)).2.1).up hu)
        have HLN := Lib.hid (HFR.out x (List.mem_of_getElem? hx)).2.2
        have HU := Lib.hid hu
        have HL1 := Lib.hid hl1
        have HM := Lib.hid hm
        have HOWN := Lib.hid hown
        have HRW := Lib.hid hrow
        have HDR := Lib.hid hdrop
        have HX := Lib.hid hx
        have hnc : n ≤ c1 := by
          rcases hrow.2 with ⟨h1, _⟩ | ⟨g', cap, cur, hv, _, _, h1, _⟩
          · cases h1
          · injection hv with _ _ hv; subst hv; exact h1
        clear hu hl1 hm hown hrow hdrop hx hkl hcell hA
        go_upto_region 7 with (fail)
        clear q0 q1 q2 q3 q4 q5
        have hub := up_alloc wr (.cells #[.int .i64 x.f.fh, .int .i64 x.f.fp, .int .i64 x.f.th, .int .i64 x.f.tp, .slice x.A x.f.bytes.length x.c, .bool x.f.tn] 46)
        have xbn := Lib.hid (new_at wr (.cells #[.int .i64 x.f.fh, .int .i64 x.f.fp, .int .i64 x.f.th, .int .i64 x.f.tp, .slice x.A x.f.bytes.length x.c, .bool x.f.tn] 46))
        generalize (wr.alloc (.cells #[.int .i64 x.f.fh, .int .i64 x.f.fp, .int .i64 x.f.th, .int .i64 x.f.tp, .slice x.A x.f.bytes.length x.c, .bool x.f.tn] 46)) = wb at hub xbn ⊢
        have hbs : wr.heap.size < wb.heap.size := lt_of_blk xbn.out
        obtain ⟨xb, hxb0⟩ : ∃ xb, xb = wr.heap.size := ⟨_, rfl⟩
        rw [← hxb0] at xbn ⊢
        have HXB := Lib.hid hxb0
        have HUB := Lib.hid hub
        clear hub hbs hxb0
        have b0 : wb.cell? ⟨xb, 0, none⟩ = some (.int .i64 x.f.fh) := cell_of xbn.out (j := 0) rfl
        have b1 : wb.cell? ⟨xb, 1, none⟩ = some (.int .i64 x.f.fp) := cell_of xbn.out (j := 1) rfl
        have b2 : wb.cell? ⟨xb, 2, none⟩ = some (.int .i64 x.f.th) := cell_of xbn.out (j := 2) rfl
        have b3 : wb.cell? ⟨xb, 3, none⟩ = some (.int .i64 x.f.tp) := cell_of xbn.out (j := 3) rfl
        have b4 : wb.cell? ⟨xb, 4, none⟩ = some (.slice x.A x.f.bytes.length x.c) := cell_of xbn.out (j := 4) rfl
        have b5 : wb.cell? ⟨xb, 5, none⟩ = some (.bool x.f.tn) := cell_of xbn.out (j := 5) rfl
        go_wp2_with fail
        refine (copied_ok x.f x.A x.f.bytes.length x.c wb (HIN.out.up HUB.out) HLN.out).mono ?_
        rintro e w3 ⟨A3, c3, rfl, hw3, hu3⟩
        clear b0 b1 b2 b3 b4 b5
        have HW3 := Lib.hid hw3
        have HU3 := Lib.hid (HUB.out.trans hu3)
        have HWB := Lib.hid (show wr.heap.size ≤ wb.heap.size from HUB.out.size)
        clear hw3 hu3
        have HR3 := Lib.hid (own_up HRW.out HU3.out)
        have hcell3 : ∀ (j : Nat) (v : Value), (frc x)[j]? = some v → w3.cell? ⟨g, k * 6 + j, none⟩ = some v := fun j v hv => row_cell HR3.out (rowc_at (l := l1 ++ x :: l.drop (k + 1)) (i := k) (by rw [List.getElem?_append_right (by have := HL1.out; omega)]; simp [HL1.out]) hv)
        have f0 : w3.cell? ⟨g, k * 6, none⟩ = some (.int .i64 x.f.fh) := hcell3 0 _ rfl
        have z0 : w3.frozen? ⟨g, k * 6, none⟩ = false := World.ownsRow.frozenAt HR3.out (k * 6)
        have f1 : w3.cell? ⟨g, k * 6 + 1, none⟩ = some (.int .i64 x.f.fp) := hcell3 1 _ rfl
        have z1 : w3.frozen? ⟨g, k * 6 + 1, none⟩ = false := World.ownsRow.frozenAt HR3.out (k * 6 + 1)
        have f2 : w3.cell? ⟨g, k * 6 + 2, none⟩ = some (.int .i64 x.f.th) := hcell3 2 _ rfl
        have z2 : w3.frozen? ⟨g, k * 6 + 2, none⟩ = false := World.ownsRow.frozenAt HR3.out (k * 6 + 2)
        have f3 : w3.cell? ⟨g, k * 6 + 3, none⟩ = some (.int .i64 x.f.tp) := hcell3 3 _ rfl
        have z3 : w3.frozen? ⟨g, k * 6 + 3, none⟩ = false := World.ownsRow.frozenAt HR3.out (k * 6 + 3)
        have f4 : w3.cell? ⟨g, k * 6 + 4, none⟩ = some (.slice x.A x.f.bytes.length x.c) := hcell3 4 _ rfl
        have z4 : w3.frozen? ⟨g, k * 6 + 4, none⟩ = false := World.ownsRow.frozenAt HR3.out (k * 6 + 4)
        have f5 : w3.cell? ⟨g, k * 6 + 5, none⟩ = some (.bool x.f.tn) := hcell3 5 _ rfl
        have z5 : w3.frozen? ⟨g, k * 6 + 5, none⟩ = false := World.ownsRow.frozenAt HR3.out (k * 6 + 5)
        clear hcell3
        unfold frV
        go_wp2_with fail
        go_roundw
        case rel => exact ⟨k + 1, by omega, by go_num, lsS_step HL1.out HM.out HX.out HOWN.out HRW.out HU.out HU3.out HG.out HWB.out HW3.out⟩
        case measure => simp [intOf]; omega
      · obtain rfl : k = n := by omega
        clear hlt
        go_wp2_with fail
        go_ret
        exact ⟨_, c1, by rw [HL.out]; rfl, hA.out.1, fun _ => ⟨g, rfl, HG.out, by rw [HL.out]; exact hA.out⟩⟩
end Go.Proofs.Ytfbjhialjepodaa
