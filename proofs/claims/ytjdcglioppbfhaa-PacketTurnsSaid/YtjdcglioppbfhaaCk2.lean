import Derived.Test.YtjdcglioppbfhaaCk0
import Derived.BigQuiet
import Derived.Test.YtjdcglioppbfhaaChecked
import Derived.Deep.DeepCutAuto
namespace Go.Proofs.Ytjdcglioppbfhaa
open Go Go.RowKit
set_option linter.unusedVariables false
/-! The writer. -/
/-- At g lies a writer that has these bytes; all of it lies within S. -/
structure IsW (S : Nat → Prop) (w : World) (g : Nat) (xs : List Int) : Prop where
  ex : ∃ A N c, w.heap[g]? = some (.cells #[.slice A N c] 70 (0, 0)) ∧ OwnI .u8 5 0 w A N c xs ∧ S g ∧ ∀ k, blk? A = some k → S k ∧ k ≠ g
theorem IsW.lt {S : Nat → Prop} {w : World} {g : Nat} {xs : List Int} (h : IsW S w g xs) : g < w.heap.size := by
  obtain ⟨A, N, c, h1, h2, h3, h4⟩ := h.ex
  exact lt_of_blk h1
theorem IsW.out {S T : Nat → Prop} {w w' : World} {g : Nat} {xs : List Int} (h : IsW S w g xs) (ho : Out T w w') (hd : ∀ k, S k → ¬ T k) : IsW S w' g xs := by
  obtain ⟨A, N, c, h1, h2, h3, h4⟩ := h.ex
  exact ⟨A, N, c, ho.blk h1 (hd g h3), ho.own h2 (fun k hk => hd k (h4 k (by rwa [ownBlock_slice] at hk)).1), h3, h4⟩
theorem IsW.up {S : Nat → Prop} {w w' : World} {g : Nat} {xs : List Int} (h : IsW S w g xs) (hu : Up w w') : IsW S w' g xs := h.out (hu.out No) (fun _ _ h => h)
/-- Behind a writer's method: these are its bytes now. -/
def WPost (S : Nat → Prop) (g : Nat) (xs : List Int) (w : World) (e : Ending) (w' : World) : Prop := e = .returned (.tuple #[]) ∧ ∃ S', IsW S' w' g xs ∧ Sub S' S w ∧ Out S w w'
theorem WPost.up {S : Nat → Prop} {g : Nat} {xs : List Int} {w w1 w' : World} {e : Ending} (h : WPost S g xs w1 e w') (hu : Up w w1) : WPost S g xs w e w' := by
  obtain ⟨h1, S', h2, h3, h4⟩ := h
  exact ⟨h1, S', h2, fun k hk => (h3 k hk).imp id (fun h => Nat.le_trans hu.size h), (hu.out S).trans h4 (Sub.refl _ _)⟩
theorem WPost.out {S S1 : Nat → Prop} {g : Nat} {xs : List Int} {w w1 w' : World} {e : Ending} (h : WPost S1 g xs w1 e w') (hs : Sub S1 S w) (hu : Out S w w1) : WPost S g xs w e w' := by
  obtain ⟨h1, S', h2, h3, h4⟩ := h
  exact ⟨h1, S', h2, hs.trans h3 hu.size, hu.trans h4 hs⟩
set_option maxRecDepth 100000 in
theorem wbytes {S : Nat → Prop} {g : Nat} {xs : List Int} (A : Option Addr) (m c : Nat) (ys : List Int) (w : World) (h : IsW S w g xs) (hy : InB w A m c ys) (hk : xs.length + m ≤ 1000000) :
    Calls Try.prog 56 #[.pointer (some ⟨g, 0, none⟩), .slice A m c] w (WPost S g (xs ++ ys) w) := by
  obtain ⟨A0, N, c0, h1, h2, h3, h4⟩ := h.ex
  have HY := Lib.hid hy
  have H1 := Lib.hid h1
  have H2 := Lib.hid h2
  have H3 := Lib.hid h3
  have H4 := Lib.hid h4
  have HL := Lib.hid h2.len
  have hc := cell_of h1 (j := 0) rfl
  have hN : N + m ≤ 1000000 := by have := h2.len; omega
  clear h h1 h2 h3 h4 hy hk
  go_enter Try.func56, Try.ntmps56
  go_wp2_with (at_builtin; refine wpList_appendG rfl (.tmp 8) (.tmp 9) 22 rfl 0 5 (.int .u8 0) 1 1 Try.underlying22 info5 rfl (by decide) A0 N c0 (ints .u8 xs) rfl H2.out A m c (ints .u8 ys) rfl (by rw [ints_length, HY.out.len, Nat.mul_one]) HY.out.cells (ints_one .u8 ys) (by omega) (by omega) (Nat.zero_le _) ?_; intro A' N' c' w' HN HW HO HB; have h1' := HO.out.blk H1.out (fun e => (H4.out g e).2 rfl); have hc' := cell_of h1' (j := 0) rfl; have hf' := frozen_at (j := 0) h1')
  go_end0
  have hso := setCell_out w' g 0 (.slice A' N' c')
  have hown : OwnI .u8 5 0 w' A' N' c' (xs ++ ys) := by unfold OwnI; rw [ints_append]; exact HW.out
  refine ⟨rfl, fun k => S k ∨ blk? A' = some k, ⟨A', N', c', by rw [setCell_at _ h1']; rfl, hso.own hown (fun q hq e => ?_), .inl H3.out, fun k hk => ⟨.inr hk, fun e => ?_⟩⟩, fun k hk => ?_, (HO.out.mono fun k hk => (H4.out k hk).1).trans (hso.mono fun k hk => by rw [hk]; exact H3.out) (Sub.refl _ _)⟩
  · rw [ownBlock_slice] at hq
    subst e
    rcases HB.out with hb | hb
    · exact (H4.out q (by rw [← hb]; exact hq)).2 rfl
    · have h9 : blk? A' = some q := hq
      rw [hb] at h9; injection h9 with h9
      have := lt_of_blk H1.out; omega
  · subst e
    rcases HB.out with hb | hb
    · exact (H4.out k (by rw [← hb]; exact hk)).2 rfl
    · rw [hb] at hk; injection hk with hk
      have := lt_of_blk H1.out; omega
  · rcases hk with hk | hk
    · exact .inl hk
    · rcases HB.out with hb | hb
      · exact .inl (H4.out k (by rw [← hb]; exact hk)).1
      · rw [hb] at hk; injection hk with hk
        exact .inr (by omega)
set_option maxRecDepth 100000 in
theorem wnumber {S : Nat → Prop} {g : Nat} {xs : List Int} (n : Int) (s : Nat) (w : World) (h : IsW S w g xs) (h1 : 1 ≤ s) (h8 : s ≤ 8) (hk : xs.length ≤ 900000) :
    Calls Try.prog 54 #[.pointer (some ⟨g, 0, none⟩), .int .u64 n, .int .i64 (s : Int)] w (WPost S g (xs ++ be n s) w) := by
  have H := Lib.hid h
  have HK := Lib.hid hk
  clear h hk
  go_enter Try.func54, Try.ntmps54
  go_wp2_with fail
  refine (put_any none 0 0 s [] n w (inB_nil w) (by omega) h1 h8).mono ?_
  rintro e w1 ⟨A, N, c, rfl, hN, hO, hu⟩
  have HN := Lib.hid hN
  have HO := Lib.hid hO
  have HU := Lib.hid hu
  clear hN hO hu
  go_wp2_with fail
  have hl : N = s := by rw [HN.out]; simp [be_length]
  refine (wbytes A N c (be n s) w1 (H.out.up HU.out) (by have := own_inB HO.out (by simpa using be_byt n s); simpa using this) (by have := HK.out; omega)).mono ?_
  intro e w2 hp
  have HP := Lib.hid (hp.up HU.out)
  obtain ⟨rfl, -⟩ := hp
  go_wp2_with fail
  go_end0
  exact HP.out
set_option maxRecDepth 100000 in
theorem wone {S : Nat → Prop} {g : Nat} {xs : List Int} (n : Int) (w : World) (h : IsW S w g xs) (h0 : 0 ≤ n) (h1 : n < 256) (hk : xs.length ≤ 900000) :
    Calls Try.prog 41 #[.pointer (some ⟨g, 0, none⟩), .int .u8 n] w (WPost S g (xs ++ be n 1) w) := by
  have H := Lib.hid h
  have HK := Lib.hid hk
  clear h hk
  go_enter Try.func41, Try.ntmps41
  go_wp2_with fail
  refine (wnumber n 1 w H.out (by omega) (by omega) HK.out).mono ?_
  intro e w2 hp
  have HP := Lib.hid hp
  obtain ⟨rfl, -⟩ := hp
  go_wp2_with fail
  go_end0
  exact HP.out
set_option maxRecDepth 100000 in
theorem wtwo {S : Nat → Prop} {g : Nat} {xs : List Int} (n : Int) (w : World) (h : IsW S w g xs) (h0 : 0 ≤ n) (h1 : n < 65536) (hk : xs.length ≤ 900000) :
    Calls Try.prog 55 #[.pointer (some ⟨g, 0, none⟩), .int .u16 n] w (WPost S g (xs ++ be n 2) w) := by
  have H := Lib.hid h
  have HK := Lib.hid hk
  clear h hk
  go_enter Try.func55, Try.ntmps55
  go_wp2_with fail
  refine (wnumber n 2 w H.out (by omega) (by omega) HK.out).mono ?_
  intro e w2 hp
  have HP := Lib.hid hp
  obtain ⟨rfl, -⟩ := hp
  go_wp2_with fail
  go_end0
  exact HP.out
set_option maxRecDepth 100000 in
theorem wpadded {S : Nat → Prop} {g : Nat} {xs : List Int} (A : Option Addr) (m c : Nat) (ys : List Int) (w : World) (h : IsW S w g xs) (hy : InB w A m c ys) (hA : ys ≠ [] → ∀ k, blk? A = some k → ¬ S k) (hm : m ≤ 50000) (hk : xs.length ≤ 800000) :
    Calls Try.prog 42 #[.pointer (some ⟨g, 0, none⟩), .slice A m c] w (WPost S g (xs ++ be (4 + (m : Int)) 2 ++ padL ys) w) := by
  have H := Lib.hid h
  have HY := Lib.hid hy
  have HA := Lib.hid hA
  have HK := Lib.hid hk
  clear h hk hy hA
  go_enter Try.func42, Try.ntmps42
  go_wp2_with fail
  refine (wtwo (4 + (m : Int)) w H.out (by omega) (by omega) (by have := HK.out; omega)).mono ?_
  rintro e w1 ⟨rfl, S1, i1, s1, o1⟩
  have I1 := Lib.hid i1
  have S1' := Lib.hid s1
  have O1 := Lib.hid o1
  have HY1 := Lib.hid (HY.out.outS' O1.out HA.out)
  clear i1 s1 o1
  go_wp2_with fail
  refine (padded_any A m c ys w1 HY1.out (by omega)).mono ?_
  rintro e w2 ⟨A2, N2, c2, rfl, HN2, HO2, HU2⟩
  go_wp2_with fail
  have hl : N2 ≤ m + 3 := by rw [HN2.out, padL_length, HY1.out.len]; have := padN_lt m; omega
  refine (wbytes A2 N2 c2 (padL ys) w2 (I1.out.up HU2.out) (own_inB HO2.out (byt_padL HY1.out.byt)) (by have := HK.out; simp [be_length]; omega)).mono ?_
  intro e w3 hp
  have HP := Lib.hid ((hp.up HU2.out).out S1'.out O1.out)
  obtain ⟨rfl, -⟩ := hp
  go_wp2_with fail
  go_end0
  exact HP.out
end Go.Proofs.Ytjdcglioppbfhaa
namespace Go.Proofs.Ytjdcglioppbfhaa
open Go Go.RowKit
set_option linter.unusedVariables false
def chV (ty fl : Int) (v : Value) : Value := .agg #[.int .u8 ty, .int .u8 fl, v]
/-- At b lie the cells cs, at q a chunk that is empty yet, at g a writer with these bytes. -/
def FH (b q g : Nat) (T : TypeId) (cs : Array Value) (w0 : World) (xs : List Int) (w : World) : Prop :=
  ∃ S, IsW S w g xs ∧ w.heap[b]? = some (.cells cs T (0, 0)) ∧ w.heap[q]? = some (.cells #[.int .u8 0, .int .u8 0, .slice none 0 0] 43 (0, 0)) ∧ (¬ S b ∧ ¬ S q) ∧ (∀ k, S k → w0.heap.size ≤ k) ∧ Up w0 w
section
variable {b q g : Nat} {T : TypeId} {cs : Array Value} {w0 w : World} {xs : List Int}
theorem FH.cell (h : FH b q g T cs w0 xs w) {j : Nat} {v : Value} (hv : cs[j]? = some v) : w.cell? ⟨b, j, none⟩ = some v := by
  obtain ⟨S, h1, h2, h3, h4, h5, h6⟩ := h
  exact cell_of h2 hv
theorem FH.start (hb : w.heap[b]? = some (.cells cs T (0, 0))) (hq : w.heap[q]? = some (.cells #[.int .u8 0, .int .u8 0, .slice none 0 0] 43 (0, 0))) (hu : Up w0 w) :
    FH b q w.heap.size T cs w0 [] (w.alloc (.cells #[.slice none 0 0] 70)) := by
  have u := up_alloc w (.cells #[.slice none 0 0] 70)
  refine ⟨fun k => k = w.heap.size, ⟨none, 0, 0, new_at _ _, ownI_nil _ _ _ _, rfl, fun k hk => by cases hk⟩, (u.block b (lt_of_blk hb)).trans hb, (u.block q (lt_of_blk hq)).trans hq, ⟨fun e => ?_, fun e => ?_⟩, fun k hk => by rw [hk]; exact hu.size, hu.trans u⟩
  · have := lt_of_blk hb; omega
  · have := lt_of_blk hq; omega
theorem FH.step (h : FH b q g T cs w0 xs w) {f : FuncId} {args : Array Value} {ys : List Int} (hc : ∀ S, IsW S w g xs → (∀ k, S k → w0.heap.size ≤ k) → Calls Try.prog f args w (WPost S g ys w)) : Calls Try.prog f args w fun e w' => e = .returned (.tuple #[]) ∧ Hid (FH b q g T cs w0 ys w') := by
  obtain ⟨S, h1, h2, h3, h4, h5, h6⟩ := h
  refine (hc S h1 h5).mono fun e w' ⟨he, S', k1, k2, k3⟩ => ⟨he, Lib.hid ⟨S', k1, k3.blk h2 h4.1, k3.blk h3 h4.2, ⟨fun hs => ?_, fun hs => ?_⟩, fun k hk => ?_, Below.out h6 k3 h5 h6.size⟩⟩
  · rcases k2 _ hs with h | h
    · exact h4.1 h
    · have := lt_of_blk h2; omega
  · rcases k2 _ hs with h | h
    · exact h4.2 h
    · have := lt_of_blk h3; omega
  · rcases k2 _ hk with h | h
    · exact h5 k h
    · have := h6.size; omega
theorem FH.num {n : Int} (f : FuncId) (kd : IntKind) (s : Nat) (hi : Int) (hf : ∀ (S : Nat → Prop), IsW S w g xs → 0 ≤ n → n < hi → xs.length ≤ 900000 → Calls Try.prog f #[.pointer (some ⟨g, 0, none⟩), .int kd n] w (WPost S g (xs ++ be n s) w))
    (h : FH b q g T cs w0 xs w) (h0 : 0 ≤ n) (h1 : n < hi) (hk : xs.length ≤ 900000) : Calls Try.prog f #[.pointer (some ⟨g, 0, none⟩), .int kd n] w fun e w' => e = .returned (.tuple #[]) ∧ Hid (FH b q g T cs w0 (xs ++ be n s) w') :=
  h.step fun S hS _ => hf S hS h0 h1 hk
theorem FH.padded {A : Option Addr} {m c : Nat} {ys : List Int} (h : FH b q g T cs w0 xs w) (hy : InB w0 A m c ys) (hm : m ≤ 50000) (hk : xs.length ≤ 800000) : Calls Try.prog 42 #[.pointer (some ⟨g, 0, none⟩), .slice A m c] w fun e w' => e = .returned (.tuple #[]) ∧ Hid (FH b q g T cs w0 (xs ++ be (4 + (m : Int)) 2 ++ padL ys) w') := by
  have hu : Up w0 w := h.choose_spec.2.2.2.2.2
  exact h.step fun S hS hB => wpadded A m c ys w hS (hy.up hu) (fun hne k hk hs => by have := hB k hs; have := hy.lt hne hk; omega) hm hk
theorem FH.bytes {A : Option Addr} {m c : Nat} {ys : List Int} (h : FH b q g T cs w0 xs w) (hy : InB w0 A m c ys) (hk : xs.length + m ≤ 1000000) : Calls Try.prog 56 #[.pointer (some ⟨g, 0, none⟩), .slice A m c] w fun e w' => e = .returned (.tuple #[]) ∧ Hid (FH b q g T cs w0 (xs ++ ys) w') := by
  have hu : Up w0 w := h.choose_spec.2.2.2.2.2
  exact h.step fun S hS hB => wbytes A m c ys w hS (hy.up hu) hk
/-- What lies there at the end. -/
theorem FH.fin (h : FH b q g T cs w0 xs w) : ∃ A N c, w.cell? ⟨g, 0, none⟩ = some (.slice A N c) ∧ Hid (N = xs.length) ∧ Hid (OwnI .u8 5 w0.heap.size w A N c xs) ∧ Hid (w.heap[q]? = some (.cells #[.int .u8 0, .int .u8 0, .slice none 0 0] 43 (0, 0))) ∧ Hid (∀ k, blk? A = some k → k ≠ q) ∧ Hid (Up w0 w) := by
  obtain ⟨S, h1, h2, h3, h4, h5, h6⟩ := h
  obtain ⟨A, N, c, k1, k2, k3, k4⟩ := h1.ex
  exact ⟨A, N, c, cell_of k1 rfl, Lib.hid k2.len.symm, Lib.hid (k2.rebase fun k hk => h5 k (k4 k hk).1), Lib.hid h3, Lib.hid (fun k hk e => by subst e; exact h4.2 (k4 k hk).1), Lib.hid h6⟩
end
theorem results_row_tmp {P : Program} {fn : Func} {p u : Tmp} {ty : TypeId} (h : fn.results = #[.cell p ty, .tmp u]) (tmps : Array Value) (w : World) (g : Nat) (t : TypeId) (cs : Array Value) (fr : Nat × Nat) (d : TypeDesc)
    (hp : tmps.getD p undef = .pointer (some ⟨g, 0, none⟩)) (hg : w.heap[g]? = some (.cells cs t fr))
    (hu : P.underlying ty = some d) (hd : (match d with | .struct _ | .array _ _ => true | _ => false) = true) (hi : (P.info? ty).map (·.size) = some cs.size) :
    (results fn tmps).run P w = .ok (.tuple #[.agg cs, tmps.getD u undef]) w := by
  have hp' : tmps[p]?.getD undef = .pointer (some ⟨g, 0, none⟩) := by simpa using hp
  simp [results, h, hp', asAddr, run_loadVar_row w g t ty cs fr d hg hu hd hi, Result.andThen]
/-- Three stores into the result. -/
theorem set3 {w : World} {q : Nat} {cs : Array Value} {a b c : Value} {T : TypeId} (h : w.heap[q]? = some (.cells cs T (0, 0))) (hs : cs.size = 3) :
    (((w.setCell ⟨q, 0, none⟩ a).setCell ⟨q, 1, none⟩ b).setCell ⟨q, 2, none⟩ c).heap[q]? = some (.cells #[a, b, c] T (0, 0)) ∧ Out (fun k => k = q) w (((w.setCell ⟨q, 0, none⟩ a).setCell ⟨q, 1, none⟩ b).setCell ⟨q, 2, none⟩ c) := by
  refine ⟨?_, ((setCell_out _ _ _ _).trans (setCell_out _ _ _ _) (Sub.refl _ _)).trans (setCell_out _ _ _ _) (Sub.refl _ _)⟩
  rw [setCell_at _ (setCell_at _ (setCell_at _ h))]
  obtain ⟨l⟩ := cs
  match l, hs with
  | [x, y, z], _ => rfl
end Go.Proofs.Ytjdcglioppbfhaa
