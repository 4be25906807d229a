import Derived.Test.YtdlehchofmdjbaaCk7
namespace Go.Proofs.Ytdlehchofmdjbaa
open Go Go.RowKit
set_option linter.unusedVariables false
set_option linter.unusedSimpArgs false
/-! What came: its values, and the program's checkHeard. -/
namespace Ck
structure Hrd where
  cum : Int
  win : Int
  gaps : List (Int × Int)
  dups : List Int
def apB : Int → List (Int × Int) → Bool
  | _, [] => true
  | least, g :: l => decide (least ≤ g.1) && decide (g.1 ≤ g.2) && apB (g.2 + 2) l
def chkD (h : Hrd) : Int := if apB 2 h.gaps = false then 2 else if 64 < h.gaps.length ∨ 64 < h.dups.length then 4 else 0
structure HrdOk (h : Hrd) : Prop where
  cum : 0 ≤ h.cum ∧ h.cum < 4294967296
  win : 0 ≤ h.win ∧ h.win < 4294967296
  gaps : ∀ g ∈ h.gaps, (0 ≤ g.1 ∧ g.1 < 65536) ∧ 0 ≤ g.2 ∧ g.2 < 65536
  dups : ∀ d ∈ h.dups, 0 ≤ d ∧ d < 4294967296
end Ck
def heV (h : Ck.Hrd) (u v : Value) : Value := .agg #[.int .u32 h.cum, .int .u32 h.win, u, v]
/-- The cells of Gaps. -/
def gpc (g : Int × Int) : List Value := [.int .u16 g.1, .int .u16 g.2]
def gapc (l : List (Int × Int)) : List Value := l.flatMap gpc
theorem gapc_length (l : List (Int × Int)) : (gapc l).length = l.length * 2 := by
  induction l with
  | nil => rfl
  | cons x l ih => simp only [gapc, List.flatMap_cons, List.length_append] at ih ⊢; rw [ih]; simp [gpc]; omega
theorem gapc_at {l : List (Int × Int)} {i : Nat} {x : Int × Int} (h : l[i]? = some x) : (gapc l)[i * 2]? = some (.int .u16 x.1) ∧ (gapc l)[i * 2 + 1]? = some (.int .u16 x.2) := by
  induction l generalizing i with
  | nil => simp at h
  | cons y l ih =>
    have hl : (gpc y).length = 2 := rfl
    cases i with
    | zero =>
      simp at h
      subst h
      exact ⟨rfl, rfl⟩
    | succ i =>
      have h2 : l[i]? = some x := by simpa using h
      simp only [gapc, List.flatMap_cons]
      rw [List.getElem?_append_right (by rw [hl]; omega), List.getElem?_append_right (by rw [hl]; omega), hl]
      have := ih h2
      rw [show (i + 1) * 2 - 2 = i * 2 by omega, show (i + 1) * 2 + 1 - 2 = i * 2 + 1 by omega]
      exact this
def GapOk (l : List (Int × Int)) : Prop := ∀ g ∈ l, (0 ≤ g.1 ∧ g.1 < 65536) ∧ 0 ≤ g.2 ∧ g.2 < 65536
def DupOk (l : List Int) : Prop := ∀ d ∈ l, 0 ≤ d ∧ d < 4294967296
/-- A slice of Gaps. -/
structure InG (w : World) (A : Option Addr) (n cap : Nat) (l : List (Int × Int)) : Prop where
  cells : Cells w A (gapc l)
  ok : GapOk l
  cap : n ≤ cap
  len : l.length = n
theorem InG.up {w w' : World} {A : Option Addr} {n cap : Nat} {l : List (Int × Int)} (h : InG w A n cap l) (hu : Up w w') : InG w' A n cap l := ⟨h.cells.up hu, h.ok, h.cap, h.len⟩
/-- A slice of Dups. -/
structure InD (w : World) (A : Option Addr) (n cap : Nat) (l : List Int) : Prop where
  cells : Cells w A (ints .u32 l)
  ok : DupOk l
  cap : n ≤ cap
  len : l.length = n
theorem InD.up {w w' : World} {A : Option Addr} {n cap : Nat} {l : List Int} (h : InD w A n cap l) (hu : Up w w') : InD w' A n cap l := ⟨h.cells.up hu, h.ok, h.cap, h.len⟩
theorem apB_step {least : Int} {l : List (Int × Int)} {k : Nat} {x : Int × Int} (hx : l[k]? = some x) : Ck.apB least (l.drop k) = (decide (least ≤ x.1) && decide (x.1 ≤ x.2) && Ck.apB (x.2 + 2) (l.drop (k + 1))) := by
  obtain ⟨hl, he⟩ := List.getElem?_eq_some_iff.1 hx
  rw [List.drop_eq_getElem_cons hl, he]
  rfl
set_option maxRecDepth 100000 in
set_option maxHeartbeats 1000000 in
theorem chkD_any (h : Ck.Hrd) (A B : Option Addr) (n c m d : Nat) (w : World) (hg : InG w A n c h.gaps) (hn : n ≤ 140737488351232) (hm : m = h.dups.length) (hmn : m ≤ 140737488351232) :
    Calls Try.prog 25 #[heV h (.slice A n c) (.slice B m d)] w (RetI (Ck.chkD h) w) := by
  have HG := Lib.hid hg
  have HM := Lib.hid hm
  have HN := Lib.hid hn
  have hcap := hg.cap
  clear hg hm
  obtain ⟨cum, win, gs, ds⟩ := h
  simp only at HG HM
  unfold heV
  go_enter Try.func25, Try.ntmps25
  go_wp2_with fail
  have HU0 := Lib.hid (up_alloc w (.cells #[.int .u32 cum, .int .u32 win, .slice A n c, .slice B m d] 43))
  have hb0 := new_at w (.cells #[.int .u32 cum, .int .u32 win, .slice A n c, .slice B m d] 43)
  have HB0 := Lib.hid hb0
  clear hb0
  generalize (w.alloc (.cells #[.int .u32 cum, .int .u32 win, .slice A n c, .slice B m d] 43)) = w0 at HU0 HB0 ⊢
  generalize hb : w.heap.size = b at HB0 ⊢
  have HBS := Lib.hid hb
  clear hb
  go_loopw [3, 9] (fun v i wr => ∃ (k : Nat) (least : Int), k ≤ n ∧ i = .int .i64 (k : Int) ∧ v = .int .i64 least ∧ 0 ≤ least ∧ least < 70000 ∧ Hid (Ck.apB 2 gs = Ck.apB least (gs.drop k)) ∧ Hid (Up w0 wr)) (fun _ i _ => n - (intOf i).toNat)
  case atStart => exact ⟨0, 2, Nat.zero_le _, rfl, rfl, by omega, by omega, Lib.hid rfl, Lib.hid (Up.refl _)⟩
  case round =>
    obtain ⟨k, least, hk, rfl, rfl, hl0, hl1, hap, hu⟩ := hrel
    by_cases hlt : k < n
    · obtain ⟨x, hx⟩ : ∃ x, gs[k]? = some x := ⟨_, List.getElem?_eq_getElem (by rw [HG.out.len]; exact hlt)⟩
      obtain ⟨f, t⟩ := x
      have hxo := HG.out.ok _ (List.mem_of_getElem? hx)
      obtain ⟨⟨hf0, hf1⟩, ht0, ht1⟩ := hxo
      simp only at hf0 hf1 ht0 ht1
      obtain ⟨ga, o, rfl, gb, hc⟩ := HG.out.cells (by intro e; have := congrArg List.length e; rw [gapc_length, HG.out.len] at this; simp at this; omega)
      have k0 := cell_up (hc (k * 2) _ (gapc_at hx).1) (HU0.out.trans hu.out)
      have k1 := cell_up (hc (k * 2 + 1) _ (gapc_at hx).2) (HU0.out.trans hu.out)
      rw [← Nat.add_assoc] at k1
      have HX := Lib.hid hx
      have HAP := Lib.hid (hap.out.trans (apB_step hx))
      clear hx hc hap gb
      by_cases hlf : least ≤ f
      · have d1 : decide (f < least) = false := by simp; omega
        by_cases hft : f ≤ t
        · have d2 : decide (t < f) = false := by simp; omega
          have HA2 := Lib.hid (show Ck.apB 2 gs = Ck.apB (t + 2) (gs.drop (k + 1)) by rw [HAP.out]; simp [hlf, hft])
          go_wp2_with fail
          go_roundw
          case rel => exact ⟨k + 1, t + 2, by omega, by go_num, rfl, by omega, by omega, HA2, Lib.hid (hu.out.trans (up_alloc _ _))⟩
          case measure => simp [intOf]; omega
        · have d2 : decide (t < f) = true := by simp; omega
          have HA2 := Lib.hid (show Ck.apB 2 gs = false by rw [HAP.out]; simp [hlf, hft])
          clear hft
          go_wp2_with fail
          go_ret
          exact ⟨by unfold Ck.chkD; rw [if_pos HA2.out]; rfl, Lib.hid ((HU0.out.trans hu.out).trans (up_alloc _ _))⟩
      · have d1 : decide (f < least) = true := by simp; omega
        have HA2 := Lib.hid (show Ck.apB 2 gs = false by rw [HAP.out]; simp [hlf])
        clear hlf
        go_wp2_with fail
        go_ret
        exact ⟨by unfold Ck.chkD; rw [if_pos HA2.out]; rfl, Lib.hid ((HU0.out.trans hu.out).trans (up_alloc _ _))⟩
    · obtain rfl : k = n := by omega
      have HA2 := Lib.hid (show ¬ Ck.apB 2 gs = false by rw [hap.out, ← HG.out.len, List.drop_length]; simp [Ck.apB])
      have hb := (hu.out.block _ (lt_of_blk HB0.out)).trans HB0.out
      have m2 := cell_of hb (j := 2) rfl
      have m3 := cell_of hb (j := 3) rfl
      clear hb
      by_cases h1 : 64 < k
      · have HE := Lib.hid (show Ck.chkD ⟨cum, win, gs, ds⟩ = 4 by unfold Ck.chkD; rw [if_neg HA2.out, if_pos (.inl (by rw [HG.out.len]; exact h1))])
        go_wp2_with fail
        go_ret
        exact ⟨by rw [HE.out]; rfl, Lib.hid (HU0.out.trans hu.out)⟩
      · have d1 : decide (64 < (k : Int)) = false := by simp; omega
        by_cases h2 : 64 < m
        · have HE := Lib.hid (show Ck.chkD ⟨cum, win, gs, ds⟩ = 4 by unfold Ck.chkD; rw [if_neg HA2.out, if_pos (.inr (by rw [← HM.out]; exact h2))])
          go_wp2_with fail
          go_ret
          exact ⟨by rw [HE.out]; rfl, Lib.hid (HU0.out.trans hu.out)⟩
        · have HE := Lib.hid (show Ck.chkD ⟨cum, win, gs, ds⟩ = 0 by unfold Ck.chkD; rw [if_neg HA2.out, if_neg (fun hc => hc.elim (by rw [HG.out.len]; exact h1) (by rw [← HM.out]; exact h2))])
          have d2 : decide (64 < (m : Int)) = false := by simp; omega
          go_wp2_with fail
          go_ret
          exact ⟨by rw [HE.out]; rfl, Lib.hid (HU0.out.trans hu.out)⟩
end Go.Proofs.Ytdlehchofmdjbaa
namespace Go.Proofs.Ytdlehchofmdjbaa
open Go Go.RowKit
set_option linter.unusedVariables false
set_option linter.unusedSimpArgs false
def encG (l : List (Int × Int)) : List Int := l.flatMap fun g => be g.1 2 ++ be g.2 2
def encDs (l : List Int) : List Int := l.flatMap fun d => be d 4
/-- The bytes of what came. -/
def encD (h : Ck.Hrd) : List Int := be h.cum 4 ++ be h.win 4 ++ be (h.gaps.length : Int) 2 ++ be (h.dups.length : Int) 2 ++ encG h.gaps ++ encDs h.dups
theorem encG_snoc (l : List (Int × Int)) (g : Int × Int) : encG (l ++ [g]) = encG l ++ be g.1 2 ++ be g.2 2 := by simp [encG]
theorem encDs_snoc (l : List Int) (x : Int) : encDs (l ++ [x]) = encDs l ++ be x 4 := by simp [encDs]
theorem encG_length (l : List (Int × Int)) : (encG l).length = 4 * l.length := by
  induction l with
  | nil => rfl
  | cons x l ih => simp only [encG, List.flatMap_cons, List.length_append, be_length] at ih ⊢; rw [ih]; simp; omega
theorem encDs_length (l : List Int) : (encDs l).length = 4 * l.length := by
  induction l with
  | nil => rfl
  | cons x l ih => simp only [encDs, List.flatMap_cons, List.length_append, be_length] at ih ⊢; rw [ih]; simp; omega
theorem FH.next {b q g : Nat} {T : TypeId} {cs : Array Value} {w0 w w' : World} {xs : List Int} (h : FH b q g T cs w0 xs w) (hu : Up w w') : FH b q g T cs w0 xs w' := by
  obtain ⟨S, h1, h2, h3, h4, h5, h6⟩ := h
  exact ⟨S, h1.up hu, (hu.block _ (lt_of_blk h2)).trans h2, (hu.block _ (lt_of_blk h3)).trans h3, h4, h5, h6.trans hu⟩
theorem FH.upw {b q g : Nat} {T : TypeId} {cs : Array Value} {w0 w : World} {xs : List Int} (h : FH b q g T cs w0 xs w) : Up w0 w := h.choose_spec.2.2.2.2.2
/-- A writer, next to blocks that stay. -/
def WH (g : Nat) (L : List (Nat × Obj)) (w0 : World) (xs : List Int) (w : World) : Prop := ∃ S, IsW S w g xs ∧ (∀ p ∈ L, w.heap[p.1]? = some p.2 ∧ ¬ S p.1) ∧ (∀ k, S k → w0.heap.size ≤ k) ∧ Up w0 w
section
variable {g : Nat} {L : List (Nat × Obj)} {w0 w w' : World} {xs : List Int}
theorem WH.step (h : WH g L w0 xs w) {f : FuncId} {args : Array Value} {ys : List Int} (hc : ∀ S, IsW S w g xs → (∀ k, S k → w0.heap.size ≤ k) → Calls Try.prog f args w (WPost S g ys w)) : Calls Try.prog f args w fun e w' => e = .returned (.tuple #[]) ∧ Hid (WH g L w0 ys w') := by
  obtain ⟨S, h1, h2, h5, h6⟩ := h
  refine (hc S h1 h5).mono fun e w' ⟨he, S', k1, k2, k3⟩ => ⟨he, Lib.hid ⟨S', k1, fun p hp => ⟨k3.blk (h2 p hp).1 (h2 p hp).2, fun hs => ?_⟩, fun k hk => ?_, Below.out h6 k3 h5 h6.size⟩⟩
  · rcases k2 _ hs with h | h
    · exact (h2 p hp).2 h
    · have := lt_of_blk (h2 p hp).1; omega
  · rcases k2 _ hk with h | h
    · exact h5 k h
    · have := h6.size; omega
theorem WH.two {n : Int} (h : WH g L w0 xs w) (h0 : 0 ≤ n) (h1 : n < 65536) (hk : xs.length ≤ 900000) : Calls Try.prog 27 #[.pointer (some ⟨g, 0, none⟩), .int .u16 n] w fun e w' => e = .returned (.tuple #[]) ∧ Hid (WH g L w0 (xs ++ be n 2) w') :=
  h.step fun S hS _ => wtwo n w hS h0 h1 hk
theorem WH.four {n : Int} (h : WH g L w0 xs w) (h0 : 0 ≤ n) (h1 : n < 4294967296) (hk : xs.length ≤ 900000) : Calls Try.prog 26 #[.pointer (some ⟨g, 0, none⟩), .int .u32 n] w fun e w' => e = .returned (.tuple #[]) ∧ Hid (WH g L w0 (xs ++ be n 4) w') :=
  h.step fun S hS _ => wfour n w hS h0 h1 hk
theorem WH.upw (h : WH g L w0 xs w) : Up w0 w := h.choose_spec.2.2.2
theorem WH.kept (h : WH g L w0 xs w) : ∀ p ∈ L, w.heap[p.1]? = some p.2 := fun p hp => (h.choose_spec.2.1 p hp).1
theorem WH.tail {p : Nat × Obj} (h : WH g (p :: L) w0 xs w) : WH g L w0 xs w := by
  obtain ⟨S, h1, h2, h5, h6⟩ := h
  exact ⟨S, h1, fun q hq => h2 q (List.mem_cons_of_mem _ hq), h5, h6⟩
theorem WH.add (h : WH g L w0 xs w) (hS : ∀ S, IsW S w g xs → True) (o : Obj) (hb : ∃ S, (IsW S w g xs ∧ (∀ p ∈ L, w.heap[p.1]? = some p.2 ∧ ¬ S p.1) ∧ (∀ k, S k → w0.heap.size ≤ k) ∧ Up w0 w) ∧ ∀ k, S k → k < w.heap.size) : WH g ((w.heap.size, o) :: L) w0 xs (w.alloc o) := by
  obtain ⟨S, ⟨h1, h2, h5, h6⟩, h7⟩ := hb
  have u := up_alloc w o
  refine ⟨S, h1.up u, fun p hp => ?_, h5, h6.trans u⟩
  rcases List.mem_cons.1 hp with rfl | hp
  · exact ⟨new_at _ _, fun hs => by have := h7 _ hs; simp only at this; omega⟩
  · exact ⟨(u.block _ (lt_of_blk (h2 p hp).1)).trans (h2 p hp).1, (h2 p hp).2⟩
end
/-- A writer's blocks alone. -/
theorem IsW.tight {S : Nat → Prop} {w : World} {g : Nat} {xs : List Int} (h : IsW S w g xs) : ∃ S', IsW S' w g xs ∧ (∀ k, S' k → S k) ∧ ∀ k, S' k → k < w.heap.size := by
  obtain ⟨A, N, c, h1, h2, h3, h4⟩ := h.ex
  refine ⟨fun k => k = g ∨ blk? A = some k, ⟨A, N, c, h1, h2, .inl rfl, fun k hk => ⟨.inr hk, (h4 k hk).2⟩⟩, fun k hk => ?_, fun k hk => ?_⟩
  · rcases hk with rfl | hk
    · exact h3
    · exact (h4 k hk).1
  · rcases hk with rfl | hk
    · exact lt_of_blk h1
    · exact (row_lt h2 hk).2
theorem WH.push {g : Nat} {L : List (Nat × Obj)} {w0 w : World} {xs : List Int} (h : WH g L w0 xs w) (o : Obj) : WH g ((w.heap.size, o) :: L) w0 xs (w.alloc o) := by
  refine h.add (fun _ _ => trivial) o ?_
  obtain ⟨S, h1, h2, h5, h6⟩ := h
  obtain ⟨S', k1, k2, k3⟩ := h1.tight
  exact ⟨S', ⟨k1, fun p hp => ⟨(h2 p hp).1, fun hs => (h2 p hp).2 (k2 _ hs)⟩, fun k hk => h5 k (k2 k hk), h6⟩, k3⟩
theorem FH.wh {b q g : Nat} {T : TypeId} {cs : Array Value} {w0 w : World} {xs : List Int} (h : FH b q g T cs w0 xs w) : WH g [(b, .cells cs T), (q, .cells #[.int .u8 0, .int .u8 0, .slice none 0 0] 61)] w0 xs w := by
  obtain ⟨S, h1, h2, h3, h4, h5, h6⟩ := h
  refine ⟨S, h1, fun p hp => ?_, h5, h6⟩
  rcases List.mem_cons.1 hp with rfl | hp
  · exact ⟨h2, h4.1⟩
  · rw [List.mem_singleton] at hp; subst hp; exact ⟨h3, h4.2⟩
theorem WH.fh {b q g : Nat} {T : TypeId} {cs : Array Value} {w0 w : World} {xs : List Int} (h : WH g [(b, .cells cs T), (q, .cells #[.int .u8 0, .int .u8 0, .slice none 0 0] 61)] w0 xs w) : FH b q g T cs w0 xs w := by
  obtain ⟨S, h1, h2, h5, h6⟩ := h
  have a := h2 _ List.mem_cons_self
  have b := h2 _ (List.mem_cons_of_mem _ List.mem_cons_self)
  exact ⟨S, h1, a.1, b.1, ⟨a.2, b.2⟩, h5, h6⟩
set_option maxRecDepth 100000 in
theorem fromD_err (h : Ck.Hrd) (A B : Option Addr) (n c m d : Nat) (k : Int) (w : World) (hg : InG w A n c h.gaps) (hn : n ≤ 140737488351232) (hm : m = h.dups.length) (hmn : m ≤ 140737488351232) (hk : Ck.chkD h = k) (hk2 : k = 2 ∨ k = 4) : Calls Try.prog 19 #[heV h (.slice A n c) (.slice B m d)] w (ChErr k w) := by
  obtain ⟨W, hW⟩ : ∃ W, W = (w.alloc (.cells #[.int .u32 h.cum, .int .u32 h.win, .slice A n c, .slice B m d] 43)).alloc (.cells #[.int .u8 0, .int .u8 0, .slice none 0 0] 61) := ⟨_, rfl⟩
  have u1 := up_alloc w (.cells #[.int .u32 h.cum, .int .u32 h.win, .slice A n c, .slice B m d] 43)
  have a1 := new_at w (.cells #[.int .u32 h.cum, .int .u32 h.win, .slice A n c, .slice B m d] 43)
  have u2 := up_alloc (w.alloc (.cells #[.int .u32 h.cum, .int .u32 h.win, .slice A n c, .slice B m d] 43)) (.cells #[.int .u8 0, .int .u8 0, .slice none 0 0] 61)
  have a2 := new_at (w.alloc (.cells #[.int .u32 h.cum, .int .u32 h.win, .slice A n c, .slice B m d] 43)) (.cells #[.int .u8 0, .int .u8 0, .slice none 0 0] 61)
  have b1 := (u2.block _ (lt_of_blk a1)).trans a1
  have s1 : (w.alloc (.cells #[.int .u32 h.cum, .int .u32 h.win, .slice A n c, .slice B m d] 43)).heap.size = w.heap.size + 1 := by simp
  rw [s1] at a2
  have HS := Lib.hid (show ((w.alloc (.cells #[.int .u32 h.cum, .int .u32 h.win, .slice A n c, .slice B m d] 43)).alloc (.cells #[.int .u8 0, .int .u8 0, .slice none 0 0] 61)).heap.size = w.heap.size + 1 + 1 by simp)
  have HU := Lib.hid (u1.trans u2)
  rw [← hW] at a2 b1 HU HS
  have HW := Lib.hid hW
  have HQ := Lib.hid a2
  have HB := Lib.hid b1
  have c0 := cell_of b1 (j := 0) rfl
  have c1 := cell_of b1 (j := 1) rfl
  have c2 := cell_of b1 (j := 2) rfl
  have c3 := cell_of b1 (j := 3) rfl
  clear u1 a1 u2 a2 b1 s1 hW
  have HM := Lib.hid hm
  have HK := Lib.hid hk
  have HG := Lib.hid hg
  clear hm hk hg
  unfold heV
  go_enter Try.func19, Try.ntmps19
  go_upto_region 1 with (fail)
  rw [← HW.out]
  go_wp2_with fail
  refine (chkD_any h A B n c m d W (HG.out.up HU.out) hn HM.out hmn).mono ?_
  rintro e w1 ⟨rfl, hu⟩
  rw [HK.out]
  have HQ1 := Lib.hid ((hu.out.block _ (lt_of_blk HQ.out)).trans HQ.out)
  have HU1 := Lib.hid (HU.out.trans hu.out)
  clear c0 c1 c2 c3 hu
  have e0 := cell_of HQ1.out (j := 0) rfl
  have f0 := frozen_at (j := 0) HQ1.out
  have e1 := cell_of HQ1.out (j := 1) rfl
  have f1 := frozen_at (j := 1) HQ1.out
  have e2 := cell_of HQ1.out (j := 2) rfl
  have f2 := frozen_at (j := 2) HQ1.out
  rcases hk2 with rfl | rfl
  · go_wp2_with fail
    have hs := set3 (a := .int .u8 0) (b := .int .u8 0) (c := .slice none 0 0) HQ1.out rfl
    refine bodyPost_ret (results_row_tmp (fn := Try.f19) (p := 2) (u := 3) (ty := 61) rfl _ _ (w.heap.size + 1) 61 _ (0, 0) _ rfl hs.1 Try.underlying61 rfl rfl) rfl ⟨rfl, Lib.hid (Below.out HU1.out hs.2 (fun k hk => by rw [hk]; omega) HU1.out.size)⟩
  · go_wp2_with fail
    have hs := set3 (a := .int .u8 0) (b := .int .u8 0) (c := .slice none 0 0) HQ1.out rfl
    refine bodyPost_ret (results_row_tmp (fn := Try.f19) (p := 2) (u := 3) (ty := 61) rfl _ _ (w.heap.size + 1) 61 _ (0, 0) _ rfl hs.1 Try.underlying61 rfl rfl) rfl ⟨rfl, Lib.hid (Below.out HU1.out hs.2 (fun k hk => by rw [hk]; omega) HU1.out.size)⟩
theorem chkD_zero {h : Ck.Hrd} (hk : Ck.chkD h = 0) : Ck.apB 2 h.gaps = true ∧ h.gaps.length ≤ 64 ∧ h.dups.length ≤ 64 := by
  unfold Ck.chkD at hk
  split at hk
  · omega
  · split at hk
    · omega
    · rename_i h1 h2
      exact ⟨by simpa using h1, by omega, by omega⟩
set_option maxRecDepth 100000 in
set_option maxHeartbeats 2000000 in
theorem fromD_ok (h : Ck.Hrd) (A B : Option Addr) (n c m d : Nat) (w : World) (hg : InG w A n c h.gaps) (hd : InD w B m d h.dups) (hk : Ck.chkD h = 0) (ho : Ck.HrdOk h) : Calls Try.prog 19 #[heV h (.slice A n c) (.slice B m d)] w (ChPost 3 0 (encD h) w) := by
  have hn64 : n ≤ 64 := by have := (chkD_zero hk).2.1; have := hg.len; omega
  have hm64 : m ≤ 64 := by have := (chkD_zero hk).2.2; have := hd.len; omega
  obtain ⟨W, hW⟩ : ∃ W, W = (w.alloc (.cells #[.int .u32 h.cum, .int .u32 h.win, .slice A n c, .slice B m d] 43)).alloc (.cells #[.int .u8 0, .int .u8 0, .slice none 0 0] 61) := ⟨_, rfl⟩
  have u1 := up_alloc w (.cells #[.int .u32 h.cum, .int .u32 h.win, .slice A n c, .slice B m d] 43)
  have a1 := new_at w (.cells #[.int .u32 h.cum, .int .u32 h.win, .slice A n c, .slice B m d] 43)
  have u2 := up_alloc (w.alloc (.cells #[.int .u32 h.cum, .int .u32 h.win, .slice A n c, .slice B m d] 43)) (.cells #[.int .u8 0, .int .u8 0, .slice none 0 0] 61)
  have a2 := new_at (w.alloc (.cells #[.int .u32 h.cum, .int .u32 h.win, .slice A n c, .slice B m d] 43)) (.cells #[.int .u8 0, .int .u8 0, .slice none 0 0] 61)
  have b1 := (u2.block _ (lt_of_blk a1)).trans a1
  have s1 : (w.alloc (.cells #[.int .u32 h.cum, .int .u32 h.win, .slice A n c, .slice B m d] 43)).heap.size = w.heap.size + 1 := by simp
  rw [s1] at a2
  have HS := Lib.hid (show ((w.alloc (.cells #[.int .u32 h.cum, .int .u32 h.win, .slice A n c, .slice B m d] 43)).alloc (.cells #[.int .u8 0, .int .u8 0, .slice none 0 0] 61)).heap.size = w.heap.size + 1 + 1 by simp)
  have HU := Lib.hid (u1.trans u2)
  rw [← hW] at a2 b1 HU HS
  have HW := Lib.hid hW
  have HQ := Lib.hid a2
  have HB := Lib.hid b1
  have c0 := cell_of b1 (j := 0) rfl
  have c1 := cell_of b1 (j := 1) rfl
  have c2 := cell_of b1 (j := 2) rfl
  have c3 := cell_of b1 (j := 3) rfl
  clear u1 a1 u2 a2 b1 s1 hW
  have HG := Lib.hid hg
  have HD := Lib.hid hd
  have HKp := Lib.hid hk
  have HO := Lib.hid ho
  have hcn := hg.cap
  have hcm := hd.cap
  clear hg hd hk ho
  unfold heV
  go_enter Try.func19, Try.ntmps19
  go_upto_region 1 with (fail)
  rw [← HW.out]
  go_wp2_with fail
  refine (chkD_any h A B n c m d W (HG.out.up HU.out) (by omega) HD.out.len.symm (by omega)).mono ?_
  rintro e w1 ⟨rfl, hu⟩
  rw [HKp.out]
  have HQ1 := Lib.hid ((hu.out.block _ (lt_of_blk HQ.out)).trans HQ.out)
  have HB1 := Lib.hid ((hu.out.block _ (lt_of_blk HB.out)).trans HB.out)
  have F0 := Lib.hid (FH.start HB1.out HQ1.out (HU.out.trans hu.out))
  clear c0 c1 c2 c3 hu HQ1 HB1
  go_upto_region 5 with (fail)
  generalize (w1.alloc (.cells #[.slice none 0 0] 73)) = w2 at F0 ⊢
  generalize w1.heap.size = g at F0 ⊢
  have k0 := F0.out.cell (j := 0) rfl
  go_wp2_with fail
  refine (F0.out.four HO.out.cum.1 HO.out.cum.2 (by simp [be_length])).mono ?_
  rintro e v0 ⟨rfl, F1⟩
  have k1 := F1.out.cell (j := 1) rfl
  clear k0 F0
  go_wp2_with fail
  refine (F1.out.four HO.out.win.1 HO.out.win.2 (by simp [be_length])).mono ?_
  rintro e v1 ⟨rfl, F2⟩
  have k2 := F2.out.cell (j := 2) rfl
  clear k1 F1
  go_wp2_with fail
  refine (F2.out.two (n := (n : Int)) (by omega) (by omega) (by simp [be_length])).mono ?_
  rintro e v2 ⟨rfl, F3⟩
  have k3 := F3.out.cell (j := 3) rfl
  clear k2 F2
  go_wp2_with fail
  refine (F3.out.two (n := (m : Int)) (by omega) (by omega) (by simp [be_length])).mono ?_
  rintro e v3 ⟨rfl, F4⟩
  have k4 := F4.out.cell (j := 2) rfl
  clear k3 F3
  go_wp2_with fail
  obtain ⟨pre, hpre⟩ : ∃ pre, pre = [] ++ be h.cum 4 ++ be h.win 4 ++ be (n : Int) 2 ++ be (m : Int) 2 := ⟨_, rfl⟩
  rw [← hpre] at F4
  have hpl : pre.length = 12 := by rw [hpre]; simp [be_length]
  have HPL := Lib.hid hpl
  have HP := Lib.hid hpre
  clear hpre k4 hpl
  go_loopw [35] (fun i wr => ∃ k : Nat, k ≤ n ∧ i = .int .i64 (k : Int) ∧ Hid (FH w.heap.size (w.heap.size + 1) g 43 #[.int .u32 h.cum, .int .u32 h.win, .slice A n c, .slice B m d] w (pre ++ encG (h.gaps.take k)) wr)) (fun i _ => n - (intOf i).toNat)
  case atStart => exact ⟨0, Nat.zero_le _, rfl, Lib.hid (by simpa [encG] using F4.out)⟩
  case round =>
    obtain ⟨k, hk, rfl, hF⟩ := hrel
    by_cases hlt : k < n
    · obtain ⟨x, hx⟩ : ∃ x, h.gaps[k]? = some x := ⟨_, List.getElem?_eq_getElem (by rw [HG.out.len]; exact hlt)⟩
      obtain ⟨f, t⟩ := x
      have hxo := HG.out.ok _ (List.mem_of_getElem? hx)
      obtain ⟨⟨hf0, hf1⟩, ht0, ht1⟩ := hxo
      simp only at hf0 hf1 ht0 ht1
      obtain ⟨ga, o, rfl, gb, hc⟩ := HG.out.cells (by intro e; have := congrArg List.length e; rw [gapc_length, HG.out.len] at this; simp at this; omega)
      have k0 := cell_up (hc (k * 2) _ (gapc_at hx).1) hF.out.upw
      have k1 := cell_up (hc (k * 2 + 1) _ (gapc_at hx).2) hF.out.upw
      rw [← Nat.add_assoc] at k1
      have HX := Lib.hid (show h.gaps.take (k + 1) = h.gaps.take k ++ [(f, t)] by
        obtain ⟨hl, he⟩ := List.getElem?_eq_some_iff.1 hx
        rw [List.take_succ_eq_append_getElem hl, he])
      have HKL := Lib.hid (show (pre ++ encG (h.gaps.take k)).length ≤ 1000 by rw [List.length_append, encG_length, List.length_take, HPL.out]; omega)
      clear hx hc gb
      have hW1 := Lib.hid (hF.out.wh.push (.cells #[.int .u16 f, .int .u16 t] 39))
      go_upto_region 12 with (fail)
      generalize (wr.alloc (.cells #[.int .u16 f, .int .u16 t] 39)) = wa at hW1 ⊢
      generalize wr.heap.size = pb at hW1 ⊢
      have z0 := cell_of (hW1.out.kept _ List.mem_cons_self) (j := 0) rfl
      simp only at z0
      clear k0 k1
      go_wp2_with fail
      refine (hW1.out.two hf0 hf1 (by have := HKL.out; omega)).mono ?_
      rintro e wb ⟨rfl, hW2⟩
      have z1 := cell_of (hW2.out.kept _ List.mem_cons_self) (j := 1) rfl
      simp only at z1
      clear z0 hW1
      go_wp2_with fail
      refine (hW2.out.two ht0 ht1 (by have := HKL.out; simp [be_length] at this ⊢; omega)).mono ?_
      rintro e wc ⟨rfl, hW3⟩
      clear z1
      have hF2 := Lib.hid hW3.out.tail.fh
      clear hW3 hW2
      go_wp2_with fail
      go_roundw
      case rel => exact ⟨k + 1, by omega, by go_num, Lib.hid (by rw [HX.out, encG_snoc]; simpa using hF2.out)⟩
      case measure => simp [intOf]; omega
    · obtain rfl : k = n := by omega
      have hF0 := hF.out
      rw [List.take_of_length_le (by rw [HG.out.len]; exact Nat.le_refl _)] at hF0
      have HF0 := Lib.hid hF0
      have k4 := hF0.cell (j := 3) rfl
      clear hF0 hF
      go_wp2_with fail
      clear k4
      go_loopw [49] (fun i wr => ∃ j : Nat, j ≤ m ∧ i = .int .i64 (j : Int) ∧ Hid (FH w.heap.size (w.heap.size + 1) g 43 #[.int .u32 h.cum, .int .u32 h.win, .slice A k c, .slice B m d] w (pre ++ encG h.gaps ++ encDs (h.dups.take j)) wr)) (fun i _ => m - (intOf i).toNat)
      case atStart => exact ⟨0, Nat.zero_le _, rfl, Lib.hid (by simpa [encDs] using HF0.out)⟩
      case round =>
        obtain ⟨j, hj, rfl, hF⟩ := hrel
        by_cases hlt : j < m
        · obtain ⟨x, hx⟩ : ∃ x, h.dups[j]? = some x := ⟨_, List.getElem?_eq_getElem (by rw [HD.out.len]; exact hlt)⟩
          obtain ⟨hx0, hx1⟩ := HD.out.ok _ (List.mem_of_getElem? hx)
          obtain ⟨ga, o, rfl, gb, hc⟩ := HD.out.cells (by intro e; have := congrArg List.length e; rw [ints_length, HD.out.len] at this; simp at this; omega)
          have k0 := cell_up (hc j (.int .u32 x) (by simp [ints, hx])) hF.out.upw
          have HX := Lib.hid (show h.dups.take (j + 1) = h.dups.take j ++ [x] by
            obtain ⟨hl, he⟩ := List.getElem?_eq_some_iff.1 hx
            rw [List.take_succ_eq_append_getElem hl, he])
          have HKL := Lib.hid (show (pre ++ encG h.gaps ++ encDs (h.dups.take j)).length ≤ 1000 by rw [List.length_append, List.length_append, encG_length, encDs_length, List.length_take, HPL.out, HG.out.len]; omega)
          clear hx hc gb
          go_wp2_with fail
          refine (hF.out.four hx0 hx1 (by have := HKL.out; omega)).mono ?_
          rintro e wb ⟨rfl, hF2⟩
          go_wp2_with fail
          go_roundw
          case rel => exact ⟨j + 1, by omega, by go_num, Lib.hid (by rw [HX.out, encDs_snoc]; simpa using hF2.out)⟩
          case measure => simp [intOf]; omega
        · obtain rfl : j = m := by omega
          have hF0 := hF.out
          rw [List.take_of_length_le (by rw [HD.out.len]; exact Nat.le_refl _)] at hF0
          have HF0 := Lib.hid hF0
          clear hF0 hF
          obtain ⟨A9, N9, c9, k9, hN9, hO9, hq9, hd9, hu9⟩ := HF0.out.fin
          have e0 := cell_of hq9.out (j := 0) rfl
          have f0 := frozen_at (j := 0) hq9.out
          have e1 := cell_of hq9.out (j := 1) rfl
          have f1 := frozen_at (j := 1) hq9.out
          have e2 := cell_of hq9.out (j := 2) rfl
          have f2 := frozen_at (j := 2) hq9.out
          go_wp2_with fail
          have hs := set3 (a := .int .u8 3) (b := .int .u8 0) (c := .slice A9 N9 c9) hq9.out rfl
          have hE := Lib.hid (show pre ++ encG h.gaps ++ encDs h.dups = encD h by rw [HP.out]; unfold encD; rw [HG.out.len, HD.out.len]; simp)
          refine bodyPost_ret (results_row_tmp (fn := Try.f19) (p := 2) (u := 3) (ty := 61) rfl _ _ (w.heap.size + 1) 61 _ (0, 0) _ rfl hs.1 Try.underlying61 rfl rfl) rfl ⟨A9, N9, c9, rfl, Lib.hid ?_, Lib.hid ?_, Lib.hid (Below.out hu9.out hs.2 (fun k hk => by rw [hk]; omega) hu9.out.size)⟩
          · rw [hN9.out, hE.out]
          · have := show OwnI .u8 5 w.heap.size _ A9 N9 c9 _ from hs.2.own hO9.out (fun q hq e => hd9.out q (by rwa [ownBlock_slice] at hq) e)
            rw [hE.out] at this
            exact this
end Go.Proofs.Ytdlehchofmdjbaa
