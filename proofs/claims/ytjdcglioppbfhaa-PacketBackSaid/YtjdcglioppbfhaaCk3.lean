import Derived.Test.YtjdcglioppbfhaaCk0
import Derived.BigQuiet
import Derived.Deep.DeepCutAuto
namespace Go.Proofs.Ytjdcglioppbfhaa
open Go Go.RowKit
set_option linter.unusedVariables false
/-! The reader: its small calls, and its numbers. -/
/-- Where a reader stands, and its first error. -/
structure R where
  at_ : Nat
  e : Int
def failR (k : Int) (r : R) : R := ⟨r.at_, if r.e = 0 then k else r.e⟩
def reqR (b : Bool) (r : R) : R := if b then r else failR 2 r
def rdN (xs : List Int) (s : Nat) (r : R) : R := if r.at_ + s ≤ xs.length then ⟨r.at_ + s, r.e⟩ else failR 3 r
def rdV (xs : List Int) (s : Nat) (r : R) : Int := if r.at_ + s ≤ xs.length then num 0 ((xs.drop r.at_).take s) else 0
def rdB (xs : List Int) (n : Nat) (r : R) : List Int := if r.at_ + n ≤ xs.length then (xs.drop r.at_).take n else []
/-- A number of s bytes is read. -/
structure RdStep (xs : List Int) (s : Nat) (v : Int) (r r' : R) : Prop where
  val : v = rdV xs s r
  st : r' = rdN xs s r
  lo : 0 ≤ v
  hi : v < 256 ^ s
/-- At g lies a reader of these bytes, that stands there. -/
structure IsR (w : World) (g : Nat) (xs : List Int) (r : R) : Prop where
  ex : ∃ A m c, w.heap[g]? = some (.cells #[.slice A m c, .int .i64 (r.at_ : Int), .int .i64 r.e] 59 (0, 0)) ∧ InB w A m c xs ∧ (xs ≠ [] → ∀ k, blk? A = some k → k < g)
  len : xs.length ≤ 140737488351232
  at_ : r.at_ ≤ xs.length
def One (g : Nat) : Nat → Prop := fun k => k = g
theorem IsR.lt {w : World} {g : Nat} {xs : List Int} {r : R} (h : IsR w g xs r) : g < w.heap.size := by
  obtain ⟨A, m, c, h1, -⟩ := h.ex
  exact lt_of_blk h1
theorem IsR.out {w w' : World} {g : Nat} {xs : List Int} {r : R} {T : Nat → Prop} (h : IsR w g xs r) (ho : Out T w w') (h1 : ¬ T g) (h2 : ∀ k, T k → w.heap.size ≤ k) : IsR w' g xs r := by
  obtain ⟨A, m, c, k1, k2, k3⟩ := h.ex
  refine ⟨⟨A, m, c, ho.blk k1 h1, k2.up ⟨ho.os, ho.tape, ho.output, ho.size, fun k hk => ho.block k hk (fun ht => by have := h2 k ht; omega)⟩, k3⟩, h.len, h.at_⟩
theorem IsR.up {w w' : World} {g : Nat} {xs : List Int} {r : R} (h : IsR w g xs r) (hu : Up w w') : IsR w' g xs r := h.out (hu.out No) (fun h => h) (fun _ h => h.elim)
/-- Behind a reader's method that answers nothing. -/
def RPost (g : Nat) (xs : List Int) (r : R) (w : World) (e : Ending) (w' : World) : Prop := e = .returned (.tuple #[]) ∧ Hid (IsR w' g xs r) ∧ Hid (Out (One g) w w')
/-- The object behind a store. -/
theorem isR_set {w : World} {g : Nat} {xs : List Int} {r' : R} {A : Option Addr} {m c : Nat} {cs : Array Value} {j : Nat} {v : Value} (h : w.heap[g]? = some (.cells cs 59 (0, 0))) (hb : InB w A m c xs) (hk : xs ≠ [] → ∀ k, blk? A = some k → k < g)
    (he : cs.setIfInBounds j v = #[.slice A m c, .int .i64 (r'.at_ : Int), .int .i64 r'.e]) (hl : xs.length ≤ 140737488351232) (ha : r'.at_ ≤ xs.length) : IsR (w.setCell ⟨g, j, none⟩ v) g xs r' :=
  ⟨⟨A, m, c, by rw [setCell_at _ h, he], hb.outS' (setCell_out w g j v) (fun hne q hq e => by have := hk hne q hq; have e1 : q = g := e; omega), hk⟩, hl, ha⟩
set_option maxRecDepth 100000 in
theorem rfail {g : Nat} {xs : List Int} {r : R} (k : Int) (w : World) (h : IsR w g xs r) : Calls Try.prog 62 #[.pointer (some ⟨g, 0, none⟩), .int .i64 k] w (RPost g xs (failR k r) w) := by
  obtain ⟨A, m, c, h1, h2, h3⟩ := h.ex
  have HL := Lib.hid h.len
  have HA := Lib.hid h.at_
  have H1 := Lib.hid h1
  have H2 := Lib.hid h2
  have H3 := Lib.hid h3
  have hc := cell_of h1 (j := 2) rfl
  have hf := frozen_at (j := 2) h1
  clear h h1 h2 h3
  obtain ⟨at_, e⟩ := r
  by_cases he : e = 0
  · subst he
    go_enter Try.func62, Try.ntmps62
    go_wp2_with fail
    go_end0
    exact ⟨rfl, Lib.hid (isR_set H1.out H2.out H3.out rfl HL.out HA.out), Lib.hid (setCell_out w g 2 _)⟩
  · have hd : (e == 0) = false := by rw [beq_eq_false_iff_ne]; exact he
    have HE := Lib.hid he
    clear he
    go_enter Try.func62, Try.ntmps62
    go_wp2_with fail
    go_end0
    exact ⟨rfl, Lib.hid ⟨⟨A, m, c, by show _ = some (Obj.cells #[_, _, .int .i64 (if e = 0 then k else e)] 59 (0, 0)); rw [if_neg HE.out]; exact H1.out, H2.out, H3.out⟩, HL.out, HA.out⟩, Lib.hid (Out.refl _ _)⟩
set_option maxRecDepth 100000 in
theorem rpass_ok {g : Nat} {xs : List Int} {r : R} (n : Nat) (w : World) (h : IsR w g xs r) (hn : r.at_ + n ≤ xs.length) : Calls Try.prog 61 #[.pointer (some ⟨g, 0, none⟩), .int .i64 (n : Int), .int .i64 0] w (RPost g xs ⟨r.at_ + n, r.e⟩ w) := by
  obtain ⟨A, m, c, h1, h2, h3⟩ := h.ex
  have HL := Lib.hid h.len
  have H1 := Lib.hid h1
  have H2 := Lib.hid h2
  have H3 := Lib.hid h3
  have hc := cell_of h1 (j := 1) rfl
  have hf := frozen_at (j := 1) h1
  have hb : r.at_ + n ≤ 140737488351232 := by have := h.len; omega
  have HN := Lib.hid hn
  clear h h1 h2 h3 hn
  obtain ⟨at_, e⟩ := r
  simp only at hb hc
  go_enter Try.func61, Try.ntmps61
  go_wp2_with fail
  go_end0
  exact ⟨rfl, Lib.hid (isR_set H1.out H2.out H3.out (by show _ = #[_, Value.int .i64 ((at_ + n : Nat) : Int), _]; rw [Int.natCast_add]; rfl) HL.out HN.out), Lib.hid (setCell_out w g 1 _)⟩
set_option maxRecDepth 100000 in
theorem rpass_err {g : Nat} {xs : List Int} {r : R} (n k : Int) (w : World) (h : IsR w g xs r) (hk : k = 3 ∨ k = 1) : Calls Try.prog 61 #[.pointer (some ⟨g, 0, none⟩), .int .i64 n, .int .i64 k] w (RPost g xs (failR k r) w) := by
  have H := Lib.hid h
  clear h
  rcases hk with rfl | rfl
  · go_enter Try.func61, Try.ntmps61
    go_wp2_with fail
    refine (rfail 3 w H.out).mono ?_
    rintro e w1 ⟨rfl, hp⟩
    go_wp2_with fail
    go_end0
    exact ⟨rfl, hp⟩
  · go_enter Try.func61, Try.ntmps61
    go_wp2_with fail
    refine (rfail 1 w H.out).mono ?_
    rintro e w1 ⟨rfl, hp⟩
    go_wp2_with fail
    go_end0
    exact ⟨rfl, hp⟩
set_option maxRecDepth 100000 in
theorem rrequire {g : Nat} {xs : List Int} {r : R} (b : Bool) (w : World) (h : IsR w g xs r) : Calls Try.prog 49 #[.pointer (some ⟨g, 0, none⟩), .bool b] w (RPost g xs (reqR b r) w) := by
  have H := Lib.hid h
  clear h
  cases b
  · go_enter Try.func49, Try.ntmps49
    go_wp2_with fail
    refine (rfail 2 w H.out).mono ?_
    rintro e w1 ⟨rfl, hp⟩
    go_wp2_with fail
    go_end0
    exact ⟨rfl, hp⟩
  · go_enter Try.func49, Try.ntmps49
    go_wp2_with fail
    go_end0
    exact ⟨rfl, H, Lib.hid (Out.refl _ _)⟩
/-- It answers how much is left. -/
def LPost (a n : Nat) (w : World) (e : Ending) (w' : World) : Prop := ∃ k : Nat, e = .returned (.int .i64 (k : Int)) ∧ Hid (a + k = n) ∧ Hid (Up w w')
/-- It answers whether p holds. -/
def BPost (p : Prop) (w : World) (e : Ending) (w' : World) : Prop := ∃ b : Bool, e = .returned (.bool b) ∧ Hid (b = true ↔ p) ∧ Hid (Up w w')
set_option maxRecDepth 100000 in
theorem rleft {g : Nat} {xs : List Int} {r : R} (w : World) (h : IsR w g xs r) : Calls Try.prog 46 #[.pointer (some ⟨g, 0, none⟩)] w (LPost r.at_ xs.length w) := by
  obtain ⟨A, m, c, h1, h2, h3⟩ := h.ex
  have hc0 := cell_of h1 (j := 0) rfl
  have hc1 := cell_of h1 (j := 1) rfl
  have hm : m ≤ 140737488351232 := by have := h.len; have := h2.len; omega
  have HA := Lib.hid (show r.at_ ≤ m ∧ m = xs.length by have := h.at_; have := h2.len; omega)
  have hmi : (m : Int) ≤ 140737488351232 := by omega
  have hai : (r.at_ : Int) ≤ m := by have := HA.out.1; omega
  clear h h1 h2 h3
  go_enter Try.func46, Try.ntmps46
  go_upto_region 1 with (fail)
  go_quiet (fail)
  go_wp2_with fail
  go_ret
  have e1 : ((m - r.at_ : Nat) : Int) = (m : Int) - r.at_ := by have := HA.out.1; omega
  exact ⟨m - r.at_, by rw [e1]; rfl, Lib.hid (by have := HA.out; omega), Lib.hid (up_drewN _ _)⟩
set_option maxRecDepth 100000 in
theorem rdone {g : Nat} {xs : List Int} {r : R} (w : World) (h : IsR w g xs r) : Calls Try.prog 29 #[.pointer (some ⟨g, 0, none⟩)] w (BPost (r.at_ = xs.length) w) := by
  have H := Lib.hid h
  clear h
  go_enter Try.func29, Try.ntmps29
  go_wp2_with fail
  refine (rleft w H.out).mono ?_
  rintro e w1 ⟨k, rfl, hk, hu⟩
  go_wp2_with fail
  go_ret
  exact ⟨_, rfl, Lib.hid (by have := hk.out; simp; omega), hu⟩
end Go.Proofs.Ytjdcglioppbfhaa
namespace Go.Proofs.Ytjdcglioppbfhaa
open Go Go.RowKit
set_option linter.unusedVariables false
/-! The reader: numbers. -/
/-- Behind a method that reads a number of s bytes, of kind q. -/
def NPost (q : IntKind) (g : Nat) (xs : List Int) (s : Nat) (r : R) (w : World) (e : Ending) (w' : World) : Prop := ∃ v r', e = .returned (.int q v) ∧ Hid (RdStep xs s v r r') ∧ Hid (0 ≤ v ∧ v < 256 ^ s) ∧ Hid (IsR w' g xs r') ∧ Hid (Out (One g) w w')
theorem RPost.outr {g : Nat} {xs : List Int} {r : R} {w w1 w' : World} {e : Ending} (h : RPost g xs r w1 e w') (hu : Up w w1) : RPost g xs r w e w' :=
  ⟨h.1, h.2.1, Lib.hid ((hu.out _).trans h.2.2.out (Sub.refl _ _))⟩
set_option maxRecDepth 100000 in
theorem rnumber_ok {g : Nat} {xs : List Int} {r : R} (s : Nat) (w : World) (h : IsR w g xs r) (h1 : 1 ≤ s) (h8 : s ≤ 8) (hs : r.at_ + s ≤ xs.length) : Calls Try.prog 47 #[.pointer (some ⟨g, 0, none⟩), .int .i64 (s : Int)] w fun e w' => e = .returned (.int .u64 (num 0 ((xs.drop r.at_).take s))) ∧ Hid (IsR w' g xs ⟨r.at_ + s, r.e⟩) ∧ Hid (Out (One g) w w') := by
  obtain ⟨A, m, c, k1, k2, k3⟩ := h.ex
  have hc0 := cell_of k1 (j := 0) rfl
  have hc1 := cell_of k1 (j := 1) rfl
  have hm : m ≤ 140737488351232 := by have := h.len; have := k2.len; omega
  have ham : r.at_ + s ≤ m := by have := k2.len; omega
  have H := Lib.hid h
  have HB := Lib.hid k2
  have HS := Lib.hid hs
  clear h k1 k2 k3 hs
  go_enter Try.func47, Try.ntmps47
  go_upto_region 1 with (fail)
  go_quiet ((go_at_call 32; exact Calls.quiet_of_same ((get_any A m c r.at_ s xs _ (HB.out.up (up_drewN w _)) (by omega) ham h1 h8).mono fun _ _ h => ⟨h.1, h.2.symm⟩)))
  go_wp2_with fail
  refine (rpass_ok s _ (H.out.up (up_drewN w _)) HS.out).mono ?_
  intro e w2 hp
  have HP := Lib.hid (hp.outr (up_drewN w _))
  obtain ⟨rfl, -⟩ := hp
  go_wp2_with fail
  go_ret
  exact ⟨rfl, HP.out.2.1, HP.out.2.2⟩
set_option maxRecDepth 100000 in
theorem rnumber_short {g : Nat} {xs : List Int} {r : R} (s : Nat) (w : World) (h : IsR w g xs r) (h1 : 1 ≤ s) (h8 : s ≤ 8) (hs : xs.length < r.at_ + s) : Calls Try.prog 47 #[.pointer (some ⟨g, 0, none⟩), .int .i64 (s : Int)] w fun e w' => e = .returned (.int .u64 0) ∧ Hid (IsR w' g xs (failR 3 r)) ∧ Hid (Out (One g) w w') := by
  obtain ⟨A, m, c, k1, k2, k3⟩ := h.ex
  have hc0 := cell_of k1 (j := 0) rfl
  have hc1 := cell_of k1 (j := 1) rfl
  have hm : m ≤ 140737488351232 := by have := h.len; have := k2.len; omega
  have ham : m < r.at_ + s := by have := k2.len; omega
  have ha : r.at_ ≤ 140737488351232 := by have := h.len; have := h.at_; omega
  have H := Lib.hid h
  clear h k1 k2 k3 hs
  go_enter Try.func47, Try.ntmps47
  go_upto_region 1 with (fail)
  go_quiet ((go_at_call 32; exact Calls.quiet_of_same ((get_short A m c r.at_ s _ (by omega) ham (by omega) h1 h8).mono fun _ _ h => ⟨h.1, h.2.symm⟩)))
  go_wp2_with fail
  refine (rpass_err (s : Int) 3 _ (H.out.up (up_drewN w _)) (.inl rfl)).mono ?_
  intro e w2 hp
  have HP := Lib.hid (hp.outr (up_drewN w _))
  obtain ⟨rfl, -⟩ := hp
  go_wp2_with fail
  go_ret
  exact ⟨rfl, HP.out.2.1, HP.out.2.2⟩
theorem rnumber {g : Nat} {xs : List Int} {r : R} (s : Nat) (w : World) (h : IsR w g xs r) (h1 : 1 ≤ s) (h8 : s ≤ 8) : Calls Try.prog 47 #[.pointer (some ⟨g, 0, none⟩), .int .i64 (s : Int)] w (NPost .u64 g xs s r w) := by
  by_cases hs : r.at_ + s ≤ xs.length
  · refine (rnumber_ok s w h h1 h8 hs).mono fun e w' ⟨he, hi, ho⟩ => ?_
    obtain ⟨A, m, c, k1, k2, k3⟩ := h.ex
    have hb := num_bd ((xs.drop r.at_).take s) ((k2.byt.drop _).take _)
    rw [show ((xs.drop r.at_).take s).length = s by simp; omega] at hb
    exact ⟨_, _, he, Lib.hid ⟨by rw [rdV, if_pos hs], rfl, hb.1, hb.2⟩, Lib.hid hb, by rw [rdN, if_pos hs]; exact hi, ho⟩
  · refine (rnumber_short s w h h1 h8 (by omega)).mono fun e w' ⟨he, hi, ho⟩ => ?_
    have hp : (0 : Int) < 256 ^ s := Int.pow_pos (by decide)
    exact ⟨_, _, he, Lib.hid ⟨by rw [rdV, if_neg hs], rfl, Int.le_refl _, hp⟩, Lib.hid ⟨Int.le_refl _, hp⟩, by rw [rdN, if_neg hs]; exact hi, ho⟩
set_option maxRecDepth 100000 in
theorem rone {g : Nat} {xs : List Int} {r : R} (w : World) (h : IsR w g xs r) : Calls Try.prog 30 #[.pointer (some ⟨g, 0, none⟩)] w (NPost .u8 g xs 1 r w) := by
  have H := Lib.hid h
  clear h
  go_enter Try.func30, Try.ntmps30
  go_wp2_with fail
  refine (rnumber 1 w H.out (by omega) (by omega)).mono ?_
  rintro e w1 ⟨v, r', rfl, hs, hb, hi, ho⟩
  have b0 := hb.out.1
  have b1 : v < 256 := by have := hb.out.2; simpa using this
  go_wp2_with fail
  go_ret
  exact ⟨v, r', rfl, hs, hb, hi, ho⟩
set_option maxRecDepth 100000 in
theorem rtwo {g : Nat} {xs : List Int} {r : R} (w : World) (h : IsR w g xs r) : Calls Try.prog 48 #[.pointer (some ⟨g, 0, none⟩)] w (NPost .u16 g xs 2 r w) := by
  have H := Lib.hid h
  clear h
  go_enter Try.func48, Try.ntmps48
  go_wp2_with fail
  refine (rnumber 2 w H.out (by omega) (by omega)).mono ?_
  rintro e w1 ⟨v, r', rfl, hs, hb, hi, ho⟩
  have b0 := hb.out.1
  have b1 : v < 65536 := by have := hb.out.2; simpa using this
  go_wp2_with fail
  go_ret
  exact ⟨v, r', rfl, hs, hb, hi, ho⟩
end Go.Proofs.Ytjdcglioppbfhaa
