import Derived.Test.YtgikgcepeniekaaCk12
import Derived.Test.YtgikgcepeniekaaCk16
import Derived.Test.YtgikgcepeniekaaCk21
import Derived.Test.YtgikgcepeniekaaBytesC
import Derived.Lib.Bytes
namespace Go.Proofs.Ytgikgcepeniekaa
open Go Go.RowKit
set_option linter.unusedVariables false
set_option linter.unusedSimpArgs false
/-! The reference's SameChunk, SameHello, SamePiece. -/
theorem conv_up {A : Option Addr} {n c : Nat} {xs : List Int} {w w' : World} (h : InB w A n c xs) (hu : Up w w') : (convert 23 9 (.slice A n c)).run Try.prog w' = .ok (.string (strOfNums xs)) w' := conv_I (P := Try.prog) Try.underlying23 Try.underlying5 Try.underlying9 (h.up hu).isI
theorem map_u8 : ∀ {xs ys : List Int}, Byt xs → Byt ys → xs.map (fun n => UInt8.ofNat n.toNat) = ys.map (fun n => UInt8.ofNat n.toNat) → xs = ys
  | [], [], _, _, _ => rfl
  | [], _ :: _, _, _, h => by simp at h
  | _ :: _, [], _, _, h => by simp at h
  | x :: xs, y :: ys, hx, hy, h => by
    simp only [List.map_cons, List.cons.injEq] at h
    have h1 := hx x (by simp)
    have h2 := hy y (by simp)
    have h3 := congrArg UInt8.toNat h.1
    simp only [UInt8.toNat_ofNat'] at h3
    have h4 : x = y := by omega
    rw [h4, map_u8 (fun z hz => hx z (by simp [hz])) (fun z hz => hy z (by simp [hz])) h.2]
theorem str_eq {xs ys : List Int} (hx : Byt xs) (hy : Byt ys) : ((strOfNums xs).toList == (strOfNums ys).toList) = decide (xs = ys) := by
  by_cases h : xs = ys
  · subst h; simp
  · rw [decide_eq_false h, beq_eq_false_iff_ne]
    intro e
    rw [Lib.strOfNums_toList, Lib.strOfNums_toList] at e
    exact h (map_u8 hx hy e)
def RetB (b : Bool) (w : World) (e : Ending) (w' : World) : Prop := e = .returned (.bool b) ∧ Hid (Up w w')
set_option maxRecDepth 100000 in
set_option maxHeartbeats 2000000 in
theorem sameC_0 (a0 a1 b0 b1 : Int) (A B : Option Addr) (n m c d : Nat) (w : World) (hn : ¬ (a0 = b0 ∧ a1 = b1)) :
    Calls Try.prog 19 #[.agg #[.int .u8 a0, .int .u8 a1, .slice A n c], .agg #[.int .u8 b0, .int .u8 b1, .slice B m d]] w (RetB false w) := by
  have HN := Lib.hid hn
  clear hn
  go_enter Try.func19, Try.ntmps19
  go_upto_region 1 with (fail)
  have HU := Lib.hid ((up_alloc w (.cells #[.int .u8 a0, .int .u8 a1, .slice A n c] 41)).trans (up_alloc _ (.cells #[.int .u8 b0, .int .u8 b1, .slice B m d] 41)))
  go_wp2_with fail
  all_goals first
    | (exfalso; exact HN.out ⟨by assumption, by assumption⟩)
    | (go_ret; exact ⟨rfl, Lib.hid (by simpa [*] using HU.out)⟩)
set_option maxRecDepth 100000 in
set_option maxHeartbeats 2000000 in
theorem sameC_1 (a0 a1 : Int) (xs ys : List Int) (A B : Option Addr) (n m c d : Nat) (w : World) (ha : InB w A n c xs) (hb : InB w B m d ys) :
    Calls Try.prog 19 #[.agg #[.int .u8 a0, .int .u8 a1, .slice A n c], .agg #[.int .u8 a0, .int .u8 a1, .slice B m d]] w (RetB (decide (xs = ys)) w) := by
  have HA := Lib.hid ha
  have HB := Lib.hid hb
  clear ha hb
  go_enter Try.func19, Try.ntmps19
  go_upto_region 1 with (fail)
  have HU := Lib.hid ((up_alloc w (.cells #[.int .u8 a0, .int .u8 a1, .slice A n c] 41)).trans (up_alloc _ (.cells #[.int .u8 a0, .int .u8 a1, .slice B m d] 41)))
  have h1 := conv_up HA.out HU.out
  have h2 := conv_up HB.out HU.out
  go_wp2_with fail
  go_ret
  exact ⟨by simp [str_eq HA.out.byt HB.out.byt], HU⟩
instance : DecidableEq Ck.Chk := fun a b => if h : (a.ty = b.ty ∧ a.fl = b.fl) ∧ a.bs = b.bs then .isTrue (by
    obtain ⟨a1, a2, a3⟩ := a
    obtain ⟨b1, b2, b3⟩ := b
    simp at h ⊢
    simp [h]) else .isFalse (fun e => h (by subst e; simp))
theorem sameC (f g : Ck.Chk) (A B : Option Addr) (n m c d : Nat) (w : World) (ha : InB w A n c f.bs) (hb : InB w B m d g.bs) : Calls Try.prog 19 #[chV f.ty f.fl (.slice A n c), chV g.ty g.fl (.slice B m d)] w (RetB (decide (f = g)) w) := by
  obtain ⟨a0, a1, xs⟩ := f
  obtain ⟨b0, b1, ys⟩ := g
  by_cases h : a0 = b0 ∧ a1 = b1
  · obtain ⟨rfl, rfl⟩ := h
    have e : decide ((⟨a0, a1, xs⟩ : Ck.Chk) = ⟨a0, a1, ys⟩) = decide (xs = ys) := by simp
    rw [e]; exact sameC_1 a0 a1 xs ys A B n m c d w ha hb
  · have e : decide ((⟨a0, a1, xs⟩ : Ck.Chk) = ⟨b0, b1, ys⟩) = false := by
      rw [decide_eq_false_iff_not]; intro e; injection e with e1 e2 e3; exact h ⟨e1, e2⟩
    rw [e]; exact sameC_0 a0 a1 b0 b1 A B n m c d w h
set_option maxRecDepth 100000 in
set_option maxHeartbeats 2000000 in
theorem sameH_0 (a0 a1 a2 a3 a4 b0 b1 b2 b3 b4 : Int) (A B : Option Addr) (n m c d : Nat) (w : World) (hn : ¬ (a0 = b0 ∧ a1 = b1 ∧ a2 = b2 ∧ a3 = b3 ∧ a4 = b4)) :
    Calls Try.prog 21 #[.agg #[.int .u32 a0, .int .u32 a1, .int .u16 a2, .int .u16 a3, .int .u32 a4, .slice A n c], .agg #[.int .u32 b0, .int .u32 b1, .int .u16 b2, .int .u16 b3, .int .u32 b4, .slice B m d]] w (RetB false w) := by
  have HN := Lib.hid hn
  clear hn
  go_enter Try.func21, Try.ntmps21
  go_upto_region 1 with (fail)
  have HU := Lib.hid ((up_alloc w (.cells #[.int .u32 a0, .int .u32 a1, .int .u16 a2, .int .u16 a3, .int .u32 a4, .slice A n c] 39)).trans (up_alloc _ (.cells #[.int .u32 b0, .int .u32 b1, .int .u16 b2, .int .u16 b3, .int .u32 b4, .slice B m d] 39)))
  go_wp2_with fail
  all_goals first
    | (exfalso; exact HN.out ⟨by assumption, by assumption, by assumption, by assumption, by assumption⟩)
    | (go_ret; exact ⟨rfl, Lib.hid (by simpa [*] using HU.out)⟩)
set_option maxRecDepth 100000 in
set_option maxHeartbeats 2000000 in
theorem sameH_1 (a0 a1 a2 a3 a4 : Int) (xs ys : List Int) (A B : Option Addr) (n m c d : Nat) (w : World) (ha : InB w A n c xs) (hb : InB w B m d ys) :
    Calls Try.prog 21 #[.agg #[.int .u32 a0, .int .u32 a1, .int .u16 a2, .int .u16 a3, .int .u32 a4, .slice A n c], .agg #[.int .u32 a0, .int .u32 a1, .int .u16 a2, .int .u16 a3, .int .u32 a4, .slice B m d]] w (RetB (decide (xs = ys)) w) := by
  have HA := Lib.hid ha
  have HB := Lib.hid hb
  clear ha hb
  go_enter Try.func21, Try.ntmps21
  go_upto_region 1 with (fail)
  have HU := Lib.hid ((up_alloc w (.cells #[.int .u32 a0, .int .u32 a1, .int .u16 a2, .int .u16 a3, .int .u32 a4, .slice A n c] 39)).trans (up_alloc _ (.cells #[.int .u32 a0, .int .u32 a1, .int .u16 a2, .int .u16 a3, .int .u32 a4, .slice B m d] 39)))
  have h1 := conv_up HA.out HU.out
  have h2 := conv_up HB.out HU.out
  go_wp2_with fail
  go_ret
  exact ⟨by simp [str_eq HA.out.byt HB.out.byt], HU⟩
instance : DecidableEq Ck.Hel := fun a b => if h : (a.tag = b.tag ∧ a.win = b.win ∧ a.out = b.out ∧ a.inn = b.inn ∧ a.tsn = b.tsn) ∧ a.ck = b.ck then .isTrue (by
    obtain ⟨a1, a2, a3, a4, a5, a6⟩ := a
    obtain ⟨b1, b2, b3, b4, b5, b6⟩ := b
    simp at h ⊢
    simp [h]) else .isFalse (fun e => h (by subst e; simp))
theorem sameH (f g : Ck.Hel) (A B : Option Addr) (n m c d : Nat) (w : World) (ha : InB w A n c f.ck) (hb : InB w B m d g.ck) : Calls Try.prog 21 #[helV f (.slice A n c), helV g (.slice B m d)] w (RetB (decide (f = g)) w) := by
  obtain ⟨a0, a1, a2, a3, a4, xs⟩ := f
  obtain ⟨b0, b1, b2, b3, b4, ys⟩ := g
  by_cases h : a0 = b0 ∧ a1 = b1 ∧ a2 = b2 ∧ a3 = b3 ∧ a4 = b4
  · obtain ⟨rfl, rfl, rfl, rfl, rfl⟩ := h
    have e : decide ((⟨a0, a1, a2, a3, a4, xs⟩ : Ck.Hel) = ⟨a0, a1, a2, a3, a4, ys⟩) = decide (xs = ys) := by simp
    rw [e]; exact sameH_1 a0 a1 a2 a3 a4 xs ys A B n m c d w ha hb
  · have e : decide ((⟨a0, a1, a2, a3, a4, xs⟩ : Ck.Hel) = ⟨b0, b1, b2, b3, b4, ys⟩) = false := by
      rw [decide_eq_false_iff_not]; intro e; injection e with e1 e2 e3 e4 e5; exact h ⟨e1, e2, e3, e4, e5⟩
    rw [e]; exact sameH_0 _ _ _ _ _ _ _ _ _ _ A B n m c d w h
set_option maxRecDepth 100000 in
set_option maxHeartbeats 2000000 in
theorem sameP_0 (a0 a1 a2 b0 b1 b2 : Int) (a3 a4 a5 b3 b4 b5 : Bool) (A B : Option Addr) (n m c d : Nat) (w : World) (hn : ¬ (a0 = b0 ∧ a1 = b1 ∧ a2 = b2 ∧ a3 = b3 ∧ a4 = b4 ∧ a5 = b5)) :
    Calls Try.prog 26 #[.agg #[.int .u32 a0, .int .u16 a1, .int .u16 a2, .bool a3, .bool a4, .bool a5, .slice A n c], .agg #[.int .u32 b0, .int .u16 b1, .int .u16 b2, .bool b3, .bool b4, .bool b5, .slice B m d]] w (RetB false w) := by
  have HN := Lib.hid hn
  clear hn
  go_enter Try.func26, Try.ntmps26
  go_upto_region 1 with (fail)
  have HU := Lib.hid ((up_alloc w (.cells #[.int .u32 a0, .int .u16 a1, .int .u16 a2, .bool a3, .bool a4, .bool a5, .slice A n c] 50)).trans (up_alloc _ (.cells #[.int .u32 b0, .int .u16 b1, .int .u16 b2, .bool b3, .bool b4, .bool b5, .slice B m d] 50)))
  go_wp2_with fail
  all_goals first
    | (exfalso; exact HN.out ⟨by assumption, by assumption, by assumption, by assumption, by assumption, by assumption⟩)
    | (go_ret; exact ⟨rfl, Lib.hid (by simpa [*] using HU.out)⟩)
set_option maxRecDepth 100000 in
set_option maxHeartbeats 2000000 in
theorem sameP_1 (a0 a1 a2 : Int) (a3 a4 a5 : Bool) (xs ys : List Int) (A B : Option Addr) (n m c d : Nat) (w : World) (ha : InB w A n c xs) (hb : InB w B m d ys) :
    Calls Try.prog 26 #[.agg #[.int .u32 a0, .int .u16 a1, .int .u16 a2, .bool a3, .bool a4, .bool a5, .slice A n c], .agg #[.int .u32 a0, .int .u16 a1, .int .u16 a2, .bool a3, .bool a4, .bool a5, .slice B m d]] w (RetB (decide (xs = ys)) w) := by
  have HA := Lib.hid ha
  have HB := Lib.hid hb
  clear ha hb
  go_enter Try.func26, Try.ntmps26
  go_upto_region 1 with (fail)
  have HU := Lib.hid ((up_alloc w (.cells #[.int .u32 a0, .int .u16 a1, .int .u16 a2, .bool a3, .bool a4, .bool a5, .slice A n c] 50)).trans (up_alloc _ (.cells #[.int .u32 a0, .int .u16 a1, .int .u16 a2, .bool a3, .bool a4, .bool a5, .slice B m d] 50)))
  have h1 := conv_up HA.out HU.out
  have h2 := conv_up HB.out HU.out
  go_wp2_with fail
  go_ret
  exact ⟨by simp [str_eq HA.out.byt HB.out.byt], HU⟩
instance : DecidableEq Ck.Pc := fun a b => if h : (a.tsn = b.tsn ∧ a.str = b.str ∧ a.seq = b.seq ∧ a.bg = b.bg ∧ a.en = b.en ∧ a.un = b.un) ∧ a.bs = b.bs then .isTrue (by
    obtain ⟨a1, a2, a3, a4, a5, a6, a7⟩ := a
    obtain ⟨b1, b2, b3, b4, b5, b6, b7⟩ := b
    simp at h ⊢
    simp [h]) else .isFalse (fun e => h (by subst e; simp))
theorem sameP (f g : Ck.Pc) (A B : Option Addr) (n m c d : Nat) (w : World) (ha : InB w A n c f.bs) (hb : InB w B m d g.bs) : Calls Try.prog 26 #[pcV f (.slice A n c), pcV g (.slice B m d)] w (RetB (decide (f = g)) w) := by
  obtain ⟨a0, a1, a2, a3, a4, a5, xs⟩ := f
  obtain ⟨b0, b1, b2, b3, b4, b5, ys⟩ := g
  by_cases h : a0 = b0 ∧ a1 = b1 ∧ a2 = b2 ∧ a3 = b3 ∧ a4 = b4 ∧ a5 = b5
  · obtain ⟨rfl, rfl, rfl, rfl, rfl, rfl⟩ := h
    have e : decide ((⟨a0, a1, a2, a3, a4, a5, xs⟩ : Ck.Pc) = ⟨a0, a1, a2, a3, a4, a5, ys⟩) = decide (xs = ys) := by simp
    rw [e]; exact sameP_1 a0 a1 a2 a3 a4 a5 xs ys A B n m c d w ha hb
  · have e : decide ((⟨a0, a1, a2, a3, a4, a5, xs⟩ : Ck.Pc) = ⟨b0, b1, b2, b3, b4, b5, ys⟩) = false := by
      rw [decide_eq_false_iff_not]; intro e; injection e with e1 e2 e3 e4 e5 e6; exact h ⟨e1, e2, e3, e4, e5, e6⟩
    rw [e]; exact sameP_0 _ _ _ _ _ _ _ _ _ _ _ _ A B n m c d w h
end Go.Proofs.Ytgikgcepeniekaa
