import Derived.Test.YtgikgcepeniekaaCkM
import Derived.Test.YtgikgcepeniekaaCk9
namespace Go.Proofs.Ytgikgcepeniekaa
open Go Go.RowKit
set_option linter.unusedVariables false
set_option linter.unusedSimpArgs false
/-! What a side says of itself, read. -/
namespace Ck
def zeroH : Hel := ⟨0, 0, 0, 0, 0, []⟩
end Ck
/-- A chunk of this type, flags and bytes says h. -/
def HelloOK (ty fl : Int) (xs : List Int) (h : Ck.Hel) (ack : Bool) : Prop := ty = (if ack then 2 else 1) ∧ fl = 0 ∧ Ck.chkH h ack = 0 ∧ Ck.HelOk h ∧ Byt h.ck ∧ xs = encH h ack
/-- What is answered of such a chunk. -/
def HelRes (ty fl : Int) (xs : List Int) (h : Ck.Hel) (k : Int) : Prop := (k = 0 ∧ ∃ ack, HelloOK ty fl xs h ack) ∨ (k = 2 ∧ h = Ck.zeroH ∧ ∀ h' ack, ¬ HelloOK ty fl xs h' ack)
theorem chkH_len {h : Ck.Hel} {ack : Bool} (hk : Ck.chkH h ack = 0) : h.ck.length ≤ 256 ∧ (ack = false → h.ck = []) := by
  unfold Ck.chkH at hk
  split at hk
  · omega
  · split at hk
    · omega
    · refine ⟨by omega, fun ha => ?_⟩
      rename_i h1 h2
      apply List.eq_nil_of_length_eq_zero
      have : ¬ (0 < h.ck.length) := fun hl => h1 (.inr (.inr (.inr ⟨ha, hl⟩)))
      omega
theorem app_inj {a b c d : List Int} (h : a ++ b = c ++ d) (hl : a.length = c.length) : a = c ∧ b = d := List.append_inj h hl
theorem encH0_inj {h h' : Ck.Hel} {l l' : List Int} (o : Ck.HelOk h) (o' : Ck.HelOk h') (e : encH0 h ++ l = encH0 h' ++ l') : (h.tag = h'.tag ∧ h.win = h'.win ∧ h.out = h'.out ∧ h.inn = h'.inn ∧ h.tsn = h'.tsn) ∧ l = l' := by
  unfold encH0 at e
  simp only [List.append_assoc] at e
  obtain ⟨e1, e⟩ := app_inj e (by simp [be_length])
  obtain ⟨e2, e⟩ := app_inj e (by simp [be_length])
  obtain ⟨e3, e⟩ := app_inj e (by simp [be_length])
  obtain ⟨e4, e⟩ := app_inj e (by simp [be_length])
  obtain ⟨e5, e⟩ := app_inj e (by simp [be_length])
  have p4 : (256 : Int) ^ 4 = 4294967296 := by decide
  have p2 : (256 : Int) ^ 2 = 65536 := by decide
  exact ⟨⟨be_inj e1 (by rw [p4]; exact o.tag) (by rw [p4]; exact o'.tag), be_inj e2 (by rw [p4]; exact o.win) (by rw [p4]; exact o'.win), be_inj e3 (by rw [p2]; exact o.out) (by rw [p2]; exact o'.out), be_inj e4 (by rw [p2]; exact o.inn) (by rw [p2]; exact o'.inn), be_inj e5 (by rw [p4]; exact o.tsn) (by rw [p4]; exact o'.tsn)⟩, e⟩
theorem padL_inj {a b : List Int} (h : padL a = padL b) (hl : a.length = b.length) : a = b := by
  unfold padL at h
  exact (app_inj h hl).1
theorem helloOK_inj {ty fl : Int} {xs : List Int} {h h' : Ck.Hel} {ack ack' : Bool} (a : HelloOK ty fl xs h ack) (b : HelloOK ty fl xs h' ack') : h = h' ∧ ack = ack' := by
  obtain ⟨a1, a2, a3, a4, a5, a6⟩ := a
  obtain ⟨b1, b2, b3, b4, b5, b6⟩ := b
  have hack : ack = ack' := by
    rw [a1] at b1
    cases ack <;> cases ack' <;> first | rfl | (exfalso; revert b1; decide)
  subst hack
  refine ⟨?_, rfl⟩
  have e := a6.symm.trans b6
  have key : (h.tag = h'.tag ∧ h.win = h'.win ∧ h.out = h'.out ∧ h.inn = h'.inn ∧ h.tsn = h'.tsn) ∧ h.ck = h'.ck := by
    unfold encH at e
    cases ack
    · simp only [Bool.false_eq_true, if_false] at e
      obtain ⟨e1, _⟩ := encH0_inj (l := []) (l' := []) a4 b4 (by simpa using e)
      exact ⟨e1, by rw [(chkH_len a3).2 rfl, (chkH_len b3).2 rfl]⟩
    · simp only [if_true] at e
      simp only [List.append_assoc] at e
      obtain ⟨e1, e⟩ := encH0_inj a4 b4 e
      obtain ⟨-, e⟩ := app_inj e rfl
      obtain ⟨e2, e⟩ := app_inj e (by simp [be_length])
      have p2 : (256 : Int) ^ 2 = 65536 := by decide
      have l1 := (chkH_len a3).1
      have l2 := (chkH_len b3).1
      have e3 := be_inj e2 (by omega) (by omega)
      exact ⟨e1, padL_inj e (by omega)⟩
  obtain ⟨⟨k1, k2, k3, k4, k5⟩, k6⟩ := key
  obtain ⟨t1, t2, t3, t4, t5, t6⟩ := h
  obtain ⟨u1, u2, u3, u4, u5, u6⟩ := h'
  simp only at k1 k2 k3 k4 k5 k6
  rw [k1, k2, k3, k4, k5, k6]
theorem helRes_inj {ty fl : Int} {xs : List Int} {h h' : Ck.Hel} {k k' : Int} (a : HelRes ty fl xs h k) (b : HelRes ty fl xs h' k') : h = h' ∧ k = k' := by
  rcases a with ⟨a1, ack, a2⟩ | ⟨a1, a2, a3⟩ <;> rcases b with ⟨b1, ack', b2⟩ | ⟨b1, b2, b3⟩
  · exact ⟨(helloOK_inj a2 b2).1, by omega⟩
  · exact absurd a2 (b3 _ _)
  · exact absurd b2 (a3 _ _)
  · exact ⟨by rw [a2, b2], by omega⟩
section
variable {xs bs : List Int} {t1 t2 t3 t4 t5 t6 : Int} {r1 r2 r3 r4 r5 r6 r7 : R}
theorem toH_five (hb : Byt xs) (s1 : RdStep xs 4 t1 ⟨0, 0⟩ r1) (s2 : RdStep xs 4 t2 r1 r2) (s3 : RdStep xs 2 t3 r2 r3) (s4 : RdStep xs 2 t4 r3 r4) (s5 : RdStep xs 4 t5 r4 r5) (he : r5.e = 0) : xs = encH0 ⟨t1, t2, t3, t4, t5, bs⟩ ++ xs.drop r5.at_ ∧ r5.at_ ≤ xs.length := by
  obtain ⟨e4, d5, a5, l5⟩ := rd_fwd s5 hb he
  obtain ⟨e3, d4, a4, l4⟩ := rd_fwd s4 hb e4
  obtain ⟨e2, d3, a3, l3⟩ := rd_fwd s3 hb e3
  obtain ⟨e1, d2, a2, l2⟩ := rd_fwd s2 hb e2
  obtain ⟨e0, d1, a1, l1⟩ := rd_fwd s1 hb e1
  refine ⟨?_, by omega⟩
  have d0 : xs = xs.drop (R.mk 0 0).at_ := by simp
  conv => lhs; rw [d0, d1, d2, d3, d4, d5]
  simp [encH0]
theorem toH_ok5 (s1 : RdStep xs 4 t1 ⟨0, 0⟩ r1) (s2 : RdStep xs 4 t2 r1 r2) (s3 : RdStep xs 2 t3 r2 r3) (s4 : RdStep xs 2 t4 r3 r4) (s5 : RdStep xs 4 t5 r4 r5) : Ck.HelOk ⟨t1, t2, t3, t4, t5, bs⟩ := by
  have p4 : (256 : Int) ^ 4 = 4294967296 := by decide
  have p2 : (256 : Int) ^ 2 = 65536 := by decide
  exact ⟨⟨s1.lo, p4 ▸ s1.hi⟩, ⟨s2.lo, p4 ▸ s2.hi⟩, ⟨s3.lo, p2 ▸ s3.hi⟩, ⟨s4.lo, p2 ▸ s4.hi⟩, ⟨s5.lo, p4 ▸ s5.hi⟩⟩
theorem toH_back5 {h : Ck.Hel} {l : List Int} (ho : Ck.HelOk h) (hx : xs = encH0 h ++ l) (s1 : RdStep xs 4 t1 ⟨0, 0⟩ r1) (s2 : RdStep xs 4 t2 r1 r2) (s3 : RdStep xs 2 t3 r2 r3) (s4 : RdStep xs 2 t4 r3 r4) (s5 : RdStep xs 4 t5 r4 r5) :
    (t1 = h.tag ∧ t2 = h.win ∧ t3 = h.out ∧ t4 = h.inn ∧ t5 = h.tsn) ∧ r5.e = 0 ∧ xs.drop r5.at_ = l ∧ r5.at_ ≤ xs.length := by
  have p4 : (256 : Int) ^ 4 = 4294967296 := by decide
  have p2 : (256 : Int) ^ 2 = 65536 := by decide
  have hx0 : xs.drop (R.mk 0 0).at_ = be h.tag 4 ++ (be h.win 4 ++ (be h.out 2 ++ (be h.inn 2 ++ (be h.tsn 4 ++ l)))) := by
    show xs.drop 0 = _
    rw [List.drop_zero]
    conv => lhs; rw [hx]
    simp [encH0]
  obtain ⟨v1, e1, d1, a1⟩ := rd_bwd s1 hx0 (by rw [p4]; exact ho.tag) (Nat.zero_le _)
  obtain ⟨v2, e2, d2, a2⟩ := rd_bwd s2 d1 (by rw [p4]; exact ho.win) a1
  obtain ⟨v3, e3, d3, a3⟩ := rd_bwd s3 d2 (by rw [p2]; exact ho.out) a2
  obtain ⟨v4, e4, d4, a4⟩ := rd_bwd s4 d3 (by rw [p2]; exact ho.inn) a3
  obtain ⟨v5, e5, d5, a5⟩ := rd_bwd s5 d4 (by rw [p4]; exact ho.tsn) a4
  exact ⟨⟨v1, v2, v3, v4, v5⟩, by rw [e5, e4, e3, e2, e1], d5, a5⟩
/-- An Init: what was read, and whether it may stand. -/
theorem toH_f (hb : Byt xs) (s1 : RdStep xs 4 t1 ⟨0, 0⟩ r1) (s2 : RdStep xs 4 t2 r1 r2) (s3 : RdStep xs 2 t3 r2 r3) (s4 : RdStep xs 2 t4 r3 r4) (s5 : RdStep xs 4 t5 r4 r5) :
    (r5.e = 0 → r5.at_ = xs.length → Ck.chkH ⟨t1, t2, t3, t4, t5, []⟩ false = 0 → HelloOK 1 0 xs ⟨t1, t2, t3, t4, t5, []⟩ false) ∧
    (∀ h ack, HelloOK 1 0 xs h ack → r5.e = 0 ∧ r5.at_ = xs.length ∧ Ck.chkH ⟨t1, t2, t3, t4, t5, []⟩ false = 0) := by
  refine ⟨fun he ha hc => ⟨rfl, rfl, hc, toH_ok5 s1 s2 s3 s4 s5, byt_nil, ?_⟩, fun h ack ho => ?_⟩
  · have := (toH_five (bs := []) hb s1 s2 s3 s4 s5 he).1
    rw [ha, List.drop_length, List.append_nil] at this
    exact this
  · obtain ⟨a1, a2, a3, a4, a5, a6⟩ := ho
    obtain rfl : ack = false := by cases ack; rfl; exact absurd a1 (by decide)
    have hx : xs = encH0 h ++ [] := by rw [a6]; simp [encH]
    obtain ⟨⟨v1, v2, v3, v4, v5⟩, e5, d5, l5⟩ := toH_back5 a4 hx s1 s2 s3 s4 s5
    refine ⟨e5, ?_, ?_⟩
    · have := congrArg List.length d5; simp at this; omega
    · have hn := (chkH_len a3).2 rfl
      rw [v1, v2, v3, v4, v5, ← hn]; exact a3
/-- An InitAck. -/
theorem toH_t (hb : Byt xs) (s1 : RdStep xs 4 t1 ⟨0, 0⟩ r1) (s2 : RdStep xs 4 t2 r1 r2) (s3 : RdStep xs 2 t3 r2 r3) (s4 : RdStep xs 2 t4 r3 r4) (s5 : RdStep xs 4 t5 r4 r5) (s6 : RdStep xs 2 t6 r5 r6) (s7 : PdStep xs bs (reqR (t6 == 7) r6) r7) (hbs : Byt bs) :
    (r7.e = 0 → r7.at_ = xs.length → Ck.chkH ⟨t1, t2, t3, t4, t5, bs⟩ true = 0 → HelloOK 2 0 xs ⟨t1, t2, t3, t4, t5, bs⟩ true) ∧
    (∀ h ack, HelloOK 2 0 xs h ack → r7.e = 0 ∧ r7.at_ = xs.length ∧ Ck.chkH ⟨t1, t2, t3, t4, t5, bs⟩ true = 0) := by
  refine ⟨fun he ha hc => ⟨rfl, rfl, hc, toH_ok5 s1 s2 s3 s4 s5, hbs, ?_⟩, fun h ack ho => ?_⟩
  · obtain ⟨e6, d7, l7, a7, -⟩ := pd_fwd s7 hb he
    obtain ⟨q1, q2, q3⟩ := req_fwd e6
    rw [q3] at d7
    obtain ⟨e5, d6, a6, -⟩ := rd_fwd s6 hb q2
    have := (toH_five (bs := bs) hb s1 s2 s3 s4 s5 e5).1
    rw [ha, List.drop_length, List.append_nil] at d7
    have h7 : t6 = 7 := by simpa using q1
    rw [d6, d7, h7] at this
    rw [this]; simp [encH]
  · obtain ⟨a1, a2, a3, a4, a5, a6⟩ := ho
    obtain rfl : ack = true := by cases ack; exact absurd a1 (by decide); rfl
    have hl := (chkH_len a3).1
    have hx : xs = encH0 h ++ (be 7 2 ++ (be (4 + (h.ck.length : Int)) 2 ++ padL h.ck ++ [])) := by rw [a6]; simp [encH]
    obtain ⟨⟨v1, v2, v3, v4, v5⟩, e5, d5, l5⟩ := toH_back5 a4 hx s1 s2 s3 s4 s5
    obtain ⟨v6, e6, d6, l6⟩ := rd_bwd s6 d5 (by decide) l5
    have hr : reqR (t6 == 7) r6 = r6 := by rw [v6]; rfl
    rw [hr] at s7
    obtain ⟨v7, e7, d7, l7⟩ := pd_bwd s7 d6 (by omega) l6
    refine ⟨by rw [e7, e6, e5], ?_, ?_⟩
    · have := congrArg List.length d7; simp at this; omega
    · rw [v1, v2, v3, v4, v5, v7]; exact a3
end
/-- A reader, next to blocks that stay. -/
structure RH (g : Nat) (L : List (Nat × Obj)) (w0 : World) (xs : List Int) (r : R) (w : World) : Prop where
  isR : IsR w g xs r
  kept : ∀ p ∈ L, w.heap[p.1]? = some p.2 ∧ p.1 ≠ g
  up : Up w0 w
  g0 : w0.heap.size ≤ g
section
variable {g : Nat} {L : List (Nat × Obj)} {w0 w w' : World} {xs : List Int} {r r' : R}
theorem RH.step (h : RH g L w0 xs r w) (hi : Hid (IsR w' g xs r')) (ho : Hid (Out (One g) w w')) : RH g L w0 xs r' w' :=
  ⟨hi.out, fun p hp => ⟨ho.out.blk (h.kept p hp).1 (h.kept p hp).2, (h.kept p hp).2⟩, Below.out h.up ho.out (fun k hk => by rw [show k = g from hk]; exact h.g0) h.up.size, h.g0⟩
theorem RH.next (h : RH g L w0 xs r w) (hu : Up w w') : RH g L w0 xs r w' :=
  ⟨h.isR.up hu, fun p hp => ⟨(hu.block _ (lt_of_blk (h.kept p hp).1)).trans (h.kept p hp).1, (h.kept p hp).2⟩, h.up.trans hu, h.g0⟩
theorem RH.add (h : RH g L w0 xs r w) (o : Obj) : RH g ((w.heap.size, o) :: L) w0 xs r (w.alloc o) := by
  have h1 := h.next (up_alloc w o)
  refine ⟨h1.isR, fun p hp => ?_, h1.up, h1.g0⟩
  rcases List.mem_cons.1 hp with rfl | hp
  · exact ⟨new_at _ _, fun e => by have := h.isR.lt; simp only at e; omega⟩
  · exact h1.kept p hp
theorem RH.start {A : Option Addr} {m c : Nat} (hin : InB w0 A m c xs) (hm : m ≤ 140737488351232) (hu : Up w0 w) (hL : ∀ p ∈ L, w.heap[p.1]? = some p.2) : RH w.heap.size L w0 xs ⟨0, 0⟩ (w.alloc (.cells #[.slice A m c, .int .i64 0, .int .i64 0] 77)) := by
  have u := up_alloc w (.cells #[.slice A m c, .int .i64 0, .int .i64 0] 77)
  exact ⟨⟨⟨A, m, c, new_at _ _, (hin.up hu).up u, fun hne k hk => by have := hin.lt hne hk; have := hu.size; omega⟩, by have := hin.len; omega, Nat.zero_le _⟩, fun p hp => ⟨(u.block _ (lt_of_blk (hL p hp))).trans (hL p hp), fun e => by have := lt_of_blk (hL p hp); omega⟩, hu.trans u, hu.size⟩
end
theorem set6 {w : World} {q : Nat} {cs : Array Value} {a b c d e f : Value} {T : TypeId} (h : w.heap[q]? = some (.cells cs T (0, 0))) (hs : cs.size = 6) :
    ((((((w.setCell ⟨q, 0, none⟩ a).setCell ⟨q, 1, none⟩ b).setCell ⟨q, 2, none⟩ c).setCell ⟨q, 3, none⟩ d).setCell ⟨q, 4, none⟩ e).setCell ⟨q, 5, none⟩ f).heap[q]? = some (.cells #[a, b, c, d, e, f] T (0, 0)) ∧
    Out (fun k => k = q) w ((((((w.setCell ⟨q, 0, none⟩ a).setCell ⟨q, 1, none⟩ b).setCell ⟨q, 2, none⟩ c).setCell ⟨q, 3, none⟩ d).setCell ⟨q, 4, none⟩ e).setCell ⟨q, 5, none⟩ f) := by
  refine ⟨?_, (((((setCell_out _ _ _ _).trans (setCell_out _ _ _ _) (Sub.refl _ _)).trans (setCell_out _ _ _ _) (Sub.refl _ _)).trans (setCell_out _ _ _ _) (Sub.refl _ _)).trans (setCell_out _ _ _ _) (Sub.refl _ _)).trans (setCell_out _ _ _ _) (Sub.refl _ _)⟩
  rw [setCell_at _ (setCell_at _ (setCell_at _ (setCell_at _ (setCell_at _ (setCell_at _ h)))))]
  obtain ⟨l⟩ := cs
  match l, hs with
  | [u, v, x, y, z, t], _ => rfl
/-- Behind a reading of what a side says of itself. -/
def ToHPost (ty fl : Int) (xs : List Int) (w : World) (e : Ending) (w' : World) : Prop := ∃ h k A N c, e = .returned (.tuple #[helV h (.slice A N c), .int .i64 k]) ∧ Hid (HelRes ty fl xs h k) ∧ Hid (N = h.ck.length) ∧ Hid (OwnI .u8 5 w.heap.size w' A N c h.ck) ∧ Hid (Byt h.ck) ∧ Hid (Ck.HelOk h) ∧ Hid (Up w w')
theorem helOk_zero : Ck.HelOk Ck.zeroH := ⟨by decide, by decide, by decide, by decide, by decide⟩
/-- Nothing was read. -/
def HNo (w : World) (e : Ending) (w' : World) : Prop := e = .returned (.tuple #[helV Ck.zeroH (.slice none 0 0), .int .i64 2]) ∧ Hid (Up w w')
theorem HNo.post {ty fl : Int} {xs : List Int} {w w' : World} {e : Ending} (h : HNo w e w') (hn : ∀ h' ack, ¬ HelloOK ty fl xs h' ack) : ToHPost ty fl xs w e w' :=
  ⟨Ck.zeroH, 2, none, 0, 0, h.1, Lib.hid (.inr ⟨rfl, rfl, hn⟩), Lib.hid rfl, Lib.hid (ownI_nil _ _ _ _), Lib.hid byt_nil, Lib.hid helOk_zero, h.2⟩
end Go.Proofs.Ytgikgcepeniekaa
