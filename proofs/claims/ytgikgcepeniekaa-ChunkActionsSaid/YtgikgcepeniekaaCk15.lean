import Derived.Test.YtgikgcepeniekaaCk11
import Derived.Test.YtgikgcepeniekaaCk13
namespace Go.Proofs.Ytgikgcepeniekaa
open Go Go.RowKit
set_option linter.unusedVariables false
set_option linter.unusedSimpArgs false
/-! A piece, read. -/
namespace Ck
def zeroP : Pc := ⟨0, 0, 0, false, false, false, []⟩
end Ck
def PieceOK (ty fl : Int) (xs : List Int) (p : Ck.Pc) : Prop := ty = 0 ∧ fl = Ck.flg p ∧ Ck.chkP p = 0 ∧ Ck.PcOk p ∧ Byt p.bs ∧ xs = encP p
def PcRes (ty fl : Int) (xs : List Int) (p : Ck.Pc) (k : Int) : Prop := (k = 0 ∧ PieceOK ty fl xs p) ∨ (k = 2 ∧ p = Ck.zeroP ∧ ∀ p', ¬ PieceOK ty fl xs p')
theorem flgB_inj : ∀ a b c d e f : Bool, Ck.flgB a b c = Ck.flgB d e f → a = d ∧ b = e ∧ c = f := by decide
theorem flg_inj {p q : Ck.Pc} (h : Ck.flg p = Ck.flg q) : p.bg = q.bg ∧ p.en = q.en ∧ p.un = q.un := flgB_inj _ _ _ _ _ _ h
theorem pieceOK_inj {ty fl : Int} {xs : List Int} {p q : Ck.Pc} (a : PieceOK ty fl xs p) (b : PieceOK ty fl xs q) : p = q := by
  obtain ⟨a1, a2, a3, a4, a5, a6⟩ := a
  obtain ⟨b1, b2, b3, b4, b5, b6⟩ := b
  have e := a6.symm.trans b6
  have ef := flg_inj (a2.symm.trans b2)
  unfold encP at e
  simp only [List.append_assoc] at e
  obtain ⟨e1, e⟩ := app_inj e (by simp [be_length])
  obtain ⟨e2, e⟩ := app_inj e (by simp [be_length])
  obtain ⟨e3, e⟩ := app_inj e (by simp [be_length])
  obtain ⟨-, e⟩ := app_inj e rfl
  have p4 : (256 : Int) ^ 4 = 4294967296 := by decide
  have p2 : (256 : Int) ^ 2 = 65536 := by decide
  have k1 := be_inj e1 (by rw [p4]; exact a4.tsn) (by rw [p4]; exact b4.tsn)
  have k2 := be_inj e2 (by rw [p2]; exact a4.str) (by rw [p2]; exact b4.str)
  have k3 := be_inj e3 (by rw [p2]; exact a4.seq) (by rw [p2]; exact b4.seq)
  obtain ⟨f1, f2, f3⟩ := ef
  obtain ⟨t1, t2, t3, t4, t5, t6, t7⟩ := p
  obtain ⟨u1, u2, u3, u4, u5, u6, u7⟩ := q
  simp only at k1 k2 k3 e f1 f2 f3
  rw [k1, k2, k3, f1, f2, f3, e]
theorem pcRes_inj {ty fl : Int} {xs : List Int} {p q : Ck.Pc} {k k' : Int} (a : PcRes ty fl xs p k) (b : PcRes ty fl xs q k') : p = q ∧ k = k' := by
  rcases a with ⟨a1, a2⟩ | ⟨a1, a2, a3⟩ <;> rcases b with ⟨b1, b2⟩ | ⟨b1, b2, b3⟩
  · exact ⟨pieceOK_inj a2 b2, by omega⟩
  · exact absurd a2 (b3 _)
  · exact absurd b2 (a3 _)
  · exact ⟨by rw [a2, b2], by omega⟩
/-- A flag of a Data. -/
def flB (fl m : Int) : Bool := bits .and .u8 fl m != 0
theorem flB_flgB : ∀ a b c : Bool, flB (Ck.flgB a b c) 2 = a ∧ flB (Ck.flgB a b c) 1 = b ∧ flB (Ck.flgB a b c) 4 = c := by decide +kernel
theorem flB_flg (p : Ck.Pc) : flB (Ck.flg p) 2 = p.bg ∧ flB (Ck.flg p) 1 = p.en ∧ flB (Ck.flg p) 4 = p.un := flB_flgB _ _ _
theorem toP_ok {xs bs : List Int} {t1 t2 t3 t4 fl : Int} {r1 r2 r3 r4 : R} {k : Nat} (hb : Byt xs) (s1 : RdStep xs 4 t1 ⟨0, 0⟩ r1) (s2 : RdStep xs 2 t2 r1 r2) (s3 : RdStep xs 2 t3 r2 r3) (s4 : RdStep xs 4 t4 r3 r4) (hk : (reqR (t4 == 46) r4).at_ + k = xs.length) (hbs : bs = rdB xs k (reqR (t4 == 46) r4)) :
    ((rdN xs k (reqR (t4 == 46) r4)).e = 0 → Ck.flg ⟨t1, t2, t3, flB fl 2, flB fl 1, flB fl 4, bs⟩ = fl → Ck.chkP ⟨t1, t2, t3, flB fl 2, flB fl 1, flB fl 4, bs⟩ = 0 → PieceOK 0 fl xs ⟨t1, t2, t3, flB fl 2, flB fl 1, flB fl 4, bs⟩) ∧
    (∀ p, PieceOK 0 fl xs p → (rdN xs k (reqR (t4 == 46) r4)).e = 0 ∧ Ck.flg ⟨t1, t2, t3, flB fl 2, flB fl 1, flB fl 4, bs⟩ = fl ∧ Ck.chkP ⟨t1, t2, t3, flB fl 2, flB fl 1, flB fl 4, bs⟩ = 0) := by
  have p4 : (256 : Int) ^ 4 = 4294967296 := by decide
  have p2 : (256 : Int) ^ 2 = 65536 := by decide
  have hN : rdN xs k (reqR (t4 == 46) r4) = ⟨(reqR (t4 == 46) r4).at_ + k, (reqR (t4 == 46) r4).e⟩ := by unfold rdN; rw [if_pos (by omega)]
  have hB : bs = xs.drop (reqR (t4 == 46) r4).at_ := by rw [hbs]; unfold rdB; rw [if_pos (by omega)]; exact List.take_of_length_le (by simp; omega)
  rw [hN]
  refine ⟨fun he hf hc => ⟨rfl, hf.symm, hc, ⟨⟨s1.lo, p4 ▸ s1.hi⟩, ⟨s2.lo, p2 ▸ s2.hi⟩, ⟨s3.lo, p2 ▸ s3.hi⟩⟩, by rw [hB]; exact hb.drop _, ?_⟩, fun p hp => ?_⟩
  · simp only at he
    obtain ⟨q1, q2, q3⟩ := req_fwd he
    rw [q3] at hB
    obtain ⟨e3, d4, a4, l4⟩ := rd_fwd s4 hb q2
    obtain ⟨e2, d3, a3, l3⟩ := rd_fwd s3 hb e3
    obtain ⟨e1, d2, a2, l2⟩ := rd_fwd s2 hb e2
    obtain ⟨e0, d1, a1, l1⟩ := rd_fwd s1 hb e1
    have d0 : xs = xs.drop (R.mk 0 0).at_ := by simp
    have h4 : t4 = 46 := by simpa using q1
    conv => lhs; rw [d0, d1, d2, d3, d4, ← hB, h4]
    simp [encP]
  · obtain ⟨a1, a2, a3, a4, a5, a6⟩ := hp
    have hx0 : xs.drop (R.mk 0 0).at_ = be p.tsn 4 ++ (be p.str 2 ++ (be p.seq 2 ++ (be 46 4 ++ p.bs))) := by
      show xs.drop 0 = _
      rw [List.drop_zero]
      conv => lhs; rw [a6]
      simp [encP]
    obtain ⟨v1, e1, d1, l1⟩ := rd_bwd s1 hx0 (by rw [p4]; exact a4.tsn) (Nat.zero_le _)
    obtain ⟨v2, e2, d2, l2⟩ := rd_bwd s2 d1 (by rw [p2]; exact a4.str) l1
    obtain ⟨v3, e3, d3, l3⟩ := rd_bwd s3 d2 (by rw [p2]; exact a4.seq) l2
    obtain ⟨v4, e4, d4, l4⟩ := rd_bwd s4 d3 (by decide) l3
    have hr : reqR (t4 == 46) r4 = r4 := by rw [v4]; rfl
    rw [hr] at hB ⊢
    obtain ⟨g1, g2, g3⟩ := flB_flg p
    rw [← a2] at g1 g2 g3
    have hpp : (⟨t1, t2, t3, flB fl 2, flB fl 1, flB fl 4, bs⟩ : Ck.Pc) = p := by
      obtain ⟨u1, u2, u3, u4, u5, u6, u7⟩ := p
      simp only at v1 v2 v3 g1 g2 g3 d4
      rw [v1, v2, v3, g1, g2, g3, hB, d4]
    rw [hpp]
    exact ⟨by show r4.e = 0; rw [e4, e3, e2, e1], a2.symm, a3⟩
theorem RH.side {g h : Nat} {L : List (Nat × Obj)} {w0 w w' : World} {xs : List Int} {r : R} (H : RH g L w0 xs r w) (ho : Out (fun k => k = h) w w') (hg : g < h) (hL : ∀ p ∈ L, p.1 ≠ h) : RH g L w0 xs r w' := by
  obtain ⟨A0, m0, c0, k1, k2, k3⟩ := H.isR.ex
  exact ⟨⟨⟨A0, m0, c0, ho.blk k1 (fun e => by omega), k2.outS' ho (fun hne k hk e => by have := k3 hne k hk; have e2 : k = h := e; omega), k3⟩, H.isR.len, H.isR.at_⟩,
    fun p hp => ⟨ho.blk (H.kept p hp).1 (hL p hp), (H.kept p hp).2⟩, Below.out H.up ho (fun k hk => by have := H.g0; rw [hk]; omega) H.up.size, H.g0⟩
theorem rwhole_d {g : Nat} {xs : List Int} {r : R} (b : Bool) (w : World) (h : IsR w g xs r) (hb : b = true ↔ r.e = 0 ∧ r.at_ = xs.length) : Calls Try.prog 50 #[.pointer (some ⟨g, 0, none⟩)] w fun e w' => e = .returned (.bool b) ∧ Up w w' :=
  (rwhole w h).mono fun e w' ⟨b', he, hb', hu⟩ => ⟨by
    have : b' = b := by
      have h1 := hb'.out
      cases b <;> cases b' <;> first | rfl | (exfalso; have := h1.1 rfl; have := hb.2 this; cases this) | (exfalso; have := hb.1 rfl; have := h1.2 this; cases this)
    rw [he, this], hu.out⟩
theorem set7 {w : World} {q : Nat} {cs : Array Value} {a b c d e f g : Value} {T : TypeId} (h : w.heap[q]? = some (.cells cs T (0, 0))) (hs : cs.size = 7) :
    (((((((w.setCell ⟨q, 0, none⟩ a).setCell ⟨q, 1, none⟩ b).setCell ⟨q, 2, none⟩ c).setCell ⟨q, 3, none⟩ d).setCell ⟨q, 4, none⟩ e).setCell ⟨q, 5, none⟩ f).setCell ⟨q, 6, none⟩ g).heap[q]? = some (.cells #[a, b, c, d, e, f, g] T (0, 0)) ∧
    Out (fun k => k = q) w (((((((w.setCell ⟨q, 0, none⟩ a).setCell ⟨q, 1, none⟩ b).setCell ⟨q, 2, none⟩ c).setCell ⟨q, 3, none⟩ d).setCell ⟨q, 4, none⟩ e).setCell ⟨q, 5, none⟩ f).setCell ⟨q, 6, none⟩ g) := by
  refine ⟨?_, ((((((setCell_out _ _ _ _).trans (setCell_out _ _ _ _) (Sub.refl _ _)).trans (setCell_out _ _ _ _) (Sub.refl _ _)).trans (setCell_out _ _ _ _) (Sub.refl _ _)).trans (setCell_out _ _ _ _) (Sub.refl _ _)).trans (setCell_out _ _ _ _) (Sub.refl _ _)).trans (setCell_out _ _ _ _) (Sub.refl _ _)⟩
  rw [setCell_at _ (setCell_at _ (setCell_at _ (setCell_at _ (setCell_at _ (setCell_at _ (setCell_at _ h))))))]
  obtain ⟨l⟩ := cs
  match l, hs with
  | [u, v, x, y, z, t, s], _ => rfl
def ToPPost (ty fl : Int) (xs : List Int) (w : World) (e : Ending) (w' : World) : Prop := ∃ p k A N c, e = .returned (.tuple #[pcV p (.slice A N c), .int .i64 k]) ∧ Hid (PcRes ty fl xs p k) ∧ Hid (N = p.bs.length) ∧ Hid (OwnI .u8 5 w.heap.size w' A N c p.bs) ∧ Hid (Byt p.bs) ∧ Hid (Ck.PcOk p) ∧ Hid (Up w w')
theorem pcOk_zero : Ck.PcOk Ck.zeroP := ⟨by decide, by decide, by decide⟩
def PNo (w : World) (e : Ending) (w' : World) : Prop := e = .returned (.tuple #[pcV Ck.zeroP (.slice none 0 0), .int .i64 2]) ∧ Hid (Up w w')
theorem PNo.post {ty fl : Int} {xs : List Int} {w w' : World} {e : Ending} (h : PNo w e w') (hn : ∀ p', ¬ PieceOK ty fl xs p') : ToPPost ty fl xs w e w' :=
  ⟨Ck.zeroP, 2, none, 0, 0, h.1, Lib.hid (.inr ⟨rfl, rfl, hn⟩), Lib.hid rfl, Lib.hid (ownI_nil _ _ _ _), Lib.hid byt_nil, Lib.hid pcOk_zero, h.2⟩
set_option maxRecDepth 100000 in
theorem toP_e1 (A : Option Addr) (m c : Nat) (ty fl : Int) (w : World) (h1 : (ty == 0) = false) : Calls Try.prog 25 #[chV ty fl (.slice A m c)] w (PNo w) := by
  obtain ⟨W, hW⟩ : ∃ W, W = (w.alloc (.cells #[.int .u8 ty, .int .u8 fl, .slice A m c] 41)).alloc (.cells #[.int .u32 0, .int .u16 0, .int .u16 0, .bool false, .bool false, .bool false, .slice none 0 0] 50) := ⟨_, rfl⟩
  have u1 := up_alloc w (.cells #[.int .u8 ty, .int .u8 fl, .slice A m c] 41)
  have a1 := new_at w (.cells #[.int .u8 ty, .int .u8 fl, .slice A m c] 41)
  have u2 := up_alloc (w.alloc (.cells #[.int .u8 ty, .int .u8 fl, .slice A m c] 41)) (.cells #[.int .u32 0, .int .u16 0, .int .u16 0, .bool false, .bool false, .bool false, .slice none 0 0] 50)
  have a2 := new_at (w.alloc (.cells #[.int .u8 ty, .int .u8 fl, .slice A m c] 41)) (.cells #[.int .u32 0, .int .u16 0, .int .u16 0, .bool false, .bool false, .bool false, .slice none 0 0] 50)
  have b1 := (u2.block _ (lt_of_blk a1)).trans a1
  have s1 : (w.alloc (.cells #[.int .u8 ty, .int .u8 fl, .slice A m c] 41)).heap.size = w.heap.size + 1 := by simp
  rw [s1] at a2
  have HS := Lib.hid (show ((w.alloc (.cells #[.int .u8 ty, .int .u8 fl, .slice A m c] 41)).alloc (.cells #[.int .u32 0, .int .u16 0, .int .u16 0, .bool false, .bool false, .bool false, .slice none 0 0] 50)).heap.size = w.heap.size + 1 + 1 by simp)
  have HU := Lib.hid (u1.trans u2)
  rw [← hW] at a2 b1 HU HS
  have HW := Lib.hid hW
  have HQ := Lib.hid a2
  have HB := Lib.hid b1
  have c0 := cell_of b1 (j := 0) rfl
  have c1 := cell_of b1 (j := 1) rfl
  have c2 := cell_of b1 (j := 2) rfl
  clear u1 a1 u2 a2 b1 s1 hW
  unfold chV
  go_enter Try.func25, Try.ntmps25
  go_upto_region 1 with (fail)
  rw [← HW.out]
  have e0 := cell_of HQ.out (j := 0) rfl
  have f0 := frozen_at (j := 0) HQ.out
  have e1 := cell_of HQ.out (j := 1) rfl
  have f1 := frozen_at (j := 1) HQ.out
  have e2 := cell_of HQ.out (j := 2) rfl
  have f2 := frozen_at (j := 2) HQ.out
  have e3 := cell_of HQ.out (j := 3) rfl
  have f3 := frozen_at (j := 3) HQ.out
  have e4 := cell_of HQ.out (j := 4) rfl
  have f4 := frozen_at (j := 4) HQ.out
  have e5 := cell_of HQ.out (j := 5) rfl
  have f5 := frozen_at (j := 5) HQ.out
  have e6 := cell_of HQ.out (j := 6) rfl
  have f6 := frozen_at (j := 6) HQ.out
  go_wp2_with fail
  have hs := set7 (a := .int .u32 0) (b := .int .u16 0) (c := .int .u16 0) (d := .bool false) (e := .bool false) (f := .bool false) (g := .slice none 0 0) HQ.out rfl
  refine bodyPost_ret (results_row_tmp (fn := Try.f25) (p := 2) (u := 3) (ty := 50) rfl _ _ (w.heap.size + 1) 50 _ (0, 0) _ rfl hs.1 Try.underlying50 rfl rfl) rfl ⟨rfl, Lib.hid (Below.out HU.out hs.2 (fun k hk => by rw [hk]; omega) HU.out.size)⟩
end Go.Proofs.Ytgikgcepeniekaa
