import Derived.Test.YtgikgcepeniekaaCk15
import Derived.Test.YtgikgcepeniekaaCk17
import Derived.Test.YtgikgcepeniekaaCkR
namespace Go.Proofs.Ytgikgcepeniekaa
open Go Go.RowKit
set_option linter.unusedVariables false
set_option linter.unusedSimpArgs false
/-! What came, read: mathematics. -/
theorem List.reverseRecOn' {α : Type} {P : List α → Prop} (nil : P []) (snoc : ∀ l x, P l → P (l ++ [x])) (l : List α) : P l := by
  have : ∀ m : List α, P m.reverse := by
    intro m
    induction m with
    | nil => exact nil
    | cons x m ih => rw [List.reverse_cons]; exact snoc _ _ ih
  have h := this l.reverse
  rwa [List.reverse_reverse] at h
def gapsR (xs : List Int) : Nat → R → List (Int × Int) × R
  | 0, r => ([], r)
  | k + 1, r => ((gapsR xs k r).1 ++ [(rdV xs 2 (gapsR xs k r).2, rdV xs 2 (rdN xs 2 (gapsR xs k r).2))], rdN xs 2 (rdN xs 2 (gapsR xs k r).2))
def dupsR (xs : List Int) : Nat → R → List Int × R
  | 0, r => ([], r)
  | k + 1, r => ((dupsR xs k r).1 ++ [rdV xs 4 (dupsR xs k r).2], rdN xs 4 (dupsR xs k r).2)
section
variable {xs : List Int}
theorem rdV_bd (hb : Byt xs) (s : Nat) (r : R) : 0 ≤ rdV xs s r ∧ rdV xs s r < 256 ^ s := by
  unfold rdV
  split
  · have := num_bd ((xs.drop r.at_).take s) ((hb.drop _).take _)
    rwa [show ((xs.drop r.at_).take s).length = s by simp; omega] at this
  · exact ⟨Int.le_refl _, Int.pow_pos (by decide)⟩
theorem rdStep_fun (hb : Byt xs) (s : Nat) (r : R) : RdStep xs s (rdV xs s r) r (rdN xs s r) := ⟨rfl, rfl, (rdV_bd hb s r).1, (rdV_bd hb s r).2⟩
theorem gapsR_len (k : Nat) (r : R) : (gapsR xs k r).1.length = k := by induction k with | zero => rfl | succ k ih => simp [gapsR, ih]
theorem dupsR_len (k : Nat) (r : R) : (dupsR xs k r).1.length = k := by induction k with | zero => rfl | succ k ih => simp [dupsR, ih]
theorem gapsR_ok (hb : Byt xs) (k : Nat) (r : R) : GapOk (gapsR xs k r).1 := by
  induction k with
  | zero => intro g hg; cases hg
  | succ k ih =>
    intro g hg
    rcases List.mem_append.1 hg with h | h
    · exact ih g h
    · rw [List.mem_singleton] at h
      subst h
      have p2 : (256 : Int) ^ 2 = 65536 := by decide
      have a := rdV_bd hb 2 (gapsR xs k r).2
      have b := rdV_bd hb 2 (rdN xs 2 (gapsR xs k r).2)
      rw [p2] at a b
      exact ⟨a, b⟩
theorem dupsR_ok (hb : Byt xs) (k : Nat) (r : R) : DupOk (dupsR xs k r).1 := by
  induction k with
  | zero => intro g hg; cases hg
  | succ k ih =>
    intro g hg
    rcases List.mem_append.1 hg with h | h
    · exact ih g h
    · rw [List.mem_singleton] at h
      subst h
      have p4 : (256 : Int) ^ 4 = 4294967296 := by decide
      have a := rdV_bd hb 4 (dupsR xs k r).2
      rw [p4] at a
      exact a
theorem gaps_fwd (hb : Byt xs) (k : Nat) (r : R) (he : (gapsR xs k r).2.e = 0) : r.e = 0 ∧ xs.drop r.at_ = encG (gapsR xs k r).1 ++ xs.drop (gapsR xs k r).2.at_ := by
  induction k with
  | zero => exact ⟨he, by simp [gapsR, encG]⟩
  | succ k ih =>
    obtain ⟨e2, d2, -⟩ := rd_fwd (rdStep_fun hb 2 (rdN xs 2 (gapsR xs k r).2)) hb he
    obtain ⟨e1, d1, -⟩ := rd_fwd (rdStep_fun hb 2 (gapsR xs k r).2) hb e2
    obtain ⟨e0, d0⟩ := ih e1
    refine ⟨e0, ?_⟩
    rw [d0, d1, d2]
    show _ = encG ((gapsR xs k r).1 ++ [_]) ++ _
    rw [encG_snoc]
    simp [gapsR]
theorem dups_fwd (hb : Byt xs) (k : Nat) (r : R) (he : (dupsR xs k r).2.e = 0) : r.e = 0 ∧ xs.drop r.at_ = encDs (dupsR xs k r).1 ++ xs.drop (dupsR xs k r).2.at_ := by
  induction k with
  | zero => exact ⟨he, by simp [dupsR, encDs]⟩
  | succ k ih =>
    obtain ⟨e1, d1, -⟩ := rd_fwd (rdStep_fun hb 4 (dupsR xs k r).2) hb he
    obtain ⟨e0, d0⟩ := ih e1
    refine ⟨e0, ?_⟩
    rw [d0, d1]
    show _ = encDs ((dupsR xs k r).1 ++ [_]) ++ _
    rw [encDs_snoc]
    simp [dupsR]
theorem gaps_bwd (hb : Byt xs) {r : R} (ha : r.at_ ≤ xs.length) : ∀ (l : List (Int × Int)) (rest : List Int), GapOk l → xs.drop r.at_ = encG l ++ rest → (gapsR xs l.length r).1 = l ∧ (gapsR xs l.length r).2.e = r.e ∧ xs.drop (gapsR xs l.length r).2.at_ = rest ∧ (gapsR xs l.length r).2.at_ ≤ xs.length := by
  intro l
  induction l using Go.Proofs.Ytgikgcepeniekaa.List.reverseRecOn' with
  | nil => intro rest _ h; exact ⟨rfl, rfl, (show xs.drop r.at_ = rest by simpa [encG] using h), ha⟩
  | snoc l x ih =>
    intro rest hok h
    rw [encG_snoc] at h
    simp only [List.append_assoc] at h
    obtain ⟨i1, i2, i3, i4⟩ := ih _ (fun g hg => hok g (List.mem_append_left _ hg)) h
    have p2 : (256 : Int) ^ 2 = 65536 := by decide
    have hx := hok x (by simp)
    obtain ⟨v1, e1, d1, l1⟩ := rd_bwd (rdStep_fun hb 2 (gapsR xs l.length r).2) i3 (by rw [p2]; exact hx.1) i4
    obtain ⟨v2, e2, d2, l2⟩ := rd_bwd (rdStep_fun hb 2 (rdN xs 2 (gapsR xs l.length r).2)) d1 (by rw [p2]; exact hx.2) l1
    have hl : (l ++ [x]).length = l.length + 1 := by simp
    rw [hl]
    refine ⟨?_, ?_, d2, l2⟩
    · show (gapsR xs l.length r).1 ++ [_] = _
      rw [i1, v1, v2]
    · show (rdN xs 2 (rdN xs 2 (gapsR xs l.length r).2)).e = _
      rw [e2, e1, i2]
theorem dups_bwd (hb : Byt xs) {r : R} (ha : r.at_ ≤ xs.length) : ∀ (l : List Int) (rest : List Int), DupOk l → xs.drop r.at_ = encDs l ++ rest → (dupsR xs l.length r).1 = l ∧ (dupsR xs l.length r).2.e = r.e ∧ xs.drop (dupsR xs l.length r).2.at_ = rest ∧ (dupsR xs l.length r).2.at_ ≤ xs.length := by
  intro l
  induction l using Go.Proofs.Ytgikgcepeniekaa.List.reverseRecOn' with
  | nil => intro rest _ h; exact ⟨rfl, rfl, (show xs.drop r.at_ = rest by simpa [encDs] using h), ha⟩
  | snoc l x ih =>
    intro rest hok h
    rw [encDs_snoc] at h
    simp only [List.append_assoc] at h
    obtain ⟨i1, i2, i3, i4⟩ := ih _ (fun g hg => hok g (List.mem_append_left _ hg)) h
    have p4 : (256 : Int) ^ 4 = 4294967296 := by decide
    have hx := hok x (by simp)
    obtain ⟨v1, e1, d1, l1⟩ := rd_bwd (rdStep_fun hb 4 (dupsR xs l.length r).2) i3 (by rw [p4]; exact hx) i4
    have hl : (l ++ [x]).length = l.length + 1 := by simp
    rw [hl]
    refine ⟨?_, ?_, d1, l1⟩
    · show (dupsR xs l.length r).1 ++ [_] = _
      rw [i1, v1]
    · show (rdN xs 4 (dupsR xs l.length r).2).e = _
      rw [e1, i2]
end
def HeardOK (ty fl : Int) (xs : List Int) (h : Ck.Hrd) : Prop := ty = 3 ∧ fl = 0 ∧ Ck.chkD h = 0 ∧ Ck.HrdOk h ∧ xs = encD h
def HdRes (ty fl : Int) (xs : List Int) (h : Ck.Hrd) (k : Int) : Prop := (k = 0 ∧ HeardOK ty fl xs h) ∨ (k = 2 ∧ h = Ck.zeroD ∧ ∀ h', ¬ HeardOK ty fl xs h')
theorem encG_inj : ∀ {l m : List (Int × Int)} {a b : List Int}, GapOk l → GapOk m → l.length = m.length → encG l ++ a = encG m ++ b → l = m ∧ a = b := by
  intro l
  induction l with
  | nil => intro m a b _ _ hl h; cases m with | nil => exact ⟨rfl, by simpa [encG] using h⟩ | cons y m => cases hl
  | cons x l ih =>
    intro m a b hl hm hlen h
    cases m with
    | nil => cases hlen
    | cons y m =>
      simp only [encG, List.flatMap_cons, List.append_assoc] at h
      obtain ⟨e1, h⟩ := app_inj h (by simp [be_length])
      obtain ⟨e2, h⟩ := app_inj h (by simp [be_length])
      have p2 : (256 : Int) ^ 2 = 65536 := by decide
      have hx := hl x (by simp)
      have hy := hm y (by simp)
      obtain ⟨i1, i2⟩ := ih (fun g hg => hl g (List.mem_cons_of_mem _ hg)) (fun g hg => hm g (List.mem_cons_of_mem _ hg)) (by simpa using hlen) h
      have k1 := be_inj e1 (by rw [p2]; exact hx.1) (by rw [p2]; exact hy.1)
      have k2 := be_inj e2 (by rw [p2]; exact hx.2) (by rw [p2]; exact hy.2)
      exact ⟨by rw [i1, Prod.ext k1 k2], i2⟩
theorem encDs_inj : ∀ {l m : List Int}, DupOk l → DupOk m → l.length = m.length → encDs l = encDs m → l = m := by
  intro l
  induction l with
  | nil => intro m _ _ hl h; cases m with | nil => rfl | cons y m => cases hl
  | cons x l ih =>
    intro m hl hm hlen h
    cases m with
    | nil => cases hlen
    | cons y m =>
      simp only [encDs, List.flatMap_cons] at h
      obtain ⟨e1, h⟩ := app_inj h (by simp [be_length])
      have p4 : (256 : Int) ^ 4 = 4294967296 := by decide
      have k1 := be_inj e1 (by rw [p4]; exact hl x (by simp)) (by rw [p4]; exact hm y (by simp))
      rw [k1, ih (fun g hg => hl g (List.mem_cons_of_mem _ hg)) (fun g hg => hm g (List.mem_cons_of_mem _ hg)) (by simpa using hlen) h]
theorem heardOK_inj {ty fl : Int} {xs : List Int} {p q : Ck.Hrd} (a : HeardOK ty fl xs p) (b : HeardOK ty fl xs q) : p = q := by
  obtain ⟨a1, a2, a3, a4, a6⟩ := a
  obtain ⟨b1, b2, b3, b4, b6⟩ := b
  have e := a6.symm.trans b6
  unfold encD at e
  simp only [List.append_assoc] at e
  obtain ⟨e1, e⟩ := app_inj e (by simp [be_length])
  obtain ⟨e2, e⟩ := app_inj e (by simp [be_length])
  obtain ⟨e3, e⟩ := app_inj e (by simp [be_length])
  obtain ⟨e4, e⟩ := app_inj e (by simp [be_length])
  have p4 : (256 : Int) ^ 4 = 4294967296 := by decide
  have p2 : (256 : Int) ^ 2 = 65536 := by decide
  have c1 := chkD_zero a3
  have c2 := chkD_zero b3
  have k1 := be_inj e1 (by rw [p4]; exact a4.cum) (by rw [p4]; exact b4.cum)
  have k2 := be_inj e2 (by rw [p4]; exact a4.win) (by rw [p4]; exact b4.win)
  have k3 := be_inj e3 (by omega) (by omega)
  have k4 := be_inj e4 (by omega) (by omega)
  obtain ⟨k5, e⟩ := encG_inj a4.gaps b4.gaps (by omega) e
  have k6 := encDs_inj a4.dups b4.dups (by omega) e
  obtain ⟨t1, t2, t3, t4⟩ := p
  obtain ⟨u1, u2, u3, u4⟩ := q
  simp only at k1 k2 k5 k6
  rw [k1, k2, k5, k6]
theorem hdRes_inj {ty fl : Int} {xs : List Int} {p q : Ck.Hrd} {k k' : Int} (a : HdRes ty fl xs p k) (b : HdRes ty fl xs q k') : p = q ∧ k = k' := by
  rcases a with ⟨a1, a2⟩ | ⟨a1, a2, a3⟩ <;> rcases b with ⟨b1, b2⟩ | ⟨b1, b2, b3⟩
  · exact ⟨heardOK_inj a2 b2, by omega⟩
  · exact absurd a2 (b3 _)
  · exact absurd b2 (a3 _)
  · exact ⟨by rw [a2, b2], by omega⟩
section
variable {xs : List Int} {t1 t2 : Int} {ng nd : Nat} {r1 r2 r3 r4 : R}
/-- The head of a Sack, read. -/
theorem toD_back4 {h : Ck.Hrd} (hp : HeardOK 3 0 xs h) (s1 : RdStep xs 4 t1 ⟨0, 0⟩ r1) (s2 : RdStep xs 4 t2 r1 r2) (s3 : RdStep xs 2 (ng : Int) r2 r3) (s4 : RdStep xs 2 (nd : Int) r3 r4) :
    (t1 = h.cum ∧ t2 = h.win ∧ ng = h.gaps.length ∧ nd = h.dups.length) ∧ r4.e = 0 ∧ xs.drop r4.at_ = encG h.gaps ++ encDs h.dups ∧ r4.at_ ≤ xs.length := by
  obtain ⟨a1, a2, a3, a4, a6⟩ := hp
  have p4 : (256 : Int) ^ 4 = 4294967296 := by decide
  have p2 : (256 : Int) ^ 2 = 65536 := by decide
  have c1 := chkD_zero a3
  have hx0 : xs.drop (R.mk 0 0).at_ = be h.cum 4 ++ (be h.win 4 ++ (be (h.gaps.length : Int) 2 ++ (be (h.dups.length : Int) 2 ++ (encG h.gaps ++ encDs h.dups)))) := by
    show xs.drop 0 = _
    rw [List.drop_zero]
    conv => lhs; rw [a6]
    simp [encD]
  obtain ⟨v1, e1, d1, l1⟩ := rd_bwd s1 hx0 (by rw [p4]; exact a4.cum) (Nat.zero_le _)
  obtain ⟨v2, e2, d2, l2⟩ := rd_bwd s2 d1 (by rw [p4]; exact a4.win) l1
  obtain ⟨v3, e3, d3, l3⟩ := rd_bwd s3 d2 (by omega) l2
  obtain ⟨v4, e4, d4, l4⟩ := rd_bwd s4 d3 (by omega) l3
  exact ⟨⟨v1, v2, by omega, by omega⟩, by rw [e4, e3, e2, e1], d4, l4⟩
theorem toD_hdOk (hb : Byt xs) (s1 : RdStep xs 4 t1 ⟨0, 0⟩ r1) (s2 : RdStep xs 4 t2 r1 r2) (ng nd : Nat) (r4 : R) : Ck.HrdOk ⟨t1, t2, (gapsR xs ng r4).1, (dupsR xs nd (gapsR xs ng r4).2).1⟩ := by
  have p4 : (256 : Int) ^ 4 = 4294967296 := by decide
  exact ⟨⟨s1.lo, p4 ▸ s1.hi⟩, ⟨s2.lo, p4 ▸ s2.hi⟩, gapsR_ok hb _ _, dupsR_ok hb _ _⟩
theorem toD_ok (hb : Byt xs) (s1 : RdStep xs 4 t1 ⟨0, 0⟩ r1) (s2 : RdStep xs 4 t2 r1 r2) (s3 : RdStep xs 2 (ng : Int) r2 r3) (s4 : RdStep xs 2 (nd : Int) r3 r4) :
    ((dupsR xs nd (gapsR xs ng r4).2).2.e = 0 → (dupsR xs nd (gapsR xs ng r4).2).2.at_ = xs.length → Ck.chkD ⟨t1, t2, (gapsR xs ng r4).1, (dupsR xs nd (gapsR xs ng r4).2).1⟩ = 0 → HeardOK 3 0 xs ⟨t1, t2, (gapsR xs ng r4).1, (dupsR xs nd (gapsR xs ng r4).2).1⟩) ∧
    (∀ h, HeardOK 3 0 xs h → (dupsR xs nd (gapsR xs ng r4).2).2.e = 0 ∧ (dupsR xs nd (gapsR xs ng r4).2).2.at_ = xs.length ∧ Ck.chkD ⟨t1, t2, (gapsR xs ng r4).1, (dupsR xs nd (gapsR xs ng r4).2).1⟩ = 0) := by
  refine ⟨fun he ha hc => ⟨rfl, rfl, hc, toD_hdOk hb s1 s2 ng nd r4, ?_⟩, fun h hp => ?_⟩
  · obtain ⟨eg, dd⟩ := dups_fwd hb nd _ he
    obtain ⟨e4, dg⟩ := gaps_fwd hb ng _ eg
    obtain ⟨e3, d4, a4, l4⟩ := rd_fwd s4 hb e4
    obtain ⟨e2, d3, a3, l3⟩ := rd_fwd s3 hb e3
    obtain ⟨e1, d2, a2, l2⟩ := rd_fwd s2 hb e2
    obtain ⟨e0, d1, a1, l1⟩ := rd_fwd s1 hb e1
    have d0 : xs = xs.drop (R.mk 0 0).at_ := by simp
    rw [ha, List.drop_length, List.append_nil] at dd
    conv => lhs; rw [d0, d1, d2, d3, d4, dg, dd]
    simp [encD, gapsR_len, dupsR_len]
  · obtain ⟨⟨v1, v2, v3, v4⟩, e4, d4, l4⟩ := toD_back4 hp s1 s2 s3 s4
    obtain ⟨a1, a2, a3, a4, a6⟩ := hp
    subst v3 v4
    obtain ⟨i1, i2, i3, i4⟩ := gaps_bwd hb l4 h.gaps _ a4.gaps d4
    obtain ⟨j1, j2, j3, j4⟩ := dups_bwd hb i4 h.dups [] a4.dups (by rw [i3]; simp)
    refine ⟨by rw [j2, i2, e4], ?_, ?_⟩
    · have := congrArg List.length j3; simp at this; omega
    · rw [i1, j1, v1, v2]; exact a3
end
def ToDPost (ty fl : Int) (xs : List Int) (w : World) (e : Ending) (w' : World) : Prop := ∃ h k A n c B m d, e = .returned (.tuple #[heV h (.slice A n c) (.slice B m d), .int .i64 k]) ∧ Hid (HdRes ty fl xs h k) ∧ Hid (InG w' A n c h.gaps) ∧ Hid (InD w' B m d h.dups) ∧ Hid (Ck.HrdOk h) ∧ Hid ((∀ k, blk? A = some k → w.heap.size ≤ k) ∧ ∀ k, blk? B = some k → w.heap.size ≤ k) ∧ Hid (Up w w')
theorem hrdOk_zero : Ck.HrdOk Ck.zeroD := ⟨by decide, by decide, (fun g hg => by cases hg), (fun g hg => by cases hg)⟩
def DNo (w : World) (e : Ending) (w' : World) : Prop := e = .returned (.tuple #[heV Ck.zeroD (.slice none 0 0) (.slice none 0 0), .int .i64 2]) ∧ Hid (Up w w')
theorem inG_nil (w : World) : InG w none 0 0 [] := ⟨Cells.nil _ _, (fun g hg => by cases hg), Nat.le_refl _, rfl⟩
theorem inD_nil (w : World) : InD w none 0 0 [] := ⟨Cells.nil _ _, (fun g hg => by cases hg), Nat.le_refl _, rfl⟩
theorem DNo.post {ty fl : Int} {xs : List Int} {w w' : World} {e : Ending} (h : DNo w e w') (hn : ∀ p', ¬ HeardOK ty fl xs p') : ToDPost ty fl xs w e w' :=
  ⟨Ck.zeroD, 2, none, 0, 0, none, 0, 0, h.1, Lib.hid (.inr ⟨rfl, rfl, hn⟩), Lib.hid (inG_nil _), Lib.hid (inD_nil _), Lib.hid hrdOk_zero, Lib.hid ⟨(fun k hk => by cases hk), (fun k hk => by cases hk)⟩, h.2⟩
theorem set4 {w : World} {q : Nat} {cs : Array Value} {a b c d : Value} {T : TypeId} (h : w.heap[q]? = some (.cells cs T (0, 0))) (hs : cs.size = 4) :
    ((((w.setCell ⟨q, 0, none⟩ a).setCell ⟨q, 1, none⟩ b).setCell ⟨q, 2, none⟩ c).setCell ⟨q, 3, none⟩ d).heap[q]? = some (.cells #[a, b, c, d] T (0, 0)) ∧
    Out (fun k => k = q) w ((((w.setCell ⟨q, 0, none⟩ a).setCell ⟨q, 1, none⟩ b).setCell ⟨q, 2, none⟩ c).setCell ⟨q, 3, none⟩ d) := by
  refine ⟨?_, (((setCell_out _ _ _ _).trans (setCell_out _ _ _ _) (Sub.refl _ _)).trans (setCell_out _ _ _ _) (Sub.refl _ _)).trans (setCell_out _ _ _ _) (Sub.refl _ _)⟩
  rw [setCell_at _ (setCell_at _ (setCell_at _ (setCell_at _ h)))]
  obtain ⟨l⟩ := cs
  match l, hs with
  | [u, v, x, y], _ => rfl
end Go.Proofs.Ytgikgcepeniekaa
