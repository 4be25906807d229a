import Derived.Test.YtgcabidhpnaoiaaBx6
import Derived.Test.YtgcabidhpnaoiaaFgS
namespace Go.Proofs.Ytgcabidhpnaoiaa
open Go Go.RowKit Fg
set_option linter.unusedVariables false
set_option linter.unusedSimpArgs false
/-! The program's Put. -/
namespace Fg
theorem BX.ok {base : Nat} {w : World} {b : Nat} {q1 q2 q3 : Option Nat} {l : List PcB} {m : List LtB} {nx : Nat → Nat} (h : BX base w b q1 q2 q3 l m nx) : BOk ⟨ps l, ts m, nx⟩ ∧ (∀ y ∈ l, y.p.tsn < 4294967296 ∧ y.p.st < 65536 ∧ y.p.sq < 65536) := by
  rcases h.maps with ⟨_, _, _, rfl, rfl⟩ | ⟨m1, m2, m3, _, _, _, hm⟩
  · exact ⟨⟨List.Pairwise.nil, List.Pairwise.nil, by simp [ps]⟩, by simp⟩
  · obtain ⟨E, ⟨c, _, hn, _⟩, hk⟩ := hm.T
    have hb : ∀ y ∈ l, y.p.tsn < 4294967296 ∧ y.p.st < 65536 ∧ y.p.sq < 65536 := fun y hy => by
      obtain ⟨_, _, _, _, _, ho⟩ := hm.P
      have := ho (plE y) (List.mem_map.2 ⟨y, hy, rfl⟩)
      exact ⟨this.2, this.1.1, this.1.2⟩
    refine ⟨⟨?_, ?_, fun p hp => ?_⟩, hb⟩
    · rw [hk] at hn
      show List.Pairwise _ (ps l)
      unfold ps
      rw [List.pairwise_map]
      have h2 : List.Pairwise (fun a b => tnE a ≠ tnE b) l := List.pairwise_map.1 hn
      refine h2.imp fun {a b} hab e => hab ?_
      unfold tnE; rw [e]
    · obtain ⟨_, _, _, _, hn, _⟩ := hm.W
      exact wt_apart hn
    · obtain ⟨y, hy, rfl⟩ := List.mem_map.1 hp
      exact (hb y hy).1
theorem bytesOf_len {H : List Pc} (h : ∀ p ∈ H, p.bs.length ≤ 256) (t n : Nat) : (bytesOf H t n).length ≤ 256 * n := by
  unfold bytesOf
  induction n with
  | zero => simp
  | succ n ih =>
    rw [List.range_succ, List.flatMap_append, List.length_append]
    have : (List.flatMap (fun i => ((H.find? fun p => p.tsn == add t i).map (·.bs)).getD []) [n]).length ≤ 256 := by
      simp only [List.flatMap_cons, List.flatMap_nil, List.append_nil]
      cases hf : H.find? fun p => p.tsn == add t n with
      | none => simp
      | some p => exact h p (List.mem_of_find?_eq_some hf)
    omega
theorem bytesOf_byt {H : List Pc} (h : ∀ p ∈ H, Byt p.bs) (t n : Nat) : Byt (bytesOf H t n) := fun x hx => by
  unfold bytesOf at hx
  obtain ⟨i, _, hx⟩ := List.mem_flatMap.1 hx
  cases hf : H.find? fun p => p.tsn == add t i with
  | none => rw [hf] at hx; simp at hx
  | some p => rw [hf] at hx; exact h p (List.mem_of_find?_eq_some hf) x hx
structure PutP (base b : Nat) (q1 q2 q3 : Option Nat) (l : List PcB) (m : List LtB) (nx : Nat → Nat) (p : Pc) (w w' : World) (r : Int) (A : Option Addr) (N c : Nat) (ms : List MsB) (p1 p2 p3 : Option Nat) (l' : List PcB) (m' : List LtB) (nx' : Nat → Nat) : Prop where
  bx : BX base w' b p1 p2 p3 l' m' nx'
  row : w'.ownsRow w.heap.size 32 2 (.slice A N c) N (ms.flatMap mc)
  len : N = ms.length
  by_ : ∀ x ∈ ms, OwnI .u8 5 base w' x.A x.m.2.length x.c x.m.2 ∧ Byt x.m.2 ∧ x.m.2.length ≤ 131072
  put : PutR ⟨ps l, ts m, nx⟩ p r (ms.map (·.m)) ⟨ps l', ts m', nx'⟩
  out : Out (BS b q1 q2 q3) w w'
  sub : Sub (BS b p1 p2 p3) (BS b q1 q2 q3) w
  lt : ∀ s, nx' s < 65536
  le : m'.length ≤ m.length + 1
def PutPost (base b : Nat) (q1 q2 q3 : Option Nat) (l : List PcB) (m : List LtB) (nx : Nat → Nat) (p : Pc) (w : World) (e : Ending) (w' : World) : Prop :=
  ∃ r A N c ms p1 p2 p3 l' m' nx', e = .returned (.tuple #[.slice A N c, .int .i64 r]) ∧ Hid (PutP base b q1 q2 q3 l m nx p w w' r A N c ms p1 p2 p3 l' m' nx')
/-- Nothing turned. -/
theorem put_no {base b : Nat} {q1 q2 q3 : Option Nat} {l : List PcB} {m : List LtB} {nx : Nat → Nat} {p : Pc} {w w' : World} {r : Int} (h : BX base w b q1 q2 q3 l m nx) (hu : Up w w') (hp : PutR ⟨ps l, ts m, nx⟩ p r [] ⟨ps l, ts m, nx⟩) (hl : ∀ s, nx s < 65536) : PutPost base b q1 q2 q3 l m nx p w (.returned (.tuple #[.slice none 0 0, .int .i64 r])) w' :=
  ⟨r, none, 0, 0, [], q1, q2, q3, l, m, nx, rfl, Lib.hid ⟨h.up hu, World.ownsRow_nil _ _ _ _, rfl, by simp, hp, hu.out _, Sub.refl _ _, hl, by omega⟩⟩
/-- Whether a TSN is there. -/
def isThere (l : List PcB) (t : Nat) : Bool := decide ((t : Int) ∈ l.map tnE)
theorem there_iff {l : List PcB} {t : Nat} : isThere l t = true ↔ ∃ q ∈ ps l, q.tsn = t := by
  unfold isThere ps tnE
  rw [decide_eq_true_eq, List.mem_map]
  constructor
  · rintro ⟨y, hy, e⟩; exact ⟨y.p, List.mem_map.2 ⟨y, hy, rfl⟩, by omega⟩
  · rintro ⟨q, hq, e⟩
    obtain ⟨y, hy, rfl⟩ := List.mem_map.1 hq
    exact ⟨y, hy, by omega⟩
theorem look_taken {base : Nat} {w : World} {b : Nat} {q1 q2 q3 : Option Nat} {l : List PcB} {m : List LtB} {nx : Nat → Nat} (h : BX base w b q1 q2 q3 l m nx) (t : Nat) : (Instr.lookup 74 (.map q2) (.int .u32 (t : Int)) true).run Try.prog w = .ok (.tuple #[.agg #[], .bool (isThere l t)]) w := by
  rcases h.maps with ⟨_, rfl, _, rfl, rfl⟩ | ⟨m1, m2, m3, _, rfl, _, hm⟩
  · exact run_lookU_nil (P := Try.prog) und74 (by kernel_rfl) zero78 (t : Int)
  · obtain ⟨E, hE, hk⟩ := hm.T
    have := run_lookU (P := Try.prog) und74 (by kernel_rfl) zero78 hE (t : Int)
    rw [hk] at this
    exact this
end Fg
set_option maxRecDepth 100000 in
set_option maxHeartbeats 1000000 in
theorem put_nil (v : Value) (t st sq n c : Nat) (bg en un : Bool) (A : Option Addr) (w : World) :
    Calls Try.prog 16 #[.pointer none, .agg #[.int .u32 (t : Int), .int .u16 (st : Int), .int .u16 (sq : Int), .bool bg, .bool en, .bool un, .slice A n c]] w fun e w' => e = .returned (.tuple #[.slice none 0 0, .int .i64 1]) ∧ Hid (Up w w') := by
  go_enter Try.func16, Try.ntmps16
  go_wp2_with fail
  go_ret2
  exact ⟨rfl, Lib.hid (up_alloc w _)⟩
set_option maxRecDepth 100000 in
set_option maxHeartbeats 4000000 in
theorem put_any (base b t st sq n c : Nat) (bg en un : Bool) (A : Option Addr) (bs : List Int) (q1 q2 q3 : Option Nat) (l : List PcB) (m : List LtB) (nx : Nat → Nat) (w : World) (hB : BX base w b q1 q2 q3 l m nx) (hin : InB w A n c bs) (hn : n ≤ 140737488351232) (ht : t < 4294967296) (hst : st < 65536) (hsq : sq < 65536) (hnx : ∀ s, nx s < 65536) (hm : m.length ≤ 4000) (hbase : base ≤ w.heap.size) :
    Calls Try.prog 16 #[.pointer (some ⟨b, 0, none⟩), .agg #[.int .u32 (t : Int), .int .u16 (st : Int), .int .u16 (sq : Int), .bool bg, .bool en, .bool un, .slice A n c]] w (PutPost base b q1 q2 q3 l m nx ⟨t, st, sq, un, bg, en, bs⟩ w) := by
  have HB := Lib.hid hB
  have HIN := Lib.hid hin
  have HNX := Lib.hid hnx
  clear hB hin hnx
  go_enter Try.func16, Try.ntmps16
  go_upto_region 3 with (fail)
  have P1 := Lib.hid (new_at w (.cells #[.int .u32 (t : Int), .int .u16 (st : Int), .int .u16 (sq : Int), .bool bg, .bool en, .bool un, .slice A n c] 51))
  have HU := Lib.hid (up_alloc w (.cells #[.int .u32 (t : Int), .int .u16 (st : Int), .int .u16 (sq : Int), .bool bg, .bool en, .bool un, .slice A n c] 51))
  generalize w.alloc (.cells #[.int .u32 (t : Int), .int .u16 (st : Int), .int .u16 (sq : Int), .bool bg, .bool en, .bool un, .slice A n c] 51) = W at P1 HU ⊢
  generalize hqq : w.heap.size = q at P1 hbase ⊢
  have HB1 := Lib.hid (HB.out.up HU.out)
  go_cut [7] (fun v wx => v = .bool (isThere l t) ∧ Hid (Up W wx))
  case first =>
    have k1 : W.cell? ⟨b, 1, none⟩ = some (.map q2) := cell_of HB1.out.top rfl
    have b0 : W.cell? ⟨q, 0, none⟩ = some (.int .u32 (t : Int)) := cell_of P1.out rfl
    have g1 := look_taken (HB1.out.up (up_drewN W 1)) t
    have g2 := look_taken (HB1.out.up ((up_alloc W (.cells #[] 78)).trans (up_drewN _ 1))) t
    have g1' : (Instr.lookup 74 (.map q2) (.int .u32 (t : Int)) true).run Try.prog W.drew = .ok (.tuple #[.agg #[], .bool (isThere l t)]) W.drew := g1
    have g2' : (Instr.lookup 74 (.map q2) (.int .u32 (t : Int)) true).run Try.prog (W.alloc (.cells #[] 78)).drew = .ok (.tuple #[.agg #[], .bool (isThere l t)]) (W.alloc (.cells #[] 78)).drew := g2
    have k1' := cell_up k1 ((up_alloc W (.cells #[] 78)).trans (up_drewN _ 1))
    have b0' := cell_up b0 ((up_alloc W (.cells #[] 78)).trans (up_drewN _ 1))
    have k1'' : (W.alloc (.cells #[] 78)).drew.cell? ⟨b, 1, none⟩ = some (.map q2) := k1'
    have b0'' : (W.alloc (.cells #[] 78)).drew.cell? ⟨q, 0, none⟩ = some (.int .u32 (t : Int)) := b0'
    clear g1 g2 k1' b0'
    go_region
    all_goals
      go_wp2_with fail
      go_meet
      exact ⟨rfl, Lib.hid ((up_alloc W (.cells #[] 78)).trans (up_drewN _ 1))⟩
  case rest =>
    obtain ⟨rfl, HU2⟩ := hcut
    have HB2 := Lib.hid (HB1.out.up HU2.out)
    have P2 := Lib.hid ((HU2.out.block _ (lt_of_blk P1.out)).trans P1.out)
    have HUU := Lib.hid (HU.out.trans HU2.out)
    have hbn := HIN.out.len
    have HBN := Lib.hid hbn
    have b0 : wc.cell? ⟨q, 0, none⟩ = some (.int .u32 (t : Int)) := cell_of P2.out rfl
    have b1 : wc.cell? ⟨q, 1, none⟩ = some (.int .u16 (st : Int)) := cell_of P2.out rfl
    have b2 : wc.cell? ⟨q, 2, none⟩ = some (.int .u16 (sq : Int)) := cell_of P2.out rfl
    have b3 : wc.cell? ⟨q, 3, none⟩ = some (.bool bg) := cell_of P2.out rfl
    have b4 : wc.cell? ⟨q, 4, none⟩ = some (.bool en) := cell_of P2.out rfl
    have b5 : wc.cell? ⟨q, 5, none⟩ = some (.bool un) := cell_of P2.out rfl
    have b6 : wc.cell? ⟨q, 6, none⟩ = some (.slice A n c) := cell_of P2.out rfl
    have HREF : Hid (∀ r, PutR ⟨ps l, ts m, nx⟩ ⟨t, st, sq, un, bg, en, bs⟩ r [] ⟨ps l, ts m, nx⟩ → PutPost base b q1 q2 q3 l m nx ⟨t, st, sq, un, bg, en, bs⟩ w (.returned (.tuple #[.slice none 0 0, .int .i64 r])) wc) := Lib.hid (fun r hr => put_no HB.out HUU.out hr HNX.out)
    clear hbn
    by_cases h0 : n = 0
    · have HP := Lib.hid (HREF.out 2 (.inl ⟨fun hf => by have h1 := hf.1; have h2 := HBN.out; simp only at h1; omega, rfl, rfl, rfl⟩))
      have d0 : ((n : Int) == 0) = true := by rw [h0]; rfl
      clear h0
      go_wp2_with fail
      go_ret2
      exact HP.out
    have d0 : ((n : Int) == 0) = false := by rw [beq_eq_false_iff_ne]; omega
    by_cases h1 : 256 < n
    · have HP := Lib.hid (HREF.out 2 (.inl ⟨fun hf => by have h1 := hf.2.1; have h2 := HBN.out; simp only at h1; omega, rfl, rfl, rfl⟩))
      have d1 : decide ((256 : Int) < (n : Int)) = true := by simp; omega
      clear h0 h1
      go_wp2_with fail
      go_ret2
      exact HP.out
    have d1 : decide ((256 : Int) < (n : Int)) = false := by simp; omega
    by_cases h2 : 8 ≤ st
    · have HP := Lib.hid (HREF.out 2 (.inl ⟨fun hf => by have h1 := hf.2.2; simp only at h1; omega, rfl, rfl, rfl⟩))
      have d2 : decide ((8 : Int) ≤ (st : Int)) = true := by simp; omega
      clear h0 h1 h2
      go_wp2_with fail
      go_ret2
      exact HP.out
    have d2 : decide ((8 : Int) ≤ (st : Int)) = false := by simp; omega
    have HFORM : Hid (Fg.Form ⟨t, st, sq, un, bg, en, bs⟩) := Lib.hid (by unfold Fg.Form; simp only; have h3 := HBN.out; omega)
    by_cases h3 : isThere l t = true
    · have HP := Lib.hid (HREF.out 9 (.inr (.inl ⟨HFORM.out, there_iff.1 h3, rfl, rfl, rfl⟩)))
      rw [h3]
      clear h0 h1 h2 h3
      go_wp2_with fail
      go_ret2
      exact HP.out
    have h3' : isThere l t = false := by simpa using h3
    have HNT : Hid (∀ q ∈ ps l, q.tsn ≠ t) := Lib.hid (fun q hq e => h3 (there_iff.2 ⟨q, hq, e⟩))
    rw [h3']
    clear h3 h3'
    by_cases h4 : 512 ≤ l.length
    · have HP := Lib.hid (HREF.out 10 (.inr (.inr (.inl ⟨HFORM.out, HNT.out, by unfold ps; simpa using h4, rfl, rfl, rfl⟩))))
      have d4 : decide ((512 : Int) ≤ (l.length : Int)) = true := by simp; omega
      clear h0 h1 h2
      go_wp2_with fail
      refine (held_any HB2.out).mono ?_
      rintro e w3 ⟨rfl, rfl⟩
      go_wp2_with fail
      go_ret2
      exact HP.out
    have d4 : decide ((512 : Int) ≤ (l.length : Int)) = false := by simp; omega
    go_wp2_with fail
    refine (held_any HB2.out).mono ?_
    rintro e w3 ⟨rfl, rfl⟩
    go_upto_region 13 with (fail)
    have K4 := Lib.hid (new_at w3 (.cells #[.int .u16 (st : Int), .int .u16 (sq : Int), .bool un] 81))
    have U4 := Lib.hid (up_alloc w3 (.cells #[.int .u16 (st : Int), .int .u16 (sq : Int), .bool un] 81))
    generalize w3.alloc (.cells #[.int .u16 (st : Int), .int .u16 (sq : Int), .bool un] 81) = w4 at K4 U4 ⊢
    have hk3 : q ≤ w3.heap.size := by rw [← hqq]; exact HUU.out.size
    have hk4 : w3.heap.size < w4.heap.size := lt_of_blk K4.out
    have hq3 : q < w3.heap.size := lt_of_blk P2.out
    generalize w3.heap.size = k at K4 hk3 hk4 hq3 ⊢
    have HU4 := Lib.hid (HUU.out.trans U4.out)
    have HB4 := Lib.hid (HB2.out.up U4.out)
    have P4 := Lib.hid ((U4.out.block _ (lt_of_blk P2.out)).trans P2.out)
    have HI4 := Lib.hid (HIN.out.up HU4.out)
    clear b0 b1 b2 b3 b4 b5 b6 HREF HB2 P2 HUU U4
    have b0 : w4.cell? ⟨q, 0, none⟩ = some (.int .u32 (t : Int)) := cell_of P4.out rfl
    have b1 : w4.cell? ⟨q, 1, none⟩ = some (.int .u16 (st : Int)) := cell_of P4.out rfl
    have b2 : w4.cell? ⟨q, 2, none⟩ = some (.int .u16 (sq : Int)) := cell_of P4.out rfl
    have b3 : w4.cell? ⟨q, 3, none⟩ = some (.bool bg) := cell_of P4.out rfl
    have b4 : w4.cell? ⟨q, 4, none⟩ = some (.bool en) := cell_of P4.out rfl
    have b5 : w4.cell? ⟨q, 5, none⟩ = some (.bool un) := cell_of P4.out rfl
    have b6 : w4.cell? ⟨q, 6, none⟩ = some (.slice A n c) := cell_of P4.out rfl
    have a0 : w4.cell? ⟨k, 0, none⟩ = some (.int .u16 (st : Int)) := cell_of K4.out rfl
    have a1 : w4.cell? ⟨k, 1, none⟩ = some (.int .u16 (sq : Int)) := cell_of K4.out rfl
    have a2 : w4.cell? ⟨k, 2, none⟩ = some (.bool un) := cell_of K4.out rfl
    go_wp2_with fail
    refine (hold_any base b t st sq n c bg en un A bs q1 q2 q3 l m nx w4 HB4.out HI4.out (by omega) (by omega) ht hst hsq HNT.out (by omega)).mono ?_
    rintro e w5 ⟨rfl, m1, m2, m3, A', c', HB5, HO5, HS5⟩
    obtain ⟨x, hx⟩ : ∃ x : PcB, x = ⟨⟨t, st, sq, un, bg, en, bs⟩, A', c'⟩ := ⟨_, rfl⟩
    rw [← hx] at HB5
    have HX := Lib.hid hx
    clear hx
    obtain ⟨L, hL⟩ : ∃ L, L = l ++ [x] := ⟨_, rfl⟩
    rw [← hL] at HB5
    have HL := Lib.hid hL
    clear hL
    have hLl : L.length ≤ 512 := by rw [HL.out]; simp; omega
    have K5 := Lib.hid (HO5.out.blk K4.out (HB4.out.offC K4.out (by decide)))
    have P5 := Lib.hid (HO5.out.blk P4.out (HB4.out.offC P4.out (by decide)))
    have hsz5 := HO5.out.size
    have HO : Hid (Out (BS b q1 q2 q3) w w5) := Lib.hid ((HU4.out.out _).trans HO5.out (Sub.refl _ _))
    have HS : Hid (Sub (BS b (some m1) (some m2) (some m3)) (BS b q1 q2 q3) w) := Lib.hid (fun k hk => by
      rcases HS5.out k hk with h | h
      · exact .inl h
      · exact .inr (by have := HU4.out.size; omega))
    have HPS : Hid (ps L = ps l ++ [⟨t, st, sq, un, bg, en, bs⟩]) := Lib.hid (by rw [HL.out]; unfold ps; rw [List.map_append, HX.out]; rfl)
    have HPERM : Hid ((ps L).Perm (⟨t, st, sq, un, bg, en, bs⟩ :: ps l)) := Lib.hid (by rw [HPS.out]; exact List.perm_append_singleton _ _)
    have HOK := Lib.hid HB5.out.ok
    clear b0 b1 b2 b3 b4 b5 b6 a0 a1 a2 K4 P4 HO5 HS5 HB4 HI4
    have b0 : w5.cell? ⟨q, 0, none⟩ = some (.int .u32 (t : Int)) := cell_of P5.out rfl
    have a0 : w5.cell? ⟨k, 0, none⟩ = some (.int .u16 (st : Int)) := cell_of K5.out rfl
    have a1 : w5.cell? ⟨k, 1, none⟩ = some (.int .u16 (sq : Int)) := cell_of K5.out rfl
    have a2 : w5.cell? ⟨k, 2, none⟩ = some (.bool un) := cell_of K5.out rfl
    go_wp2_with fail
    refine (ends_any base b t st sq un m1 m2 m3 L m nx w5 HB5.out ht hst hsq HOK.out.1.held hLl ⟨t, st, sq, un, bg, en, bs⟩ (by rw [HPS.out]; simp) rfl rfl).mono ?_
    rintro e w6 ⟨f, la, cp, rfl, HE, HU6⟩
    have HB6 := Lib.hid (HB5.out.up HU6.out)
    have K6 := Lib.hid ((HU6.out.block _ (lt_of_blk K5.out)).trans K5.out)
    have HO6 : Hid (Out (BS b q1 q2 q3) w w6) := Lib.hid (HO.out.trans (HU6.out.out (BS b q1 q2 q3)) (Sub.refl _ _))
    clear b0 a0 a1 a2 K5 P5 HO HB5
    cases cp with
    | false =>
      have hno : ∀ t' n, ¬ Mine (ps L) t t' n := by
        rcases HE.out with ⟨h, _⟩ | ⟨_, h⟩
        · cases h
        · exact h
      have HP : Hid (PutPost base b q1 q2 q3 l m nx ⟨t, st, sq, un, bg, en, bs⟩ w (.returned (.tuple #[.slice none 0 0, .int .i64 0])) w6) := Lib.hid ⟨0, none, 0, 0, [], some m1, some m2, some m3, L, m, nx, rfl, Lib.hid ⟨HB6.out, World.ownsRow_nil _ _ _ _, rfl, by simp, .inr (.inr (.inr ⟨HFORM.out, HNT.out, by unfold ps; simpa using (show l.length < 512 by omega), rfl, .inl ⟨fun t' n hm => hno t' n (hm.perm HPERM.out.symm), rfl, HPERM.out, rfl, rfl⟩⟩)), HO6.out, HS.out, HNX.out, by omega⟩⟩
      clear hno
      go_wp2_with fail
      go_ret2
      exact HP.out
    | true =>
      obtain ⟨nn, hM, hla⟩ : ∃ n, Mine (ps L) t f n ∧ la = add f (n - 1) := by
        rcases HE.out with ⟨_, h⟩ | ⟨h, _⟩
        · exact h
        · cases h
      have HM := Lib.hid hM
      have HLA := Lib.hid hla
      clear hM hla
      have HKD : Hid (∀ i, i < nn → ∀ y ∈ ps L, y.tsn = add f i → kdOf y = (st, sq, un)) := Lib.hid (fun i hi y hy e => by
        obtain ⟨_, _, hall⟩ := mine_at HOK.out.1.held ht (show (⟨t, st, sq, un, bg, en, bs⟩ : Pc) ∈ ps L by rw [HPS.out]; simp) rfl HM.out
        obtain ⟨z, hz, z1, z2, _⟩ := hall i hi
        rw [apart_eq HOK.out.1.held hy hz (e.trans z1.symm)]
        exact z2)
      have HBY : Hid (bytesOf (ps L) f nn = bytesOf (⟨t, st, sq, un, bg, en, bs⟩ :: ps l) f nn) := Lib.hid (bytesOf_perm HOK.out.1.held HPERM.out HM.out.1)
      have HBL : Hid ((bytesOf (ps L) f nn).length ≤ 131072 ∧ Byt (bytesOf (ps L) f nn)) := Lib.hid (by
        have h5 := HM.out.1.le
        refine ⟨Nat.le_trans (bytesOf_len (fun p hp => ?_) f nn) (by omega), bytesOf_byt (fun p hp => ?_) f nn⟩
        · obtain ⟨y, hy, rfl⟩ := List.mem_map.1 hp
          exact (HB6.out.by_ y hy).2.2
        · obtain ⟨y, hy, rfl⟩ := List.mem_map.1 hp
          exact (HB6.out.by_ y hy).2.1)
      have HRST : Hid ((ps (left L f nn)).Perm (rest (⟨t, st, sq, un, bg, en, bs⟩ :: ps l) f nn)) := Lib.hid (by
        rw [← rest_left]
        exact HPERM.out.filter _)
      have HMN : Hid (Mine (⟨t, st, sq, un, bg, en, bs⟩ :: ps l) t f nn) := Lib.hid (HM.out.perm HPERM.out)
      have HLEN : Hid ((ps l).length < 512) := Lib.hid (by unfold ps; simpa using (show l.length < 512 by omega))
      have HB6d : Hid (BX base w6.drew b (some m1) (some m2) (some m3) L m nx) := Lib.hid (HB6.out.up (Up.drew w6))
      have K6d : Hid (w6.drew.heap[k]? = some (.cells #[.int .u16 (st : Int), .int .u16 (sq : Int), .bool un] 81 (0, 0))) := K6
      have HO6d : Hid (Out (BS b q1 q2 q3) w w6.drew) := Lib.hid (HO6.out.trans ((Up.drew w6).out (BS b q1 q2 q3)) (Sub.refl _ _))
      have hb6 : base ≤ w6.drew.heap.size := by have h5 := HO6d.out.size; omega
      have hwq : w.heap.size ≤ w6.drew.heap.size := HO6d.out.size
      have a0 : w6.cell? ⟨k, 0, none⟩ = some (.int .u16 (st : Int)) := cell_of K6.out rfl
      have a1 : w6.cell? ⟨k, 1, none⟩ = some (.int .u16 (sq : Int)) := cell_of K6.out rfl
      have a2 : w6.cell? ⟨k, 2, none⟩ = some (.bool un) := cell_of K6.out rfl
      clear HB6 K6 HO6 HE d0 d1 d2 d4 h0 h1 h4
      have HO7' : Hid (∀ w7, Out (BS b (some m1) (some m2) (some m3)) w6.drew w7 → Out (BS b q1 q2 q3) w w7) := Lib.hid (fun w7 h => HO6d.out.trans h HS.out)
      have hmm := hm
      cases un with
      | true =>
        have HFIN : Hid (∀ w7 w8 A7 N7 c7 g8, OwnI .u8 5 w6.drew.heap.size w7 A7 N7 c7 (bytesOf (ps L) f nn) → BX base w7 b (some m1) (some m2) (some m3) (left L f nn) m nx → Out (BS b (some m1) (some m2) (some m3)) w6.drew w7 →
            w8.ownsRow w7.heap.size 32 2 (.slice (some ⟨g8, 0, none⟩) 1 1) 1 [.int .u16 (st : Int), .slice A7 N7 c7] → Up w7 w8 → PutPost base b q1 q2 q3 l m nx ⟨t, st, sq, true, bg, en, bs⟩ w (.returned (.tuple #[.slice (some ⟨g8, 0, none⟩) 1 1, .int .i64 0])) w8) := Lib.hid (fun w7 w8 A7 N7 c7 g8 h1 h2 h3 h4 h5 => by
          have hN := h1.len
          refine ⟨0, some ⟨g8, 0, none⟩, 1, 1, [⟨(st, bytesOf (ps L) f nn), A7, c7⟩], some m1, some m2, some m3, left L f nn, m, nx, rfl, Lib.hid ⟨h2.up h5, ?_, rfl, ?_, ?_, (HO7'.out w7 h3).trans (h5.out _) (Sub.refl _ _), HS.out, HNX.out, by omega⟩⟩
          · have h6 := row_mono (base' := w.heap.size) h4 (Nat.le_trans hwq h3.size)
            simpa [mc, hN] using h6
          · intro y hy
            rw [List.mem_singleton.1 hy]
            refine ⟨?_, HBL.out.2, HBL.out.1⟩
            have h6 := own_up h1 h5
            rw [← hN] at h6
            exact row_mono h6 hb6
          · refine .inr (.inr (.inr ⟨HFORM.out, HNT.out, HLEN.out, rfl, .inr ⟨f, nn, HMN.out, HRST.out, .inl ⟨rfl, ?_, rfl, rfl⟩⟩⟩))
            rw [← HBY.out]; rfl)
        go_upto_region 17 with (fail)
        go_region_with (first
          | (go_at_call 28; refine (take_any base b f nn la st sq true m1 m2 m3 L m nx _ HB6d.out HM.out.1 HLA.out hst hsq HOK.out.1.held (fun y hy => (HOK.out.2 y hy).1) HKD.out).mono ?_; rintro e w7 ⟨A7, N7, c7, rfl, HA7, HB7, HO7⟩; have K7 := Lib.hid (HO7.out.blk K6d.out (HB6d.out.offC K6d.out (by decide))); have a0 : w7.cell? ⟨k, 0, none⟩ = some (.int .u16 (st : Int)) := cell_of K7.out rfl; have a1 : w7.cell? ⟨k, 1, none⟩ = some (.int .u16 (sq : Int)) := cell_of K7.out rfl; have a2 : w7.cell? ⟨k, 2, none⟩ = some (.bool true) := cell_of K7.out rfl)
          | (go_at_call 27; refine (pass_un b st sq N7 c7 A7 w7 (lt_of_blk HB7.out.top)).mono ?_; rintro e w8 ⟨g8, rfl, HR8, HU8⟩; have HZ := Lib.hid (HFIN.out w7 w8 A7 N7 c7 g8 HA7.out HB7.out HO7.out HR8.out HU8.out)))
        all_goals
          go_wp2_with fail
          go_ret2
          exact HZ.out
      | false =>
        have HFIN : Hid (∀ w7 w8 A7 N7 c7 e, OwnI .u8 5 w6.drew.heap.size w7 A7 N7 c7 (bytesOf (ps L) f nn) → BX base w7 b (some m1) (some m2) (some m3) (left L f nn) m nx → Out (BS b (some m1) (some m2) (some m3)) w6.drew w7 →
            PaPost b st m1 m2 m3 (left L f nn) (more m ⟨(st, sq, bytesOf (ps L) f nn), A7, c7⟩) nx w7 e w8 → ∃ v, e = .returned v ∧ PutPost base b q1 q2 q3 l m nx ⟨t, st, sq, false, bg, en, bs⟩ w (.returned (.tuple #[v, .int .i64 0])) w8) := Lib.hid (fun w7 w8 A7 N7 c7 e h1 h2 h3 h4 => by
          obtain ⟨A8, N8, c8, m8, o8, nx8, rfl, h5, h6⟩ := h4
          have hN := h1.len
          refine ⟨_, rfl, 0, A8, N8, c8, o8.map (fun y => ⟨(st, y.x.2.2), y.A, y.c⟩), some m1, some m2, some m3, left L f nn, m8, nx8, rfl, Lib.hid ?_⟩
          have hown : ∀ {B : Nat} {A : Option Addr} {N c : Nat} {zs : List Int}, OwnI .u8 5 B w7 A N c zs → OwnI .u8 5 B w8 A N c zs := fun {B A N c zs} h => Out.own h5.out.out h (h2.off h (by decide))
          have hma : ∀ y ∈ more m ⟨(st, sq, bytesOf (ps L) f nn), A7, c7⟩, OwnI .u8 5 base w8 y.A y.x.2.2.length y.c y.x.2.2 ∧ Byt y.x.2.2 ∧ y.x.2.2.length ≤ 131072 := fun y hy => by
            have hnew : OwnI .u8 5 base w8 A7 (bytesOf (ps L) f nn).length c7 (bytesOf (ps L) f nn) := by
              have h7 := hown h1
              rw [← hN] at h7
              exact row_mono h7 hb6
            unfold more at hy
            split at hy
            · exact ⟨hown (h2.byW y hy).1, (h2.byW y hy).2⟩
            · rcases List.mem_append.1 hy with hy | hy
              · exact ⟨hown (h2.byW y hy).1, (h2.byW y hy).2⟩
              · rw [List.mem_singleton.1 hy]
                exact ⟨hnew, HBL.out.2, HBL.out.1⟩
          have hml : (more m ⟨(st, sq, bytesOf (ps L) f nn), A7, c7⟩).length ≤ m.length + 1 := by
            unfold more
            split
            · omega
            · simp
          refine ⟨⟨h5.out.top, .inr ⟨m1, m2, m3, rfl, rfl, rfl, h5.out.mp⟩, fun y hy => ⟨hown (h2.by_ y hy).1, (h2.by_ y hy).2⟩, fun y hy => hma y (h5.out.sub.subset hy)⟩, ?_, by rw [List.length_map]; exact h5.out.len, ?_, ?_, (HO7'.out w7 h3).trans h5.out.out HS.out, HS.out, h5.out.lt, ?_⟩
          · have h7 := row_mono (base' := w.heap.size) h5.out.row (Nat.le_trans hwq h3.size)
            have h8 : (o8.map (fun y => (⟨(st, y.x.2.2), y.A, y.c⟩ : MsB))).flatMap mc = o8.flatMap (msc st) := by rw [List.flatMap_map]; rfl
            rw [h8]; exact h7
          · intro z hz
            obtain ⟨y, hy, rfl⟩ := List.mem_map.1 hz
            exact hma y (h5.out.told y hy)
          · refine .inr (.inr (.inr ⟨HFORM.out, HNT.out, HLEN.out, rfl, .inr ⟨f, nn, HMN.out, HRST.out, .inr ⟨rfl, ?_⟩⟩⟩))
            have h7 := h5.out.go [] (ts m8) nx8 (.stop (fun z hz => by
              obtain ⟨y, hy, rfl⟩ := List.mem_map.1 hz
              exact h6.out y hy) (List.Perm.refl _))
            have h8 : (ts (more m ⟨(st, sq, bytesOf (ps L) f nn), A7, c7⟩)).Perm (addW (ts m) (st, sq, bytesOf (⟨t, st, sq, false, bg, en, bs⟩ :: ps l) f nn)) := by
              rw [← HBY.out]
              have h9 := addW_end (ts m) (st, sq, bytesOf (ps L) f nn)
              have h10 : ts (more m ⟨(st, sq, bytesOf (ps L) f nn), A7, c7⟩) = if (ts m).any (fun y => decide (y.1 = (st, sq, bytesOf (ps L) f nn).1) && decide (y.2.1 = (st, sq, bytesOf (ps L) f nn).2.1)) then ts m else ts m ++ [(st, sq, bytesOf (ps L) f nn)] := by
                unfold more ts
                rw [List.any_map]
                split
                · rename_i hh; rw [if_pos]; exact hh
                · rename_i hh; rw [if_neg, List.map_append]
                  · rfl
                  · exact hh
              rw [h10]; exact h9
            have h9 := h7.perm h8
            have e1 : (o8.map fun y => (st, y.x.2.2)) ++ [] = (o8.map (fun y => (⟨(st, y.x.2.2), y.A, y.c⟩ : MsB))).map (·.m) := by rw [List.append_nil, List.map_map]; rfl
            rw [e1] at h9
            exact h9
          · have h7 := h5.out.le
            omega)
        go_upto_region 17 with (fail)
        go_region_with (first
          | (go_at_call 28; refine (take_any base b f nn la st sq false m1 m2 m3 L m nx _ HB6d.out HM.out.1 HLA.out hst hsq HOK.out.1.held (fun y hy => (HOK.out.2 y hy).1) HKD.out).mono ?_; rintro e w7 ⟨A7, N7, c7, rfl, HA7, HB7, HO7⟩; have K7 := Lib.hid (HO7.out.blk K6d.out (HB6d.out.offC K6d.out (by decide))); have a0 : w7.cell? ⟨k, 0, none⟩ = some (.int .u16 (st : Int)) := cell_of K7.out rfl; have a1 : w7.cell? ⟨k, 1, none⟩ = some (.int .u16 (sq : Int)) := cell_of K7.out rfl; have a2 : w7.cell? ⟨k, 2, none⟩ = some (.bool false) := cell_of K7.out rfl)
          | (go_at_call 27; refine (pass_any base b st sq N7 c7 A7 (bytesOf (ps L) f nn) m1 m2 m3 (left L f nn) m nx w7 HB7.out (by omega) hsq HNX.out (by omega) HA7.out.len.symm).mono ?_; intro e w8 HQ8; obtain ⟨v8, rfl, HZ⟩ := HFIN.out w7 w8 A7 N7 c7 e HA7.out HB7.out HO7.out HQ8))
        all_goals
          go_wp2_with fail
          go_ret2
          exact HZ
end Go.Proofs.Ytgcabidhpnaoiaa
