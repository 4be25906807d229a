import Derived.Test.YtgcabidhpnaoiaaBx2
import Derived.WalkSpells
namespace Go.Proofs.Ytgcabidhpnaoiaa
open Go Go.RowKit Fg
set_option linter.unusedVariables false
set_option linter.unusedSimpArgs false
/-! The program's hold. -/
namespace Fg
theorem bx_maps (q1 q2 q3 p1 p2 p3 : Option Nat) (nx : Nat → Nat) : (((bxBlk q1 q2 q3 nx).setIfInBounds 0 (.map p1)).setIfInBounds 1 (.map p2)).setIfInBounds 2 (.map p3) = bxBlk p1 p2 p3 nx := by simp [bxBlk]
/-- Bytes that are handed in lie in none of the box's own blocks. -/
theorem BX.offB {base : Nat} {w : World} {b : Nat} {q1 q2 q3 : Option Nat} {l : List PcB} {m : List LtB} {nx : Nat → Nat} (h : BX base w b q1 q2 q3 l m nx) {A : Option Addr} {n c : Nat} {xs : List Int} (hi : InB w A n c xs) (hne : xs ≠ []) : ∀ k, blk? A = some k → ¬ BS b q1 q2 q3 k := by
  intro k hk hS
  obtain ⟨x, ys, rfl⟩ := List.exists_cons_of_ne_nil hne
  obtain ⟨b', o, rfl, hlt, hc⟩ := hi.cells (by simp [ints])
  have e2 : b' = k := by simpa [blk?] using hk
  subst e2
  have h1 := hc 0 (.int .u8 x) (by simp [ints])
  rw [Nat.add_zero] at h1
  rcases hS with rfl | hS
  · have h2 : (bxBlk q1 q2 q3 nx)[o]? = some (.int .u8 x) := by
      have := h1
      simpa [World.cell?, h.top] using this
    match o, h2 with
    | 0, h2 => simp [bxBlk] at h2
    | 1, h2 => simp [bxBlk] at h2
    | 2, h2 => simp [bxBlk] at h2
    | 3, h2 => simp [bxBlk] at h2
    | 4, h2 => simp [bxBlk] at h2
    | 5, h2 => simp [bxBlk] at h2
    | 6, h2 => simp [bxBlk] at h2
    | 7, h2 => simp [bxBlk] at h2
    | 8, h2 => simp [bxBlk] at h2
    | 9, h2 => simp [bxBlk] at h2
    | 10, h2 => simp [bxBlk] at h2
    | (o + 11), h2 => simp [bxBlk] at h2
  · have hc : ∃ o : Obj, w.heap[b']? = some o ∧ o.isCells = false := by
      rcases h.maps with ⟨e1, e2, e3, _⟩ | ⟨m1, m2, m3, e1, e2, e3, hm⟩
      · rw [e1, e2, e3] at hS
        rcases hS with hS | hS | hS <;> cases hS
      · rw [e1, e2, e3] at hS
        rcases hS with hS | hS | hS <;> cases hS
        · exact mapS_blk hm.P
        · obtain ⟨E, hE, _⟩ := hm.T
          exact mapU_blk hE
        · exact mapS_blk hm.W
    obtain ⟨oo, h3, h4⟩ := hc
    cases oo with
    | cells => cases h4
    | _ => simp [World.cell?, h3] at h1
end Fg
def HoldPost (base b : Nat) (q1 q2 q3 : Option Nat) (p : Pc) (l : List PcB) (m : List LtB) (nx : Nat → Nat) (w : World) (e : Ending) (w' : World) : Prop :=
  e = .returned (.tuple #[]) ∧ ∃ m1 m2 m3 A c, Hid (BX base w' b (some m1) (some m2) (some m3) (l ++ [⟨p, A, c⟩]) m nx) ∧ Hid (Out (BS b q1 q2 q3) w w') ∧ Hid (Sub (BS b (some m1) (some m2) (some m3)) (BS b q1 q2 q3) w)
set_option maxRecDepth 100000 in
set_option maxHeartbeats 4000000 in
theorem hold_any (base b t st sq n c : Nat) (bg en un : Bool) (A : Option Addr) (bs : List Int) (q1 q2 q3 : Option Nat) (l : List PcB) (m : List LtB) (nx : Nat → Nat) (w : World) (hB : BX base w b q1 q2 q3 l m nx) (hin : InB w A n c bs) (h0 : 0 < n) (hn : n ≤ 256) (ht : t < 4294967296) (hst : st < 65536) (hsq : sq < 65536) (hnew : ∀ q ∈ ps l, q.tsn ≠ t) (hbase : base ≤ w.heap.size) :
    Calls Try.prog 25 #[.pointer (some ⟨b, 0, none⟩), .agg #[.int .u16 (st : Int), .int .u16 (sq : Int), .bool un], .agg #[.int .u32 (t : Int), .int .u16 (st : Int), .int .u16 (sq : Int), .bool bg, .bool en, .bool un, .slice A n c]] w (HoldPost base b q1 q2 q3 ⟨t, st, sq, un, bg, en, bs⟩ l m nx w) := by
  have HB := Lib.hid hB
  have HIN := Lib.hid hin
  have HNEW := Lib.hid hnew
  clear hB hin hnew
  have qT : ∀ (w : World) (r : Option Nat), (binOp .eql 73 (.map r) (.map none)).run Try.prog w = .ok (.bool r.isNone) w := fun w r => run_eql_map_nil w _ _ _ r und73
  go_enter Try.func25, Try.ntmps25
  go_upto_region 1 with (fail)
  have P1 := Lib.hid (((up_alloc (w.alloc (.cells #[.int .u16 (st : Int), .int .u16 (sq : Int), .bool un] 81)) (.cells #[.int .u32 (t : Int), .int .u16 (st : Int), .int .u16 (sq : Int), .bool bg, .bool en, .bool un, .slice A n c] 51)).block _ (lt_of_blk (new_at w (.cells #[.int .u16 (st : Int), .int .u16 (sq : Int), .bool un] 81)))).trans (new_at w (.cells #[.int .u16 (st : Int), .int .u16 (sq : Int), .bool un] 81)))
  have P2 := Lib.hid (new_at (w.alloc (.cells #[.int .u16 (st : Int), .int .u16 (sq : Int), .bool un] 81)) (.cells #[.int .u32 (t : Int), .int .u16 (st : Int), .int .u16 (sq : Int), .bool bg, .bool en, .bool un, .slice A n c] 51))
  rw [World.size_alloc] at P2
  have HU := Lib.hid ((up_alloc w (.cells #[.int .u16 (st : Int), .int .u16 (sq : Int), .bool un] 81)).trans (up_alloc (w.alloc (.cells #[.int .u16 (st : Int), .int .u16 (sq : Int), .bool un] 81)) (.cells #[.int .u32 (t : Int), .int .u16 (st : Int), .int .u16 (sq : Int), .bool bg, .bool en, .bool un, .slice A n c] 51)))
  generalize (w.alloc (.cells #[.int .u16 (st : Int), .int .u16 (sq : Int), .bool un] 81)).alloc (.cells #[.int .u32 (t : Int), .int .u16 (st : Int), .int .u16 (sq : Int), .bool bg, .bool en, .bool un, .slice A n c] 51) = W at P1 P2 HU ⊢
  generalize hqq : w.heap.size = q at P1 P2 hbase ⊢
  have hqW : q + 1 < W.heap.size := lt_of_blk P2.out
  have HB1 := Lib.hid (HB.out.up HU.out)
  have HI1 := Lib.hid (HIN.out.up HU.out)
  have k0 : W.cell? ⟨b, 0, none⟩ = some (.map q1) := cell_of HB1.out.top rfl
  generalize hN : q1.isNone = bN
  go_upto_if 10 with (fail)
  go_cut [] (fun wx => ∃ m1 m2 m3, Hid (BX base wx b (some m1) (some m2) (some m3) l m nx) ∧ Hid (Out (fun k => k = b) W wx) ∧ Hid (Sub (BS b (some m1) (some m2) (some m3)) (BS b q1 q2 q3) w))
  case first =>
    rcases HB1.out.maps with ⟨e1, e2, e3, e4, e5⟩ | ⟨m1, m2, m3, e1, e2, e3, hm⟩
    · subst e1; subst e2; subst e3; subst e4; subst e5
      have e0 : bN = true := hN.symm
      subst e0
      have hmm := @run_makeMap Try.prog
      have g1 := up_alloc W (.map #[] 0)
      have g2 := up_alloc (W.alloc (.map #[] 0)) (.map #[] 0)
      have g3 := up_alloc ((W.alloc (.map #[] 0)).alloc (.map #[] 0)) (.map #[] 0)
      have n1 := new_at W (.map #[] 0)
      have n2 := new_at (W.alloc (.map #[] 0)) (.map #[] 0)
      have n3 := new_at ((W.alloc (.map #[] 0)).alloc (.map #[] 0)) (.map #[] 0)
      rw [World.size_alloc] at n2
      rw [World.size_alloc, World.size_alloc] at n3
      have M1 := Lib.hid ((g3.block _ (lt_of_blk ((g2.block _ (lt_of_blk n1)).trans n1))).trans ((g2.block _ (lt_of_blk n1)).trans n1))
      have M2 := Lib.hid ((g3.block _ (lt_of_blk n2)).trans n2)
      have M3 := Lib.hid n3
      have HG := Lib.hid ((g1.trans g2).trans g3)
      clear g1 g2 g3 n1 n2 n3
      obtain ⟨W3, hW3⟩ : ∃ W3, W3 = (((W.alloc (.map #[] 0)).alloc (.map #[] 0)).alloc (.map #[] 0)) := ⟨_, rfl⟩
      rw [← hW3] at M1 M2 M3 HG
      have T3 := Lib.hid ((HG.out.block b (lt_of_blk HB1.out.top)).trans HB1.out.top)
      have T4 := Lib.hid (setCell_at (j := 0) (.map (some W.heap.size)) T3.out)
      have T5 := Lib.hid (setCell_at (j := 1) (.map (some (W.heap.size + 1))) T4.out)
      have T6 := Lib.hid (setCell_at (j := 2) (.map (some (W.heap.size + 1 + 1))) T5.out)
      have c0 : W3.cell? ⟨b, 0, none⟩ = some (.map none) := cell_of T3.out rfl
      have f0 : W3.frozen? ⟨b, 0, none⟩ = false := frozen_at T3.out
      have c1 : (W3.setCell ⟨b, 0, none⟩ (.map (some W.heap.size))).cell? ⟨b, 1, none⟩ = some (.map none) := cell_of T4.out rfl
      have f1 : (W3.setCell ⟨b, 0, none⟩ (.map (some W.heap.size))).frozen? ⟨b, 1, none⟩ = false := frozen_at T4.out
      have c2 : ((W3.setCell ⟨b, 0, none⟩ (.map (some W.heap.size))).setCell ⟨b, 1, none⟩ (.map (some (W.heap.size + 1)))).cell? ⟨b, 2, none⟩ = some (.map none) := cell_of T5.out rfl
      have f2 : ((W3.setCell ⟨b, 0, none⟩ (.map (some W.heap.size))).setCell ⟨b, 1, none⟩ (.map (some (W.heap.size + 1)))).frozen? ⟨b, 2, none⟩ = false := frozen_at T5.out
      rw [hW3] at c0 f0 c1 f1 c2 f2
      go_wp2_with fail
      go_meet
      refine ⟨W.heap.size, W.heap.size + 1, W.heap.size + 1 + 1, Lib.hid ?_, Lib.hid ?_, Lib.hid ?_⟩
      · rw [← hW3]
        rw [bx_maps] at T6
        have O3 : Out (fun k => k = b) W3 (((W3.setCell ⟨b, 0, none⟩ (.map (some W.heap.size))).setCell ⟨b, 1, none⟩ (.map (some (W.heap.size + 1)))).setCell ⟨b, 2, none⟩ (.map (some (W.heap.size + 1 + 1)))) :=
          ((setCell_out _ _ _ _).trans (setCell_out _ _ _ _) (Sub.refl _ _)).trans (setCell_out _ _ _ _) (Sub.refl _ _)
        have hbl := lt_of_blk HB1.out.top
        refine ⟨T6.out, .inr ⟨_, _, _, rfl, rfl, rfl, ⟨⟨#[], 0, O3.blk M1.out (by omega), rfl, by simp, by simp⟩, ⟨[], ⟨0, O3.blk M2.out (by omega), by simp, by simp, by simp⟩, rfl⟩, ⟨#[], 0, O3.blk M3.out (by omega), rfl, by simp, by simp⟩, by omega, by omega, by omega⟩⟩, by simp, by simp⟩
      · rw [← hW3]
        exact (HG.out.out _).trans (((setCell_out _ _ _ _).trans (setCell_out _ _ _ _) (Sub.refl _ _)).trans (setCell_out _ _ _ _) (Sub.refl _ _)) (Sub.refl _ _)
      · intro k hk
        have h4 := HU.out.size
        rcases hk with hk | hk | hk | hk
        · exact .inl (.inl hk)
        all_goals
          have := Option.some.inj hk
          exact .inr (by omega)
    · subst e1; subst e2; subst e3
      have e0 : bN = false := hN.symm
      subst e0
      go_wp2_with fail
      go_meet
      exact ⟨m1, m2, m3, HB1, Lib.hid (Out.refl _ _), Lib.hid (Sub.refl _ _)⟩
  case rest =>
    obtain ⟨m1, m2, m3, HB2, HO2, HS2⟩ := hcut
    have hbW : b < q := by rw [← hqq]; exact lt_of_blk HB.out.top
    have hbs : bs ≠ [] := fun e => by have := HIN.out.len; rw [e] at this; simp at this; omega
    have Q1 := Lib.hid (HO2.out.blk P1.out (by omega))
    have Q2 := Lib.hid (HO2.out.blk P2.out (by omega))
    have HI2 := Lib.hid (HI1.out.outS' HO2.out (fun h k hk e => HB1.out.offB HI1.out hbs k hk (.inl e)))
    have d6 : wc.cell? ⟨q + 1, 6, none⟩ = some (.slice A n c) := cell_of Q2.out rfl
    go_wp2_with fail
    refine (clone_b A n c bs wc HI2.out h0 (by omega)).mono ?_
    rintro e w4 ⟨A', c', rfl, HW4, HU4⟩
    have Q24 := Lib.hid ((HU4.out.block _ (lt_of_blk Q2.out)).trans Q2.out)
    have d6' : w4.cell? ⟨q + 1, 6, none⟩ = some (.slice A n c) := cell_of Q24.out rfl
    have f6' : w4.frozen? ⟨q + 1, 6, none⟩ = false := frozen_at Q24.out
    go_upto_region 4 with (fail)
    have Q25 := Lib.hid (setCell_at (j := 6) (.slice A' n c') Q24.out)
    have O5 := setCell_out w4 (q + 1) 6 (.slice A' n c')
    have HB5 := Lib.hid ((HB2.out.up HU4.out).out O5 (fun k hk e => (HB2.out.up HU4.out).offC Q24.out (by decide) (by rw [← e]; exact hk)) (fun k _ ⟨cs, f, h⟩ e => by
      rw [e, Q24.out] at h
      injection h with h; injection h with _ h; exact absurd h (by decide)))
    have Q15 := Lib.hid (O5.blk ((HU4.out.block _ (lt_of_blk Q1.out)).trans Q1.out) (by omega))
    have HW5 := Lib.hid (Out.own O5 HW4.out (own_ne HW4.out Q24.out (by decide)))
    have HO5 := Lib.hid ((HU4.out.out (fun k => k = q + 1)).trans O5 (Sub.refl _ _))
    clear O5 d6 d6' f6' k0
    generalize w4.setCell ⟨q + 1, 6, none⟩ (.slice A' n c') = w5 at Q25 HB5 Q15 HW5 HO5 ⊢
    have k0 : w5.cell? ⟨b, 0, none⟩ = some (.map (some m1)) := cell_of HB5.out.top rfl
    have k1 : w5.cell? ⟨b, 1, none⟩ = some (.map (some m2)) := cell_of HB5.out.top rfl
    have a0 : w5.cell? ⟨q, 0, none⟩ = some (.int .u16 (st : Int)) := cell_of Q15.out rfl
    have a1 : w5.cell? ⟨q, 1, none⟩ = some (.int .u16 (sq : Int)) := cell_of Q15.out rfl
    have a2 : w5.cell? ⟨q, 2, none⟩ = some (.bool un) := cell_of Q15.out rfl
    have b0 : w5.cell? ⟨q + 1, 0, none⟩ = some (.int .u32 (t : Int)) := cell_of Q25.out rfl
    have b1 : w5.cell? ⟨q + 1, 1, none⟩ = some (.int .u16 (st : Int)) := cell_of Q25.out rfl
    have b2 : w5.cell? ⟨q + 1, 2, none⟩ = some (.int .u16 (sq : Int)) := cell_of Q25.out rfl
    have b3 : w5.cell? ⟨q + 1, 3, none⟩ = some (.bool bg) := cell_of Q25.out rfl
    have b4 : w5.cell? ⟨q + 1, 4, none⟩ = some (.bool en) := cell_of Q25.out rfl
    have b5 : w5.cell? ⟨q + 1, 5, none⟩ = some (.bool un) := cell_of Q25.out rfl
    have b6 : w5.cell? ⟨q + 1, 6, none⟩ = some (.slice A' n c') := cell_of Q25.out rfl
    obtain ⟨x, hx⟩ : ∃ x : PcB, x = ⟨⟨t, st, sq, un, bg, en, bs⟩, A', c'⟩ := ⟨_, rfl⟩
    have HX := Lib.hid hx
    have hbn := HIN.out.len
    have HMM : Hid (Maps w5 m1 m2 m3 l m) := Lib.hid (by
      rcases HB5.out.maps with ⟨e, _⟩ | ⟨n1, n2, n3, e1, e2, e3, hm⟩
      · cases e
      · cases e1; cases e2; cases e3; exact hm)
    have hkn : mget (l.map plE) ((st, sq, un), t) = none := mget_none.2 (fun hm => by
      rw [List.map_map] at hm
      obtain ⟨y, hy, e⟩ := List.mem_map.1 hm
      have e2 : y.p.tsn = t := congrArg (·.2) e
      exact HNEW.out y.p (List.mem_map.2 ⟨y, hy, rfl⟩) e2)
    obtain ⟨o1, hu1, hm1⟩ := run_updS (P := Try.prog) mkP und73 (HMM.out.P.keep (w' := w5.drew) rfl) (k := ((st, sq, un), t)) ⟨⟨hst, hsq⟩, ht⟩ hkn x
    rw [show pcV x = .agg #[.int .u32 (t : Int), .int .u16 (st : Int), .int .u16 (sq : Int), .bool bg, .bool en, .bool un, .slice A' n c'] by rw [hx]; simp [pcV, pcc, hbn]] at hu1
    have hu1' : (Instr.mapUpdate 73 (.map (some m1)) (.agg #[.int .u16 (st : Int), .int .u16 (sq : Int), .bool un, .int .u32 (t : Int)]) (.agg #[.int .u32 (t : Int), .int .u16 (st : Int), .int .u16 (sq : Int), .bool bg, .bool en, .bool un, .slice A' n c'])).run Try.prog w5.drew = .ok () (setBl w5.drew m1 o1) := hu1
    have HM1 := Lib.hid hm1
    clear hu1 hm1 hx hkn
    have O6 := Lib.hid (((up_drewN w5 1).out (fun k => k = m1)).trans (setBl_out w5.drew m1 o1) (Sub.refl _ _))
    go_cut [] (fun wx => wx = setBl w5.drew m1 o1)
    case first =>
      go_region
      all_goals
        go_wp2_with fail
        go_meet
        first | rfl | trace_state
    case rest =>
      subst hcut
      generalize setBl w5.drew m1 o1 = w6 at HM1 O6 ⊢
      clear hu1'
      have hbm : b ≠ m1 := by
        obtain ⟨o, h1, h2⟩ := mapS_blk HMM.out.P
        exact not_cells ⟨o, h1, h2⟩ HB5.out.top
      have k1 : w6.cell? ⟨b, 1, none⟩ = some (.map (some m2)) := cell_out k1 O6.out hbm
      have hqm : q + 1 ≠ m1 := not_cells (mapS_blk HMM.out.P) Q25.out
      have b0 : w6.cell? ⟨q + 1, 0, none⟩ = some (.int .u32 (t : Int)) := cell_out b0 O6.out hqm
      obtain ⟨E, hE, hEk⟩ := HMM.out.T
      have hE6 : MapU w6.drew m2 E := hE.keep (O6.out.block m2 hE.lt (fun e => HMM.out.n12 e.symm))
      have hnk : (t : Int) ∉ E.map (·.1) := fun hm => by
        rw [hEk] at hm
        obtain ⟨y, hy, e⟩ := List.mem_map.1 hm
        unfold tnE at e
        exact HNEW.out y.p (List.mem_map.2 ⟨y, hy, rfl⟩) (by omega)
      obtain ⟨o2, bb, hu2, hm2⟩ := run_updU (P := Try.prog) und74 (by kernel_rfl : Try.prog.underlying 49 = some (.int .u32)) hE6 (t : Int) hnk
      have HM2 := Lib.hid hm2
      have HEK := Lib.hid hEk
      have O7 := Lib.hid (((up_drewN w6 1).out (fun k => k = m2)).trans (setBk_out w6.drew m2 o2) (Sub.refl _ _))
      clear hm2 hEk hnk hE6 hE
      go_upto_region 5 with (fail)
      go_region
      all_goals
        clear hu2
        generalize setBk w6.drew m2 o2 = w7 at HM2 O7 ⊢
        go_wp2_with fail
        go_end0
        have O67 : Out (fun k => k = m1 ∨ k = m2) w5 w7 := (O6.out.mono (fun k hk => .inl hk)).trans (O7.out.mono (fun k hk => .inr hk)) (Sub.refl _ _)
        have hbb : ¬ (b = m1 ∨ b = m2) := by
          rintro (e | e)
          · exact hbm e
          · exact not_cells (by obtain ⟨E', hE', _⟩ := HMM.out.T; exact mapU_blk hE') HB5.out.top e
        have hlw := HMM.out.lt
        have hown : ∀ {B : Nat} {A : Option Addr} {N c : Nat} {zs : List Int}, OwnI .u8 5 B w5 A N c zs → OwnI .u8 5 B w7 A N c zs := fun {B A N c zs} h => Out.own O67 h (fun g hg e => by
          refine HB5.out.off h (by decide) g hg ?_
          rcases e with e | e
          · exact .inr (.inl (by rw [e]))
          · exact .inr (.inr (.inl (by rw [e]))))
        refine ⟨rfl, m1, m2, m3, A', c', Lib.hid ⟨O67.blk HB5.out.top hbb, .inr ⟨m1, m2, m3, rfl, rfl, rfl, ⟨?_, ⟨_, HM2.out, ?_⟩, ?_, HMM.out.n12, HMM.out.n13, HMM.out.n23⟩⟩, fun y hy => ?_, fun y hy => ?_⟩, Lib.hid ?_, HS2⟩
        · rw [List.map_append]
          have h1 := HM1.out.keep (O7.out.block m1 HM1.out.lt HMM.out.n12)
          rw [HX.out] at h1
          exact h1
        · rw [List.map_append, List.map_append, HEK.out]; rfl
        · exact HMM.out.W.keep (O67.block m3 hlw.2.2 (fun e => by
            rcases e with e | e
            · exact HMM.out.n13 e.symm
            · exact HMM.out.n23 e.symm))
        · rcases List.mem_append.1 hy with hy | hy
          · have h1 := HB5.out.by_ y hy
            exact ⟨hown h1.1, h1.2⟩
          · rw [List.mem_singleton.1 hy]
            refine ⟨?_, HIN.out.byt, by show bs.length ≤ 256; omega⟩
            have h1 := hown HW5.out
            rw [← hbn] at h1
            exact row_mono h1 (by have := HU.out.size; have := HO2.out.size; omega)
        · have h1 := HB5.out.byW y hy
          exact ⟨hown h1.1, h1.2⟩
        · have hsz2 := HO2.out.size
          have hsz1 := HU.out.size
          have hsz5 := HO5.out.size
          have a1 : Out (fun k => k = b) w wc := (HU.out.out _).trans HO2.out (Sub.refl _ _)
          have h1 : Out (fun k => k = q + 1 ∨ BS b (some m1) (some m2) (some m3) k) wc w7 := (HO5.out.mono (fun k hk => .inl hk)).trans (O67.mono (fun k hk => .inr (by
              rcases hk with e | e
              · exact .inr (.inl (by rw [e]))
              · exact .inr (.inr (.inl (by rw [e])))))) (Sub.refl _ _)
          refine (a1.mono (fun k hk => .inl hk)).trans h1 (fun k hk => ?_)
          rcases hk with e | e
          · exact .inr (by omega)
          · exact HS2.out k e
end Go.Proofs.Ytgcabidhpnaoiaa
