import Derived.Test.YtgcabidhpnaoiaaBx3
import Derived.Test.YtgcabidhpnaoiaaFgE
namespace Go.Proofs.Ytgcabidhpnaoiaa
open Go Go.RowKit Fg
set_option linter.unusedVariables false
set_option linter.unusedSimpArgs false
/-! The program's ends. -/
namespace Fg
theorem pl_some {l : List PcB} {kd : Kd} {t : Nat} {x : PcB} (h : mget (l.map plE) (kd, t) = some x) : x ∈ l ∧ kdOf x.p = kd ∧ x.p.tsn = t := by
  have h1 := mget_mem h
  obtain ⟨y, hy, e⟩ := List.mem_map.1 h1
  unfold plE at e
  have e1 : y = x := congrArg (·.2) e
  subst e1
  have e2 := congrArg (·.1) e
  exact ⟨hy, congrArg (·.1) e2, congrArg (·.2) e2⟩
theorem pl_none {l : List PcB} {kd : Kd} {t : Nat} (h : mget (l.map plE) (kd, t) = none) : ∀ y ∈ ps l, y.tsn = t → kdOf y = kd → False := fun y hy e1 e2 => by
  obtain ⟨x, hx, rfl⟩ := List.mem_map.1 hy
  refine mget_none.1 h ?_
  rw [List.map_map]
  refine List.mem_map.2 ⟨x, hx, ?_⟩
  show (((x.p.st, x.p.sq, x.p.un), x.p.tsn) : Pl) = (kd, t)
  rw [e1, ← e2]; rfl
theorem pl_at {l : List PcB} {kd : Kd} {t : Nat} (hn : ((l.map plE).map (·.1)).Nodup) {y : Pc} (hy : y ∈ ps l) (e1 : y.tsn = t) (e2 : kdOf y = kd) : ∃ x, mget (l.map plE) (kd, t) = some x ∧ x.p = y := by
  obtain ⟨x, hx, rfl⟩ := List.mem_map.1 hy
  have := mget_of_mem hn (x := plE x) (List.mem_map.2 ⟨x, hx, rfl⟩)
  have e3 : (plE x).1 = (kd, t) := by
    show (((x.p.st, x.p.sq, x.p.un), x.p.tsn) : Pl) = (kd, t)
    rw [e1, ← e2]; rfl
  rw [e3] at this
  exact ⟨x, this, rfl⟩
theorem fld51_3 (a b c f : Value) (bg en un : Bool) (w : World) : (Instr.field 51 (.agg #[a, b, c, .bool bg, .bool en, .bool un, f]) 3).run Try.prog w = .ok (.bool bg) w := by kernel_rfl
theorem fld51_4 (a b c f : Value) (bg en un : Bool) (w : World) : (Instr.field 51 (.agg #[a, b, c, .bool bg, .bool en, .bool un, f]) 4).run Try.prog w = .ok (.bool en) w := by kernel_rfl
theorem sub_pred (t k : Nat) (hk : k ≤ 1000) : (((sub t k : Nat) : Int) - 1) % 4294967296 = ((sub t (k + 1) : Nat) : Int) := by unfold sub; omega
theorem add_next (t k : Nat) : (((add t k : Nat) : Int) + 1) % 4294967296 = ((add t (k + 1) : Nat) : Int) := by unfold add; omega
def msB (t : Nat) (v : Value) : Nat := 601 - (t + 4294967296 - (intOf v).toNat) % 4294967296
def msF (t : Nat) (v : Value) : Nat := 601 - ((intOf v).toNat + 4294967296 - t) % 4294967296
theorem msB_at {t k : Nat} (ht : t < 4294967296) (hk : k ≤ 601) : msB t (.int .u32 ((sub t k : Nat) : Int)) = 601 - k := by
  unfold msB
  rw [show (intOf (.int .u32 ((sub t k : Nat) : Int))).toNat = sub t k from Int.toNat_natCast _]
  have : (t + 4294967296 - sub t k) % 4294967296 = k := by unfold sub; omega
  rw [this]
theorem msF_at {t k : Nat} (ht : t < 4294967296) (hk : k ≤ 601) : msF t (.int .u32 ((add t k : Nat) : Int)) = 601 - k := by
  unfold msF
  rw [show (intOf (.int .u32 ((add t k : Nat) : Int))).toNat = add t k from Int.toNat_natCast _]
  have : (add t k + 4294967296 - t) % 4294967296 = k := by unfold add; omega
  rw [this]
theorem add_lt (t k : Nat) : add t k < 4294967296 := by unfold add; omega
def EndsR (H : List Pc) (t f la : Nat) (c : Bool) : Prop := (c = true ∧ ∃ n, Mine H t f n ∧ la = add f (n - 1)) ∨ (c = false ∧ ∀ t' n, ¬ Mine H t t' n)
end Fg
set_option maxRecDepth 100000 in
set_option maxHeartbeats 4000000 in
theorem ends_any (base b t st sq : Nat) (un : Bool) (m1 m2 m3 : Nat) (l : List PcB) (m : List LtB) (nx : Nat → Nat) (w : World) (hB : BX base w b (some m1) (some m2) (some m3) l m nx) (ht : t < 4294967296) (hst : st < 65536) (hsq : sq < 65536) (ha : Apart (ps l)) (hl : l.length ≤ 512) (p : Pc) (hp : p ∈ ps l) (hpt : p.tsn = t) (hpk : kdOf p = (st, sq, un)) :
    Calls Try.prog 26 #[.pointer (some ⟨b, 0, none⟩), .agg #[.int .u16 (st : Int), .int .u16 (sq : Int), .bool un], .int .u32 (t : Int)] w fun e w' => ∃ (f la : Nat) (c : Bool), e = .returned (.tuple #[.int .u32 f, .int .u32 la, .bool c]) ∧ Hid (EndsR (ps l) t f la c) ∧ Hid (Up w w') := by
  have HB := Lib.hid hB
  have HA := Lib.hid ha
  have HP := Lib.hid (And.intro hp (And.intro hpt hpk))
  have HL : Hid ((ps l).length ≤ 512) := Lib.hid (by unfold ps; simpa using hl)
  clear hB ha hp hpt hpk
  have fl3 := fld51_3
  have fl4 := fld51_4
  go_enter Try.func26, Try.ntmps26
  go_upto_region 1 with (fail)
  have P1 := Lib.hid (new_at w (.cells #[.int .u16 (st : Int), .int .u16 (sq : Int), .bool un] 81))
  have HU := Lib.hid (up_alloc w (.cells #[.int .u16 (st : Int), .int .u16 (sq : Int), .bool un] 81))
  generalize w.alloc (.cells #[.int .u16 (st : Int), .int .u16 (sq : Int), .bool un] 81) = W at P1 HU ⊢
  generalize hqq : w.heap.size = q at P1 ⊢
  have HB1 := Lib.hid (HB.out.up HU.out)
  have HMM : Hid (Maps W m1 m2 m3 l m) := Lib.hid (by
      rcases HB1.out.maps with ⟨e, _⟩ | ⟨n1, n2, n3, e1, e2, e3, hm⟩
      · cases e
      · cases e1; cases e2; cases e3; exact hm)
  have HK0 : Hid (Bk (ps l) (st, sq, un) t 0) := Lib.hid (Bk.zero ht HP.out.1 HP.out.2.1 HP.out.2.2)
  go_wp2_with fail
  go_loopw [6, 7] (fun fv lv wr => ∃ k : Nat, k ≤ 600 ∧ fv = .int .u32 ((Fg.sub t k : Nat) : Int) ∧ lv = .int .u32 (t : Int) ∧ Hid (Bk (ps l) (st, sq, un) t k) ∧ Hid (Up W wr)) (fun fv _ _ => msB t fv)
  case atStart => exact ⟨0, by omega, by rw [sub_zero ht], rfl, HK0, Lib.hid (Up.refl _)⟩
  case round =>
    obtain ⟨k, hk, rfl, rfl, hK, hU⟩ := hrel
    have B1 := Lib.hid (HB1.out.up hU.out)
    have M1 : Hid (Maps wr m1 m2 m3 l m) := Lib.hid (HMM.out.keep (hU.out.block _ HMM.out.lt.1) (hU.out.block _ HMM.out.lt.2.1) (hU.out.block _ HMM.out.lt.2.2))
    have Q1 := Lib.hid ((hU.out.block _ (lt_of_blk P1.out)).trans P1.out)
    have k0 : wr.cell? ⟨b, 0, none⟩ = some (.map (some m1)) := cell_of B1.out.top rfl
    have a0 : wr.cell? ⟨q, 0, none⟩ = some (.int .u16 (st : Int)) := cell_of Q1.out rfl
    have a1 : wr.cell? ⟨q, 1, none⟩ = some (.int .u16 (sq : Int)) := cell_of Q1.out rfl
    have a2 : wr.cell? ⟨q, 2, none⟩ = some (.bool un) := cell_of Q1.out rfl
    obtain ⟨x, hx, hxp⟩ : ∃ x, mget (l.map plE) ((st, sq, un), Fg.sub t k) = some x ∧ x.p ∈ ps l ∧ x.p.tsn = Fg.sub t k := by
      obtain ⟨y, hy, e1, e2⟩ := hK.out.at_ k (Nat.le_refl _)
      obtain ⟨es, c, _, _, hn, _⟩ := M1.out.P
      obtain ⟨x, hx, rfl⟩ := pl_at hn hy e1 e2
      exact ⟨x, hx, hy, e1⟩
    have vL : ∀ j, (Instr.lookup 73 (.map (some m1)) (.agg #[.int .u16 (st : Int), .int .u16 (sq : Int), .bool un, .int .u32 ((Fg.sub t k : Nat) : Int)]) false).run Try.prog (wr.drewN j) = .ok (.agg #[.int .u32 x.p.tsn, .int .u16 x.p.st, .int .u16 x.p.sq, .bool x.p.bg, .bool x.p.en, .bool x.p.un, .slice x.A x.p.bs.length x.c]) (wr.drewN j) := fun j => by
      have h1 := run_lookS1 (P := Try.prog) mkP und73 zero51 (M1.out.P.keep (w' := wr.drewN j) rfl) (k := ((st, sq, un), Fg.sub t k)) ⟨⟨hst, hsq⟩, sub_lt _ _⟩
      rw [hx] at h1
      exact h1
    have HX := Lib.hid hx
    have HXP := Lib.hid hxp
    clear hx hxp
    by_cases hb : x.p.bg = true
    · rw [hb] at vL
      go_upto_region 2 with (fail)
      go_quiet (fail)
      have HU4 := Lib.hid (hU.out.trans (up_drewN wr nq))
      generalize wr.drewN nq = W4 at HU4 ⊢
      clear vL k0 a0 a1 a2
      have HF0 : Hid (Fw (ps l) (st, sq, un) t 0) := Lib.hid (Fw.zero ht HP.out.1 HP.out.2.1 HP.out.2.2)
      go_wp2_with fail
      go_loopw [6, 7] (fun fv lv wr => ∃ k2 : Nat, k2 ≤ 600 ∧ lv = .int .u32 ((Fg.add t k2 : Nat) : Int) ∧ fv = .int .u32 ((Fg.sub t k : Nat) : Int) ∧ Hid (Fw (ps l) (st, sq, un) t k2) ∧ Hid (Up W wr)) (fun _ lv _ => msF t lv)
      case atStart => exact ⟨0, by omega, by rw [add_zero ht], rfl, HF0, HU4⟩
      case round =>
        obtain ⟨k2, hk2, rfl, rfl, hK2, hU2⟩ := hrel
        have B1 := Lib.hid (HB1.out.up hU2.out)
        have M1 : Hid (Maps wr m1 m2 m3 l m) := Lib.hid (HMM.out.keep (hU2.out.block _ HMM.out.lt.1) (hU2.out.block _ HMM.out.lt.2.1) (hU2.out.block _ HMM.out.lt.2.2))
        have Q1 := Lib.hid ((hU2.out.block _ (lt_of_blk P1.out)).trans P1.out)
        have k0 : wr.cell? ⟨b, 0, none⟩ = some (.map (some m1)) := cell_of B1.out.top rfl
        have a0 : wr.cell? ⟨q, 0, none⟩ = some (.int .u16 (st : Int)) := cell_of Q1.out rfl
        have a1 : wr.cell? ⟨q, 1, none⟩ = some (.int .u16 (sq : Int)) := cell_of Q1.out rfl
        have a2 : wr.cell? ⟨q, 2, none⟩ = some (.bool un) := cell_of Q1.out rfl
        obtain ⟨xx, hxx, hxxp⟩ : ∃ xx, mget (l.map plE) ((st, sq, un), Fg.add t k2) = some xx ∧ xx.p ∈ ps l ∧ xx.p.tsn = Fg.add t k2 := by
          obtain ⟨y, hy, e1, e2⟩ := hK2.out.at_ k2 (Nat.le_refl _)
          obtain ⟨es, c, _, _, hn, _⟩ := M1.out.P
          obtain ⟨xx, hxx, rfl⟩ := pl_at hn hy e1 e2
          exact ⟨xx, hxx, hy, e1⟩
        have vL : ∀ j, (Instr.lookup 73 (.map (some m1)) (.agg #[.int .u16 (st : Int), .int .u16 (sq : Int), .bool un, .int .u32 ((Fg.add t k2 : Nat) : Int)]) false).run Try.prog (wr.drewN j) = .ok (.agg #[.int .u32 xx.p.tsn, .int .u16 xx.p.st, .int .u16 xx.p.sq, .bool xx.p.bg, .bool xx.p.en, .bool xx.p.un, .slice xx.A xx.p.bs.length xx.c]) (wr.drewN j) := fun j => by
          have h1 := run_lookS1 (P := Try.prog) mkP und73 zero51 (M1.out.P.keep (w' := wr.drewN j) rfl) (k := ((st, sq, un), Fg.add t k2)) ⟨⟨hst, hsq⟩, add_lt _ _⟩
          rw [hxx] at h1
          exact h1
        have HXX := Lib.hid hxx
        have HXXP := Lib.hid hxxp
        clear hxx hxxp
        by_cases hb2 : xx.p.en = true
        · have HFIN : Hid (EndsR (ps l) t (Fg.sub t k) (Fg.add t k2) true) := Lib.hid (.inl ⟨rfl, k + k2 + 1, mine_ends HA.out ht hK.out hK2.out HXP.out.1 HXP.out.2 hb HXXP.out.1 HXXP.out.2 hb2 HL.out (by omega) (by omega), by unfold Fg.add Fg.sub; omega⟩)
          rw [hb2] at vL
          go_upto_region 7 with (fail)
          go_quiet (fail)
          go_wp2_with fail
          go_ret3
          exact ⟨_, _, true, rfl, HFIN, Lib.hid ((HU.out.trans hU2.out).trans (up_drewN wr nq))⟩
        · have hb2 : xx.p.en = false := by simpa using hb2
          rw [hb2] at vL
          go_upto_region 7 with (fail)
          go_quiet (fail)
          go_upto_region 9 with (fail)
          rw [add_next t k2]
          have HU5 := Lib.hid (hU2.out.trans (up_drewN wr nq))
          have M4 : Hid (Maps (wr.drewN nq) m1 m2 m3 l m) := Lib.hid (M1.out.keep rfl rfl rfl)
          have k0' : (wr.drewN nq).cell? ⟨b, 0, none⟩ = some (.map (some m1)) := k0
          have a0' : (wr.drewN nq).cell? ⟨q, 0, none⟩ = some (.int .u16 (st : Int)) := a0
          have a1' : (wr.drewN nq).cell? ⟨q, 1, none⟩ = some (.int .u16 (sq : Int)) := a1
          have a2' : (wr.drewN nq).cell? ⟨q, 2, none⟩ = some (.bool un) := a2
          clear vL k0 a0 a1 a2 M1 B1 Q1
          generalize wr.drewN nq = w4 at HU5 M4 k0' a0' a1' a2' ⊢
          have NU := Lib.hid (up_alloc w4 (.cells #[.int .u32 0, .int .u16 0, .int .u16 0, .bool false, .bool false, .bool false, .slice none 0 0] 51))
          have N1 := Lib.hid (new_at w4 (.cells #[.int .u32 0, .int .u16 0, .int .u16 0, .bool false, .bool false, .bool false, .slice none 0 0] 51))
          have NU' : Hid (Up w4 (w4.alloc (.cells #[.int .u32 0, .int .u16 0, .int .u16 0, .bool false, .bool false, .bool false, .slice none 0 0] 51)).drew) := Lib.hid (NU.out.trans (Up.drew _))
          have N1' : Hid ((w4.alloc (.cells #[.int .u32 0, .int .u16 0, .int .u16 0, .bool false, .bool false, .bool false, .slice none 0 0] 51)).drew.heap[w4.heap.size]? = some (.cells #[.int .u32 0, .int .u16 0, .int .u16 0, .bool false, .bool false, .bool false, .slice none 0 0] 51)) := N1
          have k0 := cell_up k0' NU'.out
          have a0 := cell_up a0' NU'.out
          have a1 := cell_up a1' NU'.out
          have a2 := cell_up a2' NU'.out
          have h1 := run_lookS (P := Try.prog) mkP und73 zero51 (M4.out.P.keep (w' := (w4.alloc (.cells #[.int .u32 0, .int .u16 0, .int .u16 0, .bool false, .bool false, .bool false, .slice none 0 0] 51)).drew) (NU'.out.block _ M4.out.lt.1)) (k := ((st, sq, un), Fg.add t (k2 + 1))) ⟨⟨hst, hsq⟩, add_lt _ _⟩
          have g1 := run_lookS (P := Try.prog) mkP und73 zero51 (M4.out.P.keep (w' := w4.drew) rfl) (k := ((st, sq, un), Fg.add t (k2 + 1))) ⟨⟨hst, hsq⟩, add_lt _ _⟩
          have n0 : (w4.alloc (.cells #[.int .u32 0, .int .u16 0, .int .u16 0, .bool false, .bool false, .bool false, .slice none 0 0] 51)).drew.cell? ⟨w4.heap.size, 0, none⟩ = some (.int .u32 0) := cell_of N1'.out rfl
          have f0 : (w4.alloc (.cells #[.int .u32 0, .int .u16 0, .int .u16 0, .bool false, .bool false, .bool false, .slice none 0 0] 51)).drew.frozen? ⟨w4.heap.size, 0, none⟩ = false := frozen_at N1'.out
          cases hg : mget (l.map plE) ((st, sq, un), Fg.add t (k2 + 1)) with
          | none =>
            rw [hg] at h1
            have h2 : (Instr.lookup 73 (.map (some m1)) (.agg #[.int .u16 (st : Int), .int .u16 (sq : Int), .bool un, .int .u32 ((Fg.add t (k2 + 1) : Nat) : Int)]) true).run Try.prog (w4.alloc (.cells #[.int .u32 0, .int .u16 0, .int .u16 0, .bool false, .bool false, .bool false, .slice none 0 0] 51)).drew = .ok (.tuple #[.agg #[.int .u32 0, .int .u16 0, .int .u16 0, .bool false, .bool false, .bool false, .slice none 0 0], .bool false]) (w4.alloc (.cells #[.int .u32 0, .int .u16 0, .int .u16 0, .bool false, .bool false, .bool false, .slice none 0 0] 51)).drew := h1
            rw [hg] at g1
            have g2 : (Instr.lookup 73 (.map (some m1)) (.agg #[.int .u16 (st : Int), .int .u16 (sq : Int), .bool un, .int .u32 ((Fg.add t (k2 + 1) : Nat) : Int)]) true).run Try.prog w4.drew = .ok (.tuple #[.agg #[.int .u32 0, .int .u16 0, .int .u16 0, .bool false, .bool false, .bool false, .slice none 0 0], .bool false]) w4.drew := g1
            clear h1 g1
            have HFIN : Hid (EndsR (ps l) t 0 0 false) := Lib.hid (.inr ⟨rfl, fun t' n => Fw.none HA.out ht HP.out.1 HP.out.2.1 HP.out.2.2 hK2.out HXXP.out.1 HXXP.out.2 hb2 (by omega) (fun y hy e1 e2 => (pl_none hg y hy e1 e2).elim) t' n⟩)
            go_region
            all_goals
              go_wp2_with fail
              go_ret3
              exact ⟨0, 0, false, rfl, HFIN, Lib.hid ((HU.out.trans HU5.out).trans NU'.out)⟩
          | some y =>
            obtain ⟨hy1, hy2, hy3⟩ := pl_some hg
            have hym : y.p ∈ ps l := List.mem_map.2 ⟨y, hy1, rfl⟩
            rw [hg] at h1
            have h2 : (Instr.lookup 73 (.map (some m1)) (.agg #[.int .u16 (st : Int), .int .u16 (sq : Int), .bool un, .int .u32 ((Fg.add t (k2 + 1) : Nat) : Int)]) true).run Try.prog (w4.alloc (.cells #[.int .u32 0, .int .u16 0, .int .u16 0, .bool false, .bool false, .bool false, .slice none 0 0] 51)).drew = .ok (.tuple #[.agg #[.int .u32 y.p.tsn, .int .u16 y.p.st, .int .u16 y.p.sq, .bool y.p.bg, .bool y.p.en, .bool y.p.un, .slice y.A y.p.bs.length y.c], .bool true]) (w4.alloc (.cells #[.int .u32 0, .int .u16 0, .int .u16 0, .bool false, .bool false, .bool false, .slice none 0 0] 51)).drew := h1
            rw [hg] at g1
            have g2 : (Instr.lookup 73 (.map (some m1)) (.agg #[.int .u16 (st : Int), .int .u16 (sq : Int), .bool un, .int .u32 ((Fg.add t (k2 + 1) : Nat) : Int)]) true).run Try.prog w4.drew = .ok (.tuple #[.agg #[.int .u32 y.p.tsn, .int .u16 y.p.st, .int .u16 y.p.sq, .bool y.p.bg, .bool y.p.en, .bool y.p.un, .slice y.A y.p.bs.length y.c], .bool true]) w4.drew := g1
            have HG := Lib.hid hg
            have HY := Lib.hid (And.intro hym (And.intro hy3 hy2))
            clear h1 g1 hg hy1 hy2 hy3 hym
            have N5 := Lib.hid (new_at w4 (.cells #[.int .u32 y.p.tsn, .int .u16 y.p.st, .int .u16 y.p.sq, .bool y.p.bg, .bool y.p.en, .bool y.p.un, .slice y.A y.p.bs.length y.c] 51))
            have U5 := Lib.hid (HU5.out.trans ((up_alloc w4 (.cells #[.int .u32 y.p.tsn, .int .u16 y.p.st, .int .u16 y.p.sq, .bool y.p.bg, .bool y.p.en, .bool y.p.un, .slice y.A y.p.bs.length y.c] 51)).trans (Up.drew _)))
            have N5' : Hid ((w4.alloc (.cells #[.int .u32 y.p.tsn, .int .u16 y.p.st, .int .u16 y.p.sq, .bool y.p.bg, .bool y.p.en, .bool y.p.un, .slice y.A y.p.bs.length y.c] 51)).drew.heap[w4.heap.size]? = _) := N5
            clear N5
            go_region
            all_goals
              clear h2 g2 n0 f0 k0 a0 a1 a2 k0' a0' a1' a2' N1 N1' NU NU' M4
              generalize hw4 : w4.heap.size = s4 at N5' ⊢
              generalize (w4.alloc (.cells #[.int .u32 y.p.tsn, .int .u16 y.p.st, .int .u16 y.p.sq, .bool y.p.bg, .bool y.p.en, .bool y.p.un, .slice y.A y.p.bs.length y.c] 51)).drew = w5 at N5' U5 ⊢
              have e4 : w5.cell? ⟨s4, 3, none⟩ = some (.bool y.p.bg) := cell_of N5'.out rfl
              by_cases hen : y.p.bg = true
              · have HFIN : Hid (EndsR (ps l) t 0 0 false) := Lib.hid (.inr ⟨rfl, fun t' n => Fw.none HA.out ht HP.out.1 HP.out.2.1 HP.out.2.2 hK2.out HXXP.out.1 HXXP.out.2 hb2 (by omega) (fun z hz e1 e2 => by rw [apart_eq HA.out hz HY.out.1 (by rw [e1, HY.out.2.1])]; exact hen) t' n⟩)
                rw [hen] at e4
                go_wp2_with fail
                go_ret3
                exact ⟨0, 0, false, rfl, HFIN, Lib.hid (HU.out.trans U5.out)⟩
              · have hen : y.p.bg = false := by simpa using hen
                have HK3 : Hid (Fw (ps l) (st, sq, un) t (k2 + 1)) := Lib.hid (hK2.out.step HA.out HXXP.out.1 HXXP.out.2 hb2 HY.out.1 HY.out.2.1 HY.out.2.2 hen)
                have hk3 := HK3.out.lt (by omega)
                have hL := HL.out
                rw [hen] at e4
                go_wp2_with fail
                go_roundw
                case rel => exact ⟨k2 + 1, by omega, rfl, rfl, HK3, U5⟩
                case measure => rw [msF_at ht (by omega), msF_at ht (by omega)]; omega
    · have hb : x.p.bg = false := by simpa using hb
      rw [hb] at vL
      go_upto_region 2 with (fail)
      go_quiet (fail)
      go_upto_region 4 with (fail)
      rw [sub_pred t k (by omega)]
      have HU4 := Lib.hid (hU.out.trans (up_drewN wr nq))
      have M4 : Hid (Maps (wr.drewN nq) m1 m2 m3 l m) := Lib.hid (M1.out.keep rfl rfl rfl)
      have k0' : (wr.drewN nq).cell? ⟨b, 0, none⟩ = some (.map (some m1)) := k0
      have a0' : (wr.drewN nq).cell? ⟨q, 0, none⟩ = some (.int .u16 (st : Int)) := a0
      have a1' : (wr.drewN nq).cell? ⟨q, 1, none⟩ = some (.int .u16 (sq : Int)) := a1
      have a2' : (wr.drewN nq).cell? ⟨q, 2, none⟩ = some (.bool un) := a2
      clear vL k0 a0 a1 a2 M1 B1 Q1
      generalize wr.drewN nq = w4 at HU4 M4 k0' a0' a1' a2' ⊢
      have NU := Lib.hid (up_alloc w4 (.cells #[.int .u32 0, .int .u16 0, .int .u16 0, .bool false, .bool false, .bool false, .slice none 0 0] 51))
      have N1 := Lib.hid (new_at w4 (.cells #[.int .u32 0, .int .u16 0, .int .u16 0, .bool false, .bool false, .bool false, .slice none 0 0] 51))
      have NU' : Hid (Up w4 (w4.alloc (.cells #[.int .u32 0, .int .u16 0, .int .u16 0, .bool false, .bool false, .bool false, .slice none 0 0] 51)).drew) := Lib.hid (NU.out.trans (Up.drew _))
      have N1' : Hid ((w4.alloc (.cells #[.int .u32 0, .int .u16 0, .int .u16 0, .bool false, .bool false, .bool false, .slice none 0 0] 51)).drew.heap[w4.heap.size]? = some (.cells #[.int .u32 0, .int .u16 0, .int .u16 0, .bool false, .bool false, .bool false, .slice none 0 0] 51)) := N1
      have k0 := cell_up k0' NU'.out
      have a0 := cell_up a0' NU'.out
      have a1 := cell_up a1' NU'.out
      have a2 := cell_up a2' NU'.out
      have h1 := run_lookS (P := Try.prog) mkP und73 zero51 (M4.out.P.keep (w' := (w4.alloc (.cells #[.int .u32 0, .int .u16 0, .int .u16 0, .bool false, .bool false, .bool false, .slice none 0 0] 51)).drew) (NU'.out.block _ M4.out.lt.1)) (k := ((st, sq, un), Fg.sub t (k + 1))) ⟨⟨hst, hsq⟩, sub_lt _ _⟩
      have g1 := run_lookS (P := Try.prog) mkP und73 zero51 (M4.out.P.keep (w' := w4.drew) rfl) (k := ((st, sq, un), Fg.sub t (k + 1))) ⟨⟨hst, hsq⟩, sub_lt _ _⟩
      have n0 : (w4.alloc (.cells #[.int .u32 0, .int .u16 0, .int .u16 0, .bool false, .bool false, .bool false, .slice none 0 0] 51)).drew.cell? ⟨w4.heap.size, 0, none⟩ = some (.int .u32 0) := cell_of N1'.out rfl
      have f0 : (w4.alloc (.cells #[.int .u32 0, .int .u16 0, .int .u16 0, .bool false, .bool false, .bool false, .slice none 0 0] 51)).drew.frozen? ⟨w4.heap.size, 0, none⟩ = false := frozen_at N1'.out
      cases hg : mget (l.map plE) ((st, sq, un), Fg.sub t (k + 1)) with
      | none =>
        rw [hg] at h1
        have h2 : (Instr.lookup 73 (.map (some m1)) (.agg #[.int .u16 (st : Int), .int .u16 (sq : Int), .bool un, .int .u32 ((Fg.sub t (k + 1) : Nat) : Int)]) true).run Try.prog (w4.alloc (.cells #[.int .u32 0, .int .u16 0, .int .u16 0, .bool false, .bool false, .bool false, .slice none 0 0] 51)).drew = .ok (.tuple #[.agg #[.int .u32 0, .int .u16 0, .int .u16 0, .bool false, .bool false, .bool false, .slice none 0 0], .bool false]) (w4.alloc (.cells #[.int .u32 0, .int .u16 0, .int .u16 0, .bool false, .bool false, .bool false, .slice none 0 0] 51)).drew := h1
        rw [hg] at g1
        have g2 : (Instr.lookup 73 (.map (some m1)) (.agg #[.int .u16 (st : Int), .int .u16 (sq : Int), .bool un, .int .u32 ((Fg.sub t (k + 1) : Nat) : Int)]) true).run Try.prog w4.drew = .ok (.tuple #[.agg #[.int .u32 0, .int .u16 0, .int .u16 0, .bool false, .bool false, .bool false, .slice none 0 0], .bool false]) w4.drew := g1
        clear h1 g1
        have HFIN : Hid (EndsR (ps l) t 0 0 false) := Lib.hid (.inr ⟨rfl, fun t' n => Bk.none HA.out ht HP.out.1 HP.out.2.1 HP.out.2.2 hK.out HXP.out.1 HXP.out.2 hb (by omega) (fun y hy e1 e2 => (pl_none hg y hy e1 e2).elim) t' n⟩)
        go_region
        all_goals
          go_wp2_with fail
          go_ret3
          exact ⟨0, 0, false, rfl, HFIN, Lib.hid ((HU.out.trans HU4.out).trans NU'.out)⟩
      | some y =>
        obtain ⟨hy1, hy2, hy3⟩ := pl_some hg
        have hym : y.p ∈ ps l := List.mem_map.2 ⟨y, hy1, rfl⟩
        rw [hg] at h1
        have h2 : (Instr.lookup 73 (.map (some m1)) (.agg #[.int .u16 (st : Int), .int .u16 (sq : Int), .bool un, .int .u32 ((Fg.sub t (k + 1) : Nat) : Int)]) true).run Try.prog (w4.alloc (.cells #[.int .u32 0, .int .u16 0, .int .u16 0, .bool false, .bool false, .bool false, .slice none 0 0] 51)).drew = .ok (.tuple #[.agg #[.int .u32 y.p.tsn, .int .u16 y.p.st, .int .u16 y.p.sq, .bool y.p.bg, .bool y.p.en, .bool y.p.un, .slice y.A y.p.bs.length y.c], .bool true]) (w4.alloc (.cells #[.int .u32 0, .int .u16 0, .int .u16 0, .bool false, .bool false, .bool false, .slice none 0 0] 51)).drew := h1
        rw [hg] at g1
        have g2 : (Instr.lookup 73 (.map (some m1)) (.agg #[.int .u16 (st : Int), .int .u16 (sq : Int), .bool un, .int .u32 ((Fg.sub t (k + 1) : Nat) : Int)]) true).run Try.prog w4.drew = .ok (.tuple #[.agg #[.int .u32 y.p.tsn, .int .u16 y.p.st, .int .u16 y.p.sq, .bool y.p.bg, .bool y.p.en, .bool y.p.un, .slice y.A y.p.bs.length y.c], .bool true]) w4.drew := g1
        have HG := Lib.hid hg
        have HY := Lib.hid (And.intro hym (And.intro hy3 hy2))
        clear h1 g1 hg hy1 hy2 hy3 hym
        have N5 := Lib.hid (new_at w4 (.cells #[.int .u32 y.p.tsn, .int .u16 y.p.st, .int .u16 y.p.sq, .bool y.p.bg, .bool y.p.en, .bool y.p.un, .slice y.A y.p.bs.length y.c] 51))
        have U5 := Lib.hid (HU4.out.trans ((up_alloc w4 (.cells #[.int .u32 y.p.tsn, .int .u16 y.p.st, .int .u16 y.p.sq, .bool y.p.bg, .bool y.p.en, .bool y.p.un, .slice y.A y.p.bs.length y.c] 51)).trans (Up.drew _)))
        have N5' : Hid ((w4.alloc (.cells #[.int .u32 y.p.tsn, .int .u16 y.p.st, .int .u16 y.p.sq, .bool y.p.bg, .bool y.p.en, .bool y.p.un, .slice y.A y.p.bs.length y.c] 51)).drew.heap[w4.heap.size]? = _) := N5
        clear N5
        go_region
        all_goals
          clear h2 g2 n0 f0 k0 a0 a1 a2 k0' a0' a1' a2' N1 N1' NU NU' M4
          generalize hw4 : w4.heap.size = s4 at N5' ⊢
          generalize (w4.alloc (.cells #[.int .u32 y.p.tsn, .int .u16 y.p.st, .int .u16 y.p.sq, .bool y.p.bg, .bool y.p.en, .bool y.p.un, .slice y.A y.p.bs.length y.c] 51)).drew = w5 at N5' U5 ⊢
          have e4 : w5.cell? ⟨s4, 4, none⟩ = some (.bool y.p.en) := cell_of N5'.out rfl
          by_cases hen : y.p.en = true
          · have HFIN : Hid (EndsR (ps l) t 0 0 false) := Lib.hid (.inr ⟨rfl, fun t' n => Bk.none HA.out ht HP.out.1 HP.out.2.1 HP.out.2.2 hK.out HXP.out.1 HXP.out.2 hb (by omega) (fun z hz e1 e2 => by rw [apart_eq HA.out hz HY.out.1 (by rw [e1, HY.out.2.1])]; exact hen) t' n⟩)
            rw [hen] at e4
            go_wp2_with fail
            go_ret3
            exact ⟨0, 0, false, rfl, HFIN, Lib.hid (HU.out.trans U5.out)⟩
          · have hen : y.p.en = false := by simpa using hen
            have HK2 : Hid (Bk (ps l) (st, sq, un) t (k + 1)) := Lib.hid (hK.out.step HA.out HXP.out.1 HXP.out.2 hb HY.out.1 HY.out.2.1 HY.out.2.2 hen)
            have hk2 := HK2.out.lt (by omega)
            have hL := HL.out
            rw [hen] at e4
            go_wp2_with fail
            go_roundw
            case rel => exact ⟨k + 1, by omega, rfl, rfl, HK2, U5⟩
            case measure => rw [msB_at ht (by omega), msB_at ht (by omega)]; omega
end Go.Proofs.Ytgcabidhpnaoiaa
