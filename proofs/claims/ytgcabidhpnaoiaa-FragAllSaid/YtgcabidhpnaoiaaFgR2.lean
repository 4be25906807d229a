import Derived.Test.YtgcabidhpnaoiaaFgR1
import Derived.Test.YtgcabidhpnaoiaaFgM
namespace Go.Proofs.Ytgcabidhpnaoiaa
open Go Go.RowKit
set_option linter.unusedVariables false
set_option linter.unusedSimpArgs false
namespace Fg
def ps (l : List PcB) : List Pc := l.map (·.p)
theorem ix_some {l : List PcB} {t k : Nat} (h : ix l t = some k) : ∃ x, l[k]? = some x ∧ x.p.tsn = t := by
  unfold ix at h
  rw [List.findIdx?_eq_some_iff_getElem] at h
  obtain ⟨hk, h1, _⟩ := h
  exact ⟨l[k], List.getElem?_eq_getElem hk, by simpa using h1⟩
theorem ix_none {l : List PcB} {t : Nat} (h : ix l t = none) : ∀ q ∈ ps l, q.tsn ≠ t := fun q hq e => by
  unfold ix at h
  rw [List.findIdx?_eq_none_iff] at h
  obtain ⟨x, hx, rfl⟩ := List.mem_map.1 hq
  have := h x hx
  simp [e] at this
theorem mem_ps {l : List PcB} {k : Nat} {x : PcB} (h : l[k]? = some x) : x.p ∈ ps l := List.mem_map.2 ⟨x, List.mem_of_getElem? h, rfl⟩
end Fg
open Fg
set_option maxRecDepth 100000 in
set_option maxHeartbeats 2000000 in
theorem from_any (b t : Nat) (H : Option Addr) (c : Nat) (l : List PcB) (w : World) (hb : l.length ≤ 512) (ht : t < 4294967296) (hbd : ∀ x ∈ l, x.p.tsn < 4294967296 ∧ x.p.st < 65536 ∧ x.p.sq < 65536) (ha : Apart (ps l))
    (h0 : w.cell? ⟨b, 0, none⟩ = some (.slice H l.length c)) (hr : w.ownsRow 0 51 7 (.slice H l.length c) l.length (l.flatMap pcc)) :
    Calls Try.prog 30 #[.pointer (some ⟨b, 0, none⟩), .int .u32 (t : Int)] w fun e w' => ∃ n : Nat, e = .returned (.int .i64 (n : Int)) ∧ FromR (ps l) t n ∧ Hid (Up w w') := by
  have HR := Lib.hid hr
  have HA := Lib.hid ha
  have HD := Lib.hid hbd
  have HB := Lib.hid hb
  clear hr ha hbd
  go_enter Try.func30, Try.ntmps30
  go_wp2_with fail
  refine (piece_any b t H c l w (by omega) h0 HR.out).mono ?_
  rintro e w1 ⟨rfl, rfl⟩
  cases hk : ix l t with
  | none =>
    have HK := Lib.hid hk
    clear hk
    unfold ixV
    go_wp2_with fail
    go_ret
    exact ⟨0, rfl, .inr ⟨rfl, none_at (ix_none HK.out)⟩, Lib.hid (Up.refl _)⟩
  | some k =>
    obtain ⟨x, hx, hxt⟩ := ix_some hk
    have HX := Lib.hid hx
    have HXT := Lib.hid hxt
    obtain ⟨g, rfl, hc⟩ := row_pc HR.out hx
    have k3 := hc 3 _ rfl
    have HC := Lib.hid hc
    have hkl : k < l.length := (List.getElem?_eq_some_iff.1 hx).1
    have hk0 : decide ((k : Int) < 0) = false := by simp
    clear hk hxt hx hc
    unfold ixV
    cases hbg : x.p.bg with
    | false =>
      rw [hbg] at k3
      have HBG := Lib.hid hbg
      clear hbg
      go_wp2_with fail
      go_ret
      exact ⟨0, rfl, .inr ⟨rfl, none_bg HA.out (mem_ps HX.out) HXT.out HBG.out⟩, Lib.hid (Up.refl _)⟩
    | true =>
      have HP := Lib.hid (Pre.one (mem_ps HX.out) ht HXT.out hbg)
      have k0 := HC.out 0 _ rfl
      rw [Nat.add_zero] at k0
      have k1 := HC.out 1 _ rfl
      have k2 := HC.out 2 _ rfl
      have k4 := HC.out 4 _ rfl
      have k5 := HC.out 5 _ rfl
      have k6 := HC.out 6 _ rfl
      rw [hbg] at k3
      clear hbg
      go_wp2_with fail
      have HQ := Lib.hid (new_at w1 (.cells #[.int .u32 (x.p.tsn : Int), .int .u16 (x.p.st : Int), .int .u16 (x.p.sq : Int), .bool true, .bool x.p.en, .bool x.p.un, .slice x.A x.p.bs.length x.c] 51))
      have HU := Lib.hid (up_alloc w1 (.cells #[.int .u32 (x.p.tsn : Int), .int .u16 (x.p.st : Int), .int .u16 (x.p.sq : Int), .bool true, .bool x.p.en, .bool x.p.un, .slice x.A x.p.bs.length x.c] 51))
      generalize w1.alloc (.cells #[.int .u32 (x.p.tsn : Int), .int .u16 (x.p.st : Int), .int .u16 (x.p.sq : Int), .bool true, .bool x.p.en, .bool x.p.un, .slice x.A x.p.bs.length x.c] 51) = W at HQ HU ⊢
      have HH0 := Lib.hid h0
      clear k0 k1 k2 k3 k4 k5 k6 HC h0
      generalize w1.heap.size = q at HQ ⊢
      go_loopw [5, 7] (fun kv nv wr => ∃ (j n : Nat) (y : PcB), kv = .int .i64 (j : Int) ∧ nv = .int .i64 (n : Int) ∧ l[j]? = some y ∧ Hid (Pre (ps l) t n x.p y.p) ∧ Hid (Up W wr)) (fun _ nv _ => l.length + 1 - (intOf nv).toNat)
      case atStart => exact ⟨k, 1, x, rfl, rfl, HX.out, HP, Lib.hid (Up.refl _)⟩
      case round =>
        obtain ⟨j, n, y, rfl, rfl, hy, hpre, hu⟩ := hrel
        have HV := Lib.hid (HU.out.trans hu.out)
        have HQ1 := Lib.hid ((hu.out.block _ (lt_of_blk HQ.out)).trans HQ.out)
        have h0 := cell_up HH0.out HV.out
        have HR1 := Lib.hid (own_up HR.out HV.out)
        have HY := Lib.hid hy
        have HLE := hpre.out.le (by simp [ps]; omega)
        rw [show (ps l).length = l.length by simp [ps]] at HLE
        have hjl : j < l.length := (List.getElem?_eq_some_iff.1 hy).1
        obtain ⟨g', e', hc⟩ := row_pc HR1.out hy
        cases e'
        have y4 := hc 4 _ rfl
        have HC := Lib.hid hc
        clear hc hy
        cases hen : y.p.en with
        | true =>
          rw [hen] at y4
          have HE := Lib.hid (hpre.out.whole HA.out (by simp [ps]; omega) hen)
          clear hen
          go_wp2_with fail
          go_ret
          exact ⟨n, rfl, .inl HE.out, HV⟩
        | false =>
          rw [hen] at y4
          have HEN := Lib.hid hen
          clear hen
          go_wp2_with fail
          have e1 : ((t : Int) + (n : Int)) % 4294967296 = ((add t n : Nat) : Int) := by unfold add; omega
          rw [e1]
          refine (piece_any b (add t n) _ c l wr (by omega) h0 HR1.out).mono ?_
          rintro e w2 ⟨rfl, rfl⟩
          cases hi : ix l (add t n) with
          | none =>
            have HI : Hid (∀ m, ¬ Whole (ps l) t m) := Lib.hid (fun m hw => by obtain ⟨z, z1, z2, _⟩ := hpre.out.more HA.out HEN.out hw; exact ix_none hi z z1 z2)
            clear hi e1 y4
            unfold ixV
            go_wp2_with fail
            go_ret
            exact ⟨0, rfl, .inr ⟨rfl, HI.out⟩, HV⟩
          | some i =>
            obtain ⟨z, hz, hzt⟩ := ix_some hi
            have HZ := Lib.hid hz
            have HZT := Lib.hid hzt
            have hil : i < l.length := (List.getElem?_eq_some_iff.1 hz).1
            have hi0 : decide ((i : Int) < 0) = false := by simp
            obtain ⟨g', e', hc⟩ := row_pc HR1.out hz
            cases e'
            have k0 := hc 0 _ rfl
            rw [Nat.add_zero] at k0
            have k1 := hc 1 _ rfl
            have k2 := hc 2 _ rfl
            have k3 := hc 3 _ rfl
            have k4 := hc 4 _ rfl
            have k5 := hc 5 _ rfl
            have k6 := hc 6 _ rfl
            clear hi hz hzt hc e1 y4
            unfold ixV
            go_upto_region 11 with (fail)
            have HM : Hid (∀ m, Whole (ps l) t m → z.p.st = x.p.st ∧ z.p.sq = x.p.sq ∧ z.p.un = x.p.un ∧ z.p.bg = false) := Lib.hid (fun m hw => by
              obtain ⟨v, v1, v2, v3⟩ := hpre.out.more HA.out HEN.out hw
              rw [← apart_eq HA.out v1 (mem_ps HZ.out) (by rw [v2, HZT.out])]; exact v3)
            clear k0 k1 k2 k3 k4 k5 k6
            have HN := Lib.hid (new_at w2 (.cells #[.int .u32 (z.p.tsn : Int), .int .u16 (z.p.st : Int), .int .u16 (z.p.sq : Int), .bool z.p.bg, .bool z.p.en, .bool z.p.un, .slice z.A z.p.bs.length z.c] 51))
            have HN2 := Lib.hid (up_alloc w2 (.cells #[.int .u32 (z.p.tsn : Int), .int .u16 (z.p.st : Int), .int .u16 (z.p.sq : Int), .bool z.p.bg, .bool z.p.en, .bool z.p.un, .slice z.A z.p.bs.length z.c] 51))
            generalize w2.alloc (.cells #[.int .u32 (z.p.tsn : Int), .int .u16 (z.p.st : Int), .int .u16 (z.p.sq : Int), .bool z.p.bg, .bool z.p.en, .bool z.p.un, .slice z.A z.p.bs.length z.c] 51) = W2 at HN HN2 ⊢
            generalize w2.heap.size = q2 at HN ⊢
            have HQ2 := Lib.hid ((HN2.out.block _ (lt_of_blk HQ1.out)).trans HQ1.out)
            have HV2 := Lib.hid (HV.out.trans HN2.out)
            have f1 : W2.cell? ⟨q2, 1, none⟩ = some (.int .u16 (z.p.st : Int)) := cell_of HN.out rfl
            have f2 : W2.cell? ⟨q2, 2, none⟩ = some (.int .u16 (z.p.sq : Int)) := cell_of HN.out rfl
            have f3 : W2.cell? ⟨q2, 3, none⟩ = some (.bool z.p.bg) := cell_of HN.out rfl
            have f5 : W2.cell? ⟨q2, 5, none⟩ = some (.bool z.p.un) := cell_of HN.out rfl
            have g1 : W2.cell? ⟨q, 1, none⟩ = some (.int .u16 (x.p.st : Int)) := cell_of HQ2.out rfl
            have g2 : W2.cell? ⟨q, 2, none⟩ = some (.int .u16 (x.p.sq : Int)) := cell_of HQ2.out rfl
            have g5 : W2.cell? ⟨q, 5, none⟩ = some (.bool x.p.un) := cell_of HQ2.out rfl
            cases hbg : z.p.bg with
            | true =>
              rw [hbg] at f3
              have HI : Hid (∀ m, ¬ Whole (ps l) t m) := Lib.hid (fun m hw => by have := (HM.out m hw).2.2.2; rw [hbg] at this; cases this)
              clear hbg
              go_wp2_with fail
              go_ret
              exact ⟨0, rfl, .inr ⟨rfl, HI.out⟩, HV2⟩
            | false =>
              rw [hbg] at f3
              have HBG := Lib.hid hbg
              clear hbg
              by_cases hst : z.p.st = x.p.st
              · have d1 : ((z.p.st : Int) != (x.p.st : Int)) = false := by rw [hst]; simp
                by_cases hsq : z.p.sq = x.p.sq
                · have d2 : ((z.p.sq : Int) != (x.p.sq : Int)) = false := by rw [hsq]; simp
                  by_cases hun : z.p.un = x.p.un
                  · rw [hun] at f5
                    have HS := Lib.hid (hpre.out.step HA.out HEN.out (mem_ps HZ.out) HZT.out hst hsq hun HBG.out)
                    clear hun hst hsq
                    rcases Bool.eq_false_or_eq_true x.p.un with hu5 | hu5
                    all_goals
                      rw [hu5] at f5 g5
                      clear hu5
                      go_wp2_with fail
                      go_roundw
                      case rel => exact ⟨i, n + 1, z, rfl, by go_num, HZ.out, HS, Lib.hid (hu.out.trans HN2.out)⟩
                      case measure => simp [intOf]; omega
                  · have HI : Hid (∀ m, ¬ Whole (ps l) t m) := Lib.hid (fun m hw => hun (HM.out m hw).2.2.1)
                    have d3 : z.p.un = !x.p.un := by revert hun; cases z.p.un <;> cases x.p.un <;> simp
                    rw [d3] at f5
                    clear hun hst hsq d3
                    rcases Bool.eq_false_or_eq_true x.p.un with hu5 | hu5
                    all_goals
                      rw [hu5] at f5 g5
                      simp only [Bool.not_true, Bool.not_false] at f5
                      clear hu5
                      go_wp2_with fail
                      go_ret
                      exact ⟨0, rfl, .inr ⟨rfl, HI.out⟩, HV2⟩
                · have d2 : ((z.p.sq : Int) != (x.p.sq : Int)) = true := by simp; omega
                  have HI : Hid (∀ m, ¬ Whole (ps l) t m) := Lib.hid (fun m hw => hsq (HM.out m hw).2.1)
                  clear hst hsq
                  go_wp2_with fail
                  go_ret
                  exact ⟨0, rfl, .inr ⟨rfl, HI.out⟩, HV2⟩
              · have d1 : ((z.p.st : Int) != (x.p.st : Int)) = true := by simp; omega
                have HI : Hid (∀ m, ¬ Whole (ps l) t m) := Lib.hid (fun m hw => hst (HM.out m hw).1)
                clear hst
                go_wp2_with fail
                go_ret
                exact ⟨0, rfl, .inr ⟨rfl, HI.out⟩, HV2⟩
end Go.Proofs.Ytgcabidhpnaoiaa
