import Derived.Test.YtpdhgjhcjnpkeaaWhL1
namespace Go.Proofs.Ytpdhgjhcjnpkeaa
open Go Go.RowKit
set_option linter.unusedVariables false
/-- Alarms 0 to i - 1 are there, and no others. -/
def Upto (i : Nat) (L : List Tm.T) : Prop := L.length = i ∧ ∀ j : Int, Tm.has L j = decide (0 ≤ j ∧ j < i)
theorem upto_zero : Upto 0 [] := ⟨rfl, fun j => by rw [decide_eq_false (by omega)]; rfl⟩
theorem upto_succ {i : Nat} {L : List Tm.T} (h : Upto i L) (at_ : Int) : Upto (i + 1) (Tm.set L i at_) := by
  have h0 : Tm.has L i = false := by rw [h.2]; exact decide_eq_false (by omega)
  refine ⟨by rw [Tm.set_length_new h0, h.1], fun j => ?_⟩
  rw [Tm.has_set, h.2, Bool.eq_iff_iff, Bool.or_eq_true, beq_iff_eq, decide_eq_true_iff, decide_eq_true_iff]
  omega
section
variable {IsW : (Nat → Prop) → World → Addr → List Tm.T → Prop}
/-- The wheel on the way, at the head of a round. -/
def AtW (IsW : (Nat → Prop) → World → Addr → List Tm.T → Prop) (w0 : World) (p : Addr) (Q : List Tm.T → Prop) (w : World) : Prop := ∃ S L, IsW S w p L ∧ From w0.heap.size S ∧ Below w0.heap.size w0 w ∧ Q L
theorem atW_next {w0 w w' : World} {p : Addr} {S S' : Nat → Prop} {L' : List Tm.T} {Q' : List Tm.T → Prop} (hf : From w0.heap.size S) (hb : Below w0.heap.size w0 w) (h' : IsW S' w' p L') (hs : Sub S' S w) (ho : Out S w w') (hq : Q' L') : AtW IsW w0 p Q' w' :=
  ⟨S', L', h', hf.sub hs hb.size, Below.out hb ho hf hb.size, hq⟩
set_option maxRecDepth 100000 in
set_option maxHeartbeats 400000 in
theorem law_full (C : WC IsW) (n0 n1 : Nat) (w : World) (h0 : n0 < 65536) (h1 : n1 < 65536) : Calls Try.prog 4 #[.int .u16 (n0 : Int), .int .u16 (n1 : Int)] w (True2 w) := by
  have HA := Lib.hid (answers_w C)
  have HC := Lib.hid C
  clear C
  go_enter Try.func4, Try.ntmps4
  go_wp2_with fail
  refine (HC.out.new _).mono ?_
  rintro e w1 ⟨p, S, rfl, h1, hf, hu⟩
  have I1 := Lib.hid h1
  have F := Lib.hid hf
  have U := Lib.hid hu
  clear h1 hf hu
  go_wp2_with fail
  refine (HA.out _).mono ?_
  rintro e w2 ⟨rfl, hu2⟩
  have A0 := Lib.hid (show AtW IsW w p (Upto 0) w2 from ⟨S, [], HC.out.up I1.out hu2, F.out, U.out.trans hu2, upto_zero⟩)
  clear I1 F U hu2
  go_wp2_with fail
  go_loopw [6] (fun i wr => ∃ k : Nat, k ≤ 4096 ∧ i = .int .i64 k ∧ Hid (AtW IsW w p (Upto k) wr)) (fun i _ => 4096 - (intOf i).toNat)
  case atStart => exact ⟨0, Nat.zero_le _, rfl, A0⟩
  case round =>
    obtain ⟨k, hk, rfl, hA⟩ := hrel
    clear A0
    by_cases hlt : k < 4096
    · obtain ⟨S1, L, hI, hF, hB, hQ⟩ := hA.out
      have HI := Lib.hid hI
      have HF := Lib.hid hF
      have HB := Lib.hid hB
      have HQ := Lib.hid hQ
      clear hA hI hF hB hQ
      go_wp2_with fail
      refine (HC.out.set S1 p L k _ _ HI.out (by unfold I64; omega) (by omega) (by omega) (.inr (by rw [HQ.out.1]; omega))).mono ?_
      rintro e w3 ⟨S2, rfl, h3, hs3, ho3⟩
      have A1 := Lib.hid (atW_next HF.out HB.out h3 hs3 ho3 (upto_succ HQ.out _))
      clear h3 hs3 ho3 HI HF HB HQ
      go_wp2_with fail
      go_roundw
      case rel => exact ⟨k + 1, by omega, by go_num, A1⟩
      case measure => simp [intOf]; omega
    · obtain rfl : k = 4096 := by omega
      obtain ⟨S1, L, hI, hF, hB, hQ⟩ := hA.out
      have HI := Lib.hid hI
      have HF := Lib.hid hF
      have HB := Lib.hid hB
      have HQ := Lib.hid hQ
      clear hA hI hF hB hQ
      have hm : (n1 : Int) % 4096 < 4096 := by omega
      have hm0 : 0 ≤ (n1 : Int) % 4096 := by omega
      obtain ⟨m, hmm⟩ := Int.eq_ofNat_of_zero_le hm0
      have HM := Lib.hid hmm
      have HM1 := Lib.hid (show m < 4096 by omega)
      clear hm hm0 hmm
      have q0 := Lib.hid (show Tm.has L 9000 = false by rw [HQ.out.2]; decide)
      have q1 := Lib.hid (show Tm.has L (m : Int) = true by have := HM1.out; rw [HQ.out.2]; exact decide_eq_true (by omega))
      have q2 := Lib.hid (show L.length = 4096 from HQ.out.1)
      have q3 := Lib.hid (show Tm.Ids L from (HC.out.srt HI.out).2)
      have q4 := Lib.hid (show Tm.has L 9001 = false by rw [HQ.out.2]; decide)
      clear HQ
      go_wp2_with fail
      refine (HC.out.full S1 p L 9000 1 _ HI.out (by unfold I64; omega) (by omega) (by omega) q0.out (by rw [q2.out]; omega)).mono ?_
      rintro e w3 ⟨S2, rfl, h3, hs3, ho3⟩
      have I3 := Lib.hid h3
      have F3 := Lib.hid (HF.out.sub hs3 HB.out.size)
      have B3 := Lib.hid (Below.out HB.out ho3 HF.out HB.out.size)
      clear h3 hs3 ho3 HI HF HB
      go_wp2_with fail
      rw [HM.out]
      refine (HC.out.set S2 p L m 77 _ I3.out (by have := HM1.out; unfold I64; omega) (by omega) (by omega) (.inl q1.out)).mono ?_
      rintro e w4 ⟨S3, rfl, h4, hs4, ho4⟩
      have I4 := Lib.hid h4
      have F4 := Lib.hid (F3.out.sub hs4 B3.out.size)
      have B4 := Lib.hid (Below.out B3.out ho4 F3.out B3.out.size)
      clear h4 hs4 ho4 I3 F3 B3
      go_wp2_with fail
      refine (HC.out.cancel S3 p _ m _ I4.out (by have := HM1.out; unfold I64; omega) (by rw [Tm.has_set, beq_self_eq_true]; rfl)).mono ?_
      rintro e w5 ⟨S4, rfl, h5, hs5, ho5⟩
      have I5 := Lib.hid h5
      have F5 := Lib.hid (F4.out.sub hs5 B4.out.size)
      have B5 := Lib.hid (Below.out B4.out ho5 F4.out B4.out.size)
      clear h5 hs5 ho5 I4 F4 B4
      go_wp2_with fail
      refine (HC.out.gone S4 p _ m _ I5.out (by have := HM1.out; unfold I64; omega) (by rw [Tm.has_del, bne_self_eq_false]; rfl)).mono ?_
      rintro e w6 ⟨S5, rfl, h6, hs6, ho6⟩
      have I6 := Lib.hid h6
      have F6 := Lib.hid (F5.out.sub hs6 B5.out.size)
      have B6 := Lib.hid (Below.out B5.out ho6 F5.out B5.out.size)
      clear h6 hs6 ho6 I5 F5 B5
      have l1 : (Tm.set L (m : Int) 77).length = 4096 := by rw [Tm.set_length_old q3.out q1.out, q2.out]
      have l2 : (Tm.del (m : Int) (Tm.set L (m : Int) 77)).length = 4095 := by
        have := Tm.del_length (id := (m : Int)) (Tm.ids_set (id := (m : Int)) (at_ := 77) q3.out) (by rw [Tm.has_set, beq_self_eq_true]; rfl)
        omega
      have e9 : Tm.has (Tm.del (m : Int) (Tm.set L (m : Int) 77)) 9000 = false := by
        have := HM1.out
        rw [Tm.has_del, Tm.has_set, q0.out, Bool.or_false, beq_eq_false_iff_ne.2 (by omega), Bool.and_false]
      have e91 : Tm.has (Tm.del (m : Int) (Tm.set L (m : Int) 77)) 9001 = false := by
        have := HM1.out
        rw [Tm.has_del, Tm.has_set, q4.out, Bool.or_false, beq_eq_false_iff_ne.2 (by omega), Bool.and_false]
      have L1 := Lib.hid l1
      have L2 := Lib.hid l2
      have E9 := Lib.hid e9
      have E91 := Lib.hid e91
      clear l1 l2 e9 e91
      go_wp2_with fail
      refine (HC.out.set S5 p _ 9000 1 _ I6.out (by unfold I64; omega) (by omega) (by omega) (.inr (by rw [L2.out]; omega))).mono ?_
      rintro e w7 ⟨S6, rfl, h7, hs7, ho7⟩
      have I7 := Lib.hid h7
      have F7 := Lib.hid (F6.out.sub hs7 B6.out.size)
      have B7 := Lib.hid (Below.out B6.out ho7 F6.out B6.out.size)
      clear h7 hs7 ho7 I6 F6 B6
      have L3 := Lib.hid (show (Tm.set (Tm.del (m : Int) (Tm.set L (m : Int) 77)) 9000 1).length = 4096 by rw [Tm.set_length_new E9.out, L2.out])
      go_wp2_with fail
      refine (HC.out.full S6 p _ 9001 1 _ I7.out (by unfold I64; omega) (by omega) (by omega) (by rw [Tm.has_set, E91.out]; decide) (by rw [L3.out]; omega)).mono ?_
      rintro e w8 ⟨S7, rfl, h8, hs8, ho8⟩
      have I8 := Lib.hid h8
      have F8 := Lib.hid (F7.out.sub hs8 B7.out.size)
      have B8 := Lib.hid (Below.out B7.out ho8 F7.out B7.out.size)
      clear h8 hs8 ho8 I7 F7 B7
      go_wp2_with fail
      refine (HC.out.list S7 p _ _ I8.out).mono ?_
      rintro e w9 ⟨S8, A, n, c, rfl, hn, hrow, h9, hs9, ho9, hd9⟩
      have B9 := Lib.hid (Below.out B8.out ho9 F8.out B8.out.size)
      obtain rfl : n = 4096 := hn.trans L3.out
      clear hn hrow h9 hs9 ho9 hd9
      go_wp2_with fail
      go_ret
      exact ⟨rfl, B9.out⟩
end
end Go.Proofs.Ytpdhgjhcjnpkeaa
