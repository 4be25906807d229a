import Derived.Test.YtfbjhialjepodaaNtC
import Derived.Test.YtfbjhialjepodaaCellG
import Derived.Outline
import Derived.KernelRfl
namespace Go.Proofs.Ytfbjhialjepodaa
open Go Go.RowKit
set_option linter.unusedVariables false
theorem inB_new (w : World) (cs : List Int) (n : Nat) (h : ∀ x ∈ cs, 0 ≤ x ∧ x < 256) (hn : cs.length = n) : InB (w.alloc (.cells (ints .u8 cs).toArray 5)) (some ⟨w.heap.size, 0, none⟩) n n cs := by
  refine ⟨fun hne => ⟨w.heap.size, 0, rfl, by simp, fun j u hu => ?_⟩, h, Nat.le_refl _, hn⟩
  rw [Nat.zero_add]
  exact cell_of (new_at _ _) (by simpa using hu)
section
variable {IsN : (Nat → Prop) → World → Addr → Nt.St → Prop}
/-- The net on the way of a law: it and all its blocks are the law's own. -/
def AtN (IsN : (Nat → Prop) → World → Addr → Nt.St → Prop) (w0 : World) (p : Addr) (Q : Nt.St → Prop) (w : World) : Prop := ∃ S st, IsN S w p st ∧ From w0.heap.size S ∧ Below w0.heap.size w0 w ∧ Q st
theorem atN_next {w0 w w' : World} {p : Addr} {S S' : Nat → Prop} {st' : Nt.St} {Q' : Nt.St → Prop} (hf : From w0.heap.size S) (hb : Below w0.heap.size w0 w) (h' : IsN S' w' p st') (hs : Sub S' S w) (ho : Out S w w') (hq : Q' st') : AtN IsN w0 p Q' w' :=
  ⟨S', st', h', hf.sub hs hb.size, Below.out hb ho hf hb.size, hq⟩
theorem NC.up (C : NC IsN) {S : Nat → Prop} {w w' : World} {p : Addr} {st : Nt.St} (h : IsN S w p st) (hu : Up w w') : IsN S w' p st := C.keep h (fun k hk => hu.block k (C.lt h k hk))
theorem answers_n (C : NC IsN) : CAns := fun w => by
  have HC := Lib.hid C
  clear C
  go_enter Try.func9, Try.ntmps9
  go_wp2_with fail
  refine (HC.out.new 2 _ (by omega) (by omega)).mono ?_
  rintro e w1 ⟨p, S, rfl, h1, hf, hu⟩
  have I1 := Lib.hid h1
  have F := Lib.hid hf
  have U := Lib.hid hu
  clear h1 hf hu
  go_wp2_with fail
  have hup : Up w1 (w1.alloc (.cells #[.int .u8 5] 5)) := (Below.refl _ _).alloc (Nat.le_refl _) _
  refine (HC.out.send S p _ (0, 0) (1, 0) (some ⟨w1.heap.size, 0, none⟩) 1 1 [5] _ (HC.out.up I1.out hup) (inB_new w1 [5] 1 (by simp) rfl) (fun b hb hs => by have := HC.out.lt I1.out b hs; simp [blk?] at hb; omega) (by unfold I64n; simp) (by unfold I64n; simp) (by unfold I64n; simp) (by unfold I64n; simp) (by omega)).mono ?_
  rintro e w2 ⟨S2, rfl, h2, hs2, ho2⟩
  have I2 := Lib.hid h2
  have B2 := Lib.hid (Below.out (U.out.trans hup) ho2 F.out (Nat.le_trans U.out.size hup.size))
  clear h2 hs2 ho2 hup
  have e1 : Nt.sendE (Nt.new 2) (0, 0) (1, 0) [5] = 0 := by decide
  rw [e1]
  go_wp2_with fail
  refine (HC.out.len S2 p _ _ I2.out).mono ?_
  rintro e w3 ⟨rfl, hu3⟩
  have U3 := Lib.hid hu3
  clear hu3
  have e2 : (Nt.sendS (Nt.new 2) (0, 0) (1, 0) [5]).way.length = 1 := by decide
  rw [e2]
  go_wp2_with fail
  go_ret
  exact ⟨rfl, B2.out.trans (U3.out.mono (by have := B2.out.size; omega))⟩
end
end Go.Proofs.Ytfbjhialjepodaa
namespace Go.Proofs.Ytfbjhialjepodaa
open Go Go.RowKit
set_option linter.unusedVariables false
/-- The frames that NetFull sends. -/
def fullF (c : Int) (j : Nat) : Nt.Fr := ⟨(j % 3 : Nat), 0, ((j + 1) % 3 : Nat), 0, [c, (j % 256 : Nat)], false⟩
def full (c : Int) (n : Nat) : List Nt.Fr := (List.range n).map (fullF c)
theorem full_len (c : Int) (n : Nat) : (full c n).length = n := by simp [full]
theorem full_succ (c : Int) (n : Nat) : full c n ++ [fullF c n] = full c (n + 1) := by simp [full, List.range_succ]
theorem full_get (c : Int) {n j : Nat} (h : j < n) : (full c n).getD j default = fullF c j := by simp [full, List.getD, h]
def FullQ (c : Int) (i : Nat) (st : Nt.St) : Prop := st.hosts = 3 ∧ (∀ a b q, st.down a b q = false) ∧ st.way = full c (min i 1024)
theorem full_send {c : Int} {i : Nat} {st : Nt.St} (h : FullQ c i st) : Nt.sendE st ((i % 3 : Nat), 0) (((i + 1) % 3 : Nat), 0) [c, (i % 256 : Nat)] = 0 ∧ FullQ c (i + 1) (Nt.sendS st ((i % 3 : Nat), 0) (((i + 1) % 3 : Nat), 0) [c, (i % 256 : Nat)]) := by
  obtain ⟨h1, h2, h3⟩ := h
  have e : Nt.sendE st ((i % 3 : Nat), 0) (((i + 1) % 3 : Nat), 0) [c, (i % 256 : Nat)] = 0 := by
    unfold Nt.sendE
    rw [if_pos ⟨⟨⟨by simp only; omega, by simp only; omega⟩, by simp, by simp⟩, ⟨⟨by simp only; omega, by simp only; omega⟩, by simp, by simp⟩, by simp only; omega⟩]
    simp
  refine ⟨e, ?_⟩
  unfold Nt.sendS
  rw [e, h2, h3, full_len]
  by_cases hl : i < 1024
  · rw [if_pos ⟨rfl, rfl, by omega⟩]
    refine ⟨h1, h2, ?_⟩
    rw [show min i 1024 = i by omega, show min (i + 1) 1024 = i + 1 by omega]
    exact full_succ c i
  · rw [if_neg (by omega)]
    exact ⟨h1, h2, by rw [h3, show min i 1024 = 1024 by omega, show min (i + 1) 1024 = 1024 by omega]⟩
theorem inB_two {w : World} {A : Option Addr} {c : Nat} {x y : Int} (h : InB w A 2 c [x, y]) : ∃ b o, A = some ⟨b, o, none⟩ ∧ w.cell? ⟨b, o, none⟩ = some (.int .u8 x) ∧ w.cell? ⟨b, o + 1, none⟩ = some (.int .u8 y) := by
  obtain ⟨b, o, e, _, hc⟩ := h.cells (by simp [ints])
  exact ⟨b, o, e, hc 0 _ rfl, hc 1 _ rfl⟩
section
variable {IsN : (Nat → Prop) → World → Addr → Nt.St → Prop}
set_option maxRecDepth 100000 in
set_option maxHeartbeats 1000000 in
theorem law_netfull (C : NC IsN) (c k : Nat) (w : World) (hc : c < 256) (hk : k < 65536) : Calls Try.prog 5 #[.int .u8 (c : Int), .int .u16 (k : Int)] w (True2 w) := by
  have HA := Lib.hid (answers_n C)
  have HC := Lib.hid C
  clear C
  go_enter Try.func5, Try.ntmps5
  go_wp2_with fail
  refine (HC.out.new 3 _ (by omega) (by omega)).mono ?_
  rintro e w1 ⟨p, S, rfl, h1, hf, hu⟩
  have I1 := Lib.hid h1
  have F := Lib.hid hf
  have U := Lib.hid hu
  clear h1 hf hu
  go_wp2_with fail
  refine (HA.out _).mono ?_
  rintro e w2 ⟨rfl, hu2⟩
  have A0 := Lib.hid (show AtN IsN w p (FullQ c 0) w2 from ⟨S, _, HC.out.up I1.out hu2, F.out, U.out.trans hu2, rfl, fun _ _ _ => rfl, rfl⟩)
  clear I1 F U hu2
  go_wp2_with fail
  go_loopw [7] (fun i wr => ∃ j : Nat, j ≤ 1030 ∧ i = .int .i64 j ∧ Hid (AtN IsN w p (FullQ c j) wr)) (fun i _ => 1030 - (intOf i).toNat)
  case atStart => exact ⟨0, Nat.zero_le _, rfl, A0⟩
  case round =>
    obtain ⟨j, hj, rfl, hA⟩ := hrel
    clear A0
    obtain ⟨S1, st, hI, hF, hB, hQ⟩ := hA.out
    have HI := Lib.hid hI
    have HF := Lib.hid hF
    have HB := Lib.hid hB
    have HQ := Lib.hid hQ
    clear hA hI hF hB hQ
    by_cases hlt : j < 1030
    · go_wp2_with fail
      have hq := full_send (c := (c : Int)) HQ.out
      have hcall := (HC.out.send S1 p st ((j % 3 : Nat), 0) (((j + 1) % 3 : Nat), 0) (some ⟨wr.heap.size, 0, none⟩) 2 2 [(c : Int), (j % 256 : Nat)] _ (HC.out.up HI.out (up_alloc wr (.cells (ints .u8 [(c : Int), (j % 256 : Nat)]).toArray 5))) (inB_new wr [(c : Int), (j % 256 : Nat)] 2 (by simp; omega) rfl) (fun b hb hs => by have := HC.out.lt HI.out b hs; simp [blk?] at hb; omega) (by unfold I64n; simp; omega) (by unfold I64n; simp) (by unfold I64n; simp; omega) (by unfold I64n; simp) (by omega))
      rw [hq.1] at hcall
      have e3 : ((j % 3 : Nat) : Int) = (j : Int) % 3 := by omega
      have e4 : (((j + 1) % 3 : Nat) : Int) = ((j : Int) + 1) % 3 := by omega
      have e5 : ((j % 256 : Nat) : Int) = (j : Int) % 256 := by omega
      rw [e3, e4, e5] at hq hcall
      have HQ2 := Lib.hid hq.2
      clear hq e3 e4 e5
      refine hcall.mono ?_
      rintro e w3 ⟨S2, rfl, h3, hs3, ho3⟩
      have hup := up_alloc wr (.cells (ints .u8 [(c : Int), (j : Int) % 256]).toArray 5)
      have A1 := Lib.hid (atN_next (w := wr.alloc (.cells (ints .u8 [(c : Int), (j : Int) % 256]).toArray 5)) HF.out (HB.out.trans (hup.mono HB.out.size)) h3 hs3 ho3 HQ2.out)
      clear h3 hs3 ho3 hcall hup HI HF HB HQ HQ2
      go_wp2_with fail
      go_roundw
      case rel => exact ⟨j + 1, by omega, by go_num, A1⟩
      case measure => simp [intOf]; omega
    · obtain rfl : j = 1030 := by omega
      have hm : (k : Int) % 1024 < 1024 := by omega
      obtain ⟨m, hmm⟩ := Int.eq_ofNat_of_zero_le (show 0 ≤ (k : Int) % 1024 by omega)
      have hm1 : m < 1024 := by omega
      have HM := Lib.hid hmm
      obtain ⟨q1, q2, q3⟩ := HQ.out
      rw [show min 1030 1024 = 1024 by omega] at q3
      have hlen : st.way.length = 1024 := by rw [q3, full_len]
      have hhas : Nt.has st (m : Int) := ⟨by omega, by rw [hlen]; omega⟩
      have hfr : Nt.fr st (m : Int) = fullF c m := by unfold Nt.fr; rw [q3]; exact full_get c (by omega)
      have htw : Nt.twinE st (m : Int) = 10 := by unfold Nt.twinE; rw [if_pos hhas, if_pos (by omega)]
      have htS : Nt.twinS st (m : Int) = st := by unfold Nt.twinS; rw [htw]; rfl
      have hlen2 : (Nt.takeS st (m : Int)).way.length = 1023 := by
        unfold Nt.takeS
        simp only [Int.toNat_natCast]
        rw [List.length_eraseIdx_of_lt (by omega)]; omega
      have htw2 : Nt.twinE (Nt.takeS st (m : Int)) 0 = 0 := by unfold Nt.twinE; rw [if_pos ⟨by omega, by rw [hlen2]; omega⟩, if_neg (by omega)]
      have hlen3 : (Nt.twinS (Nt.takeS st (m : Int)) 0).way.length = 1024 := by unfold Nt.twinS; rw [if_pos htw2]; simp [hlen2]
      have HFR := Lib.hid hfr
      have HHAS := Lib.hid hhas
      have HL := Lib.hid (And.intro hlen (And.intro hlen2 hlen3))
      have HT := Lib.hid (And.intro htw (And.intro htS htw2))
      clear hm hmm q1 q2 q3 hlen hhas hfr htw htS hlen2 htw2 hlen3
      go_wp2_with fail
      refine (HC.out.len S1 p st _ HI.out).mono ?_
      rintro e w3 ⟨rfl, hu⟩
      have I3 := Lib.hid (HC.out.up HI.out hu)
      have B3 := Lib.hid (HB.out.trans (hu.mono HB.out.size))
      clear hu HI HB
      rw [HL.out.1]
      go_wp2_with fail
      rw [HM.out]
      refine (HC.out.twin S1 p st m _ I3.out (by unfold I64n; omega)).mono ?_
      rintro e w4 ⟨S2, rfl, h4, hs4, ho4⟩
      rw [HT.out.2.1] at h4
      have I4 := Lib.hid h4
      have F4 := Lib.hid (HF.out.sub hs4 B3.out.size)
      have B4 := Lib.hid (Below.out B3.out ho4 HF.out B3.out.size)
      clear h4 hs4 ho4 I3 B3
      rw [HT.out.1]
      go_wp2_with fail
      refine (HC.out.take S2 p st m _ I4.out HHAS.out).mono ?_
      rw [HFR.out]
      rintro e w5 ⟨S3, A, cp, rfl, hb5, hn5, h5, hs5, ho5⟩
      obtain ⟨bb, oo, rfl, k0, k1⟩ := inB_two (show InB w5 A 2 cp [(c : Int), (m % 256 : Nat)] from hb5)
      have I5 := Lib.hid h5
      have F5 := Lib.hid (F4.out.sub hs5 B4.out.size)
      have B5 := Lib.hid (Below.out B4.out ho5 F4.out B4.out.size)
      have hbs := cell_lt k0
      have c0 : ∀ o, (w5.alloc o).cell? ⟨bb, oo, none⟩ = some (.int .u8 (c : Int)) := cell_alloc k0 hbs
      have c1 : ∀ o, (w5.alloc o).cell? ⟨bb, oo + 1, none⟩ = some (.int .u8 ((m % 256 : Nat) : Int)) := cell_alloc k1 hbs
      clear h5 hs5 ho5 hb5 hn5 I4 F4 B4 k0 k1 hbs
      have e6 : ((m % 256 : Nat) : Int) = (m : Int) % 256 := by omega
      rw [e6] at c1
      have hfv : frV (fullF c m) (.slice (some ⟨bb, oo, none⟩) (fullF c m).bytes.length cp) = .agg #[.int .i64 ((m % 3 : Nat) : Int), .int .i64 0, .int .i64 (((m + 1) % 3 : Nat) : Int), .int .i64 0, .slice (some ⟨bb, oo, none⟩) 2 cp, .bool false] := rfl
      rw [hfv]
      clear e6 hfv
      go_wp2_with fail
      refine (HC.out.twin S3 p _ 0 _ (HC.out.up I5.out (up_alloc _ _)) (by unfold I64n; omega)).mono ?_
      rintro e w6 ⟨S4, rfl, h6, hs6, ho6⟩
      have I6 := Lib.hid h6
      have B6 := Lib.hid (Below.out (B5.out.trans ((up_alloc w5 _).mono B5.out.size)) ho6 F5.out (Nat.le_trans B5.out.size (up_alloc w5 _).size))
      clear h6 hs6 ho6 I5 B5 F5 c0 c1
      rw [HT.out.2.2]
      go_wp2_with fail
      refine (HC.out.len S4 p _ _ I6.out).mono ?_
      rintro e w7 ⟨rfl, hu⟩
      have B7 := Lib.hid (B6.out.trans (hu.mono B6.out.size))
      clear hu I6 B6
      rw [HL.out.2.2]
      go_wp2_with fail
      go_ret
      exact ⟨rfl, B7.out⟩
end
end Go.Proofs.Ytfbjhialjepodaa
namespace Go.Proofs.Ytfbjhialjepodaa
open Go Go.RowKit
set_option linter.unusedVariables false
section
variable {IsN : (Nat → Prop) → World → Addr → Nt.St → Prop}
set_option maxRecDepth 100000 in
set_option maxHeartbeats 1000000 in
/-- The closure of NetCuts: nb is the block of the variable n. -/
theorem send_cl (C : NC IsN) (S : Nat → Prop) (p : Addr) (st : Nt.St) (x y q : Int) (nb : Nat) (w : World) (h : IsN S w p st) (hn : w.cell? ⟨nb, 0, none⟩ = some (.pointer (some p))) (hnS : ¬ S nb)
    (hx : 0 ≤ x ∧ x < 8) (hy : 0 ≤ y ∧ y < 8) (hq : 0 ≤ q ∧ q < 8) (he : Nt.sendE st (x, q) (y, q) [1] = 0) :
    Calls Try.prog 17 #[.int .i64 x, .int .i64 y, .int .i64 q, .pointer (some ⟨nb, 0, none⟩)] w fun e w' => ∃ S', e = .returned (.bool (decide ((Nt.sendS st (x, q) (y, q) [1]).way.length = st.way.length + 1))) ∧ IsN S' w' p (Nt.sendS st (x, q) (y, q) [1]) ∧ Sub S' S w ∧ Out S w w' := by
  have HC := Lib.hid C
  have H := Lib.hid h
  have HE := Lib.hid he
  have HNS := Lib.hid hnS
  have HB := Lib.hid (C.bd h)
  have hl : st.way.length ≤ 1024 := (C.bd h).2.1
  have X := Lib.hid (And.intro hx (And.intro hy hq))
  clear C h he hnS hx hy hq
  go_enter Try.func17, Try.ntmps17
  go_wp2_with fail
  refine (HC.out.len S p st _ H.out).mono ?_
  rintro e w1 ⟨rfl, hu⟩
  have I1 := Lib.hid (HC.out.up H.out hu)
  have n1 := cell_up hn hu
  have U1 := Lib.hid hu
  clear hu hn H
  go_wp2_with fail
  have hup := up_alloc w1 (.cells (ints .u8 [1]).toArray 5)
  refine (HC.out.send S p st (x, q) (y, q) (some ⟨w1.heap.size, 0, none⟩) 1 1 [1] _ (HC.out.up I1.out hup) (inB_new w1 [1] 1 (by simp) rfl) (fun b hb hs => by have := HC.out.lt I1.out b hs; simp [blk?] at hb; omega) (by have := X.out; unfold I64n; simp; omega) (by have := X.out; unfold I64n; simp; omega) (by have := X.out; unfold I64n; simp; omega) (by have := X.out; unfold I64n; simp; omega) (by omega)).mono ?_
  rintro e w2 ⟨S2, rfl, h2, hs2, ho2⟩
  have I2 := Lib.hid h2
  have O2 := Lib.hid (((U1.out.trans hup).out S).trans ho2 (Sub.refl _ _))
  have Z2 := Lib.hid ((Sub.refl S w).trans hs2 (U1.out.trans hup).size)
  have n2 := cell_out (cell_up n1 hup) ho2 HNS.out
  clear h2 hs2 ho2 hup I1 n1
  rw [HE.out]
  go_wp2_with fail
  refine (HC.out.len S2 p _ _ I2.out).mono ?_
  rintro e w3 ⟨rfl, hu⟩
  have I3 := Lib.hid (HC.out.up I2.out hu)
  have O3 := Lib.hid (O2.out.trans (S' := No) (hu.out No) (fun _ h => h.elim))
  have hl2 : (Nt.sendS st (x, q) (y, q) [1]).way.length ≤ 1024 := (HC.out.bd I2.out).2.1
  clear hu I2 O2 n2
  have E2 := Lib.hid (show decide ((Nt.sendS st (x, q) (y, q) [1]).way.length = st.way.length + 1) = ((((Nt.sendS st (x, q) (y, q) [1]).way.length : Nat) : Int) == (st.way.length : Int) + 1) by
    rw [Bool.eq_iff_iff, decide_eq_true_iff, beq_iff_eq]; omega)
  go_wp2_with fail
  go_ret
  exact ⟨S2, by rw [E2.out]; rfl, I3.out, Z2.out, O3.out⟩
end
end Go.Proofs.Ytfbjhialjepodaa
namespace Go.Proofs.Ytfbjhialjepodaa
open Go Go.RowKit
set_option linter.unusedVariables false
/-- A net of four hosts, n frames on the way, of which path (a, b, q) alone is cut, or none. -/
def CutQ (a b q : Int) (d : Bool) (n : Nat) (st : Nt.St) : Prop := st.hosts = 4 ∧ st.way.length = n ∧ ∀ x y z, st.down x y z = (d && (decide (x = a) && (decide (y = b) && decide (z = q))))
theorem cut_send {a b q x y z : Int} {d : Bool} {n : Nat} {st : Nt.St} (h : CutQ a b q d n st) (hn : n < 1000) (hx : 0 ≤ x ∧ x < 4) (hy : 0 ≤ y ∧ y < 4) (hz : 0 ≤ z ∧ z < 2) (hne : x ≠ y) :
    Nt.sendE st (x, z) (y, z) [1] = 0 ∧ CutQ a b q d (if (d && (decide (x = a) && (decide (y = b) && decide (z = q)))) = true then n else n + 1) (Nt.sendS st (x, z) (y, z) [1]) ∧
    decide ((Nt.sendS st (x, z) (y, z) [1]).way.length = st.way.length + 1) = !(d && (decide (x = a) && (decide (y = b) && decide (z = q)))) := by
  obtain ⟨h1, h2, h3⟩ := h
  have e : Nt.sendE st (x, z) (y, z) [1] = 0 := by
    unfold Nt.sendE
    rw [if_pos ⟨⟨⟨hx.1, by simp only; omega⟩, hz.1, hz.2⟩, ⟨⟨hy.1, by simp only; omega⟩, hz.1, hz.2⟩, hne⟩]
    simp
  refine ⟨e, ?_⟩
  have hd := h3 x y z
  cases hc : (d && (decide (x = a) && (decide (y = b) && decide (z = q)))) with
  | true =>
    rw [hc] at hd
    rw [Nt.sendS_down hd]
    exact ⟨⟨h1, h2, h3⟩, by simp⟩
  | false =>
    rw [hc] at hd
    rw [Nt.sendS_up e hd (by omega)]
    exact ⟨⟨h1, by simp [h2], h3⟩, by simp⟩
section
variable {IsN : (Nat → Prop) → World → Addr → Nt.St → Prop}
/-- The net, behind a variable at block nb. -/
def AtC (IsN : (Nat → Prop) → World → Addr → Nt.St → Prop) (w0 : World) (p : Addr) (nb : Nat) (Q : Nt.St → Prop) (w : World) : Prop :=
  ∃ S st, IsN S w p st ∧ From w0.heap.size S ∧ (¬ S nb ∧ w.cell? ⟨nb, 0, none⟩ = some (.pointer (some p))) ∧ Below w0.heap.size w0 w ∧ Q st
theorem atC_cell {w0 w : World} {p : Addr} {nb : Nat} {Q : Nt.St → Prop} (h : AtC IsN w0 p nb Q w) : w.cell? ⟨nb, 0, none⟩ = some (.pointer (some p)) := by
  obtain ⟨_, _, _, _, h, _⟩ := h
  exact h.2
theorem atC_up (C : NC IsN) {w0 w w' : World} {p : Addr} {nb : Nat} {Q : Nt.St → Prop} (h : AtC IsN w0 p nb Q w) (hu : Up w w') : AtC IsN w0 p nb Q w' := by
  obtain ⟨S, st, h1, h2, ⟨h3, h4⟩, h5, h6⟩ := h
  exact ⟨S, st, C.up h1 hu, h2, ⟨h3, cell_up h4 hu⟩, h5.trans (hu.mono h5.size), h6⟩
theorem atC_next {w0 w w' : World} {p : Addr} {nb : Nat} {S S' : Nat → Prop} {st' : Nt.St} {Q' : Nt.St → Prop} (hf : From w0.heap.size S) (hb : Below w0.heap.size w0 w) (hn : ¬ S nb ∧ w.cell? ⟨nb, 0, none⟩ = some (.pointer (some p))) (h' : IsN S' w' p st') (hs : Sub S' S w) (ho : Out S w w') (hq : Q' st') : AtC IsN w0 p nb Q' w' :=
  ⟨S', st', h', hf.sub hs hb.size, ⟨Out.not hs hn.1 (cell_lt hn.2), cell_out hn.2 ho hn.1⟩, Below.out hb ho hf hb.size, hq⟩
theorem cl_step (C : NC IsN) {w0 w : World} {p : Addr} {nb : Nat} {a b q x y z : Int} {d : Bool} {n : Nat} (h : AtC IsN w0 p nb (CutQ a b q d n) w) (hn : n < 1000) (hx : 0 ≤ x ∧ x < 4) (hy : 0 ≤ y ∧ y < 4) (hz : 0 ≤ z ∧ z < 2) (hne : x ≠ y) :
    Calls Try.prog 17 #[.int .i64 x, .int .i64 y, .int .i64 z, .pointer (some ⟨nb, 0, none⟩)] w fun e w' => e = .returned (.bool (!(d && (decide (x = a) && (decide (y = b) && decide (z = q)))))) ∧
      AtC IsN w0 p nb (CutQ a b q d (if (d && (decide (x = a) && (decide (y = b) && decide (z = q)))) = true then n else n + 1)) w' := by
  obtain ⟨S, st, h1, h2, h3, h5, h6⟩ := h
  obtain ⟨e1, e2, e3⟩ := cut_send h6 hn hx hy hz hne
  refine (send_cl C S p st x y z nb w h1 h3.2 h3.1 (by omega) (by omega) (by omega) e1).mono fun e w' ⟨S', he, k1, k2, k3⟩ => ⟨by rw [he, e3], atC_next h2 h5 h3 k1 k2 k3 e2⟩
theorem cut_step (C : NC IsN) {w0 w : World} {p : Addr} {nb : Nat} {a b q : Int} {d : Bool} {n : Nat} (d' : Bool) (h : AtC IsN w0 p nb (CutQ a b q d n) w) (ha : 0 ≤ a ∧ a < 4) (hb : 0 ≤ b ∧ b < 4) (hq : 0 ≤ q ∧ q < 2) (hne : a ≠ b) :
    Calls Try.prog 18 #[.pointer (some p), .int .i64 a, .int .i64 b, .int .i64 q, .bool d'] w fun e w' => e = .returned (.int .i64 0) ∧ AtC IsN w0 p nb (CutQ a b q d' n) w' := by
  obtain ⟨S, st, h1, h2, h3, h5, h6⟩ := h
  obtain ⟨q1, q2, q3⟩ := h6
  have e : Nt.cutE st a b q = 0 := by unfold Nt.cutE; rw [if_pos ⟨⟨ha.1, by omega⟩, ⟨hb.1, by omega⟩, hne, hq.1, hq.2⟩]
  refine (C.cut S p st a b q d' w h1 (by unfold I64n; omega) (by unfold I64n; omega) (by unfold I64n; omega)).mono fun e' w' ⟨S', he, k1, k2, k3⟩ => ⟨by rw [he, e], atC_next h2 h5 h3 k1 k2 k3 ?_⟩
  unfold Nt.cutS
  rw [if_pos e]
  refine ⟨q1, q2, fun x y z => ?_⟩
  simp only
  by_cases hc : x = a ∧ y = b ∧ z = q
  · rw [if_pos hc]; simp [hc.1, hc.2.1, hc.2.2]
  · rw [if_neg hc, q3]
    have : (decide (x = a) && (decide (y = b) && decide (z = q))) = false := by
      rw [Bool.eq_false_iff]; intro h; simp at h; exact hc h
    rw [this]; simp
theorem take_step (C : NC IsN) {w0 w : World} {p : Addr} {nb : Nat} {a b q : Int} {d : Bool} {n : Nat} (h : AtC IsN w0 p nb (CutQ a b q d (n + 1)) w) :
    Calls Try.prog 16 #[.pointer (some p), .int .i64 0] w fun e w' => ∃ f A m c, e = .returned (.tuple #[frV f (.slice A m c), .int .i64 0]) ∧ AtC IsN w0 p nb (CutQ a b q d n) w' := by
  obtain ⟨S, st, h1, h2, h3, h5, h6⟩ := h
  obtain ⟨q1, q2, q3⟩ := h6
  refine (C.take S p st 0 w h1 ⟨by omega, by omega⟩).mono fun e' w' ⟨S', A, c, he, _, _, k1, k2, k3⟩ => ⟨_, _, _, _, he, atC_next h2 h5 h3 k1 k2 k3 ⟨q1, ?_, q3⟩⟩
  unfold Nt.takeS
  rw [List.length_eraseIdx_of_lt (by simp; omega), q2]; rfl
set_option maxRecDepth 100000 in
set_option maxHeartbeats 2000000 in
theorem law_netcuts (C : NC IsN) (n0 n1 n2 n3 : Nat) (w : World) (h0 : n0 < 256) (h1 : n1 < 256) (h2 : n2 < 256) (h3 : n3 < 256) : Calls Try.prog 6 #[.int .u8 (n0 : Int), .int .u8 (n1 : Int), .int .u8 (n2 : Int), .int .u8 (n3 : Int)] w (True2 w) := by
  have HA := Lib.hid (answers_n C)
  have HC := Lib.hid C
  clear C
  have hmf : ∀ (fn : Fn) (first cap : Array Value) (w : World), (Instr.makeFunc fn first cap).run Try.prog w = .ok (.func fn first cap) w := fun _ _ _ _ => rfl
  go_enter Try.func6, Try.ntmps6
  go_wp2_with fail
  refine (HC.out.new 4 _ (by omega) (by omega)).mono ?_
  rintro e w1 ⟨p, S, rfl, h4, hf, hu⟩
  have A0 := Lib.hid (show ∀ (a b q : Int), AtC IsN w p w1.heap.size (CutQ a b q false 0) (w1.alloc (.cells #[.pointer (some p)] 23)) from fun a b q =>
    ⟨S, _, HC.out.up h4 (up_alloc _ _), hf, ⟨fun hs => by have := HC.out.lt h4 _ hs; omega, cell_of (new_at _ _) rfl⟩, hu.trans (up_alloc w1 _), rfl, rfl, fun _ _ _ => rfl⟩)
  clear h4 hf hu
  go_wp2_with fail
  refine (HA.out _).mono ?_
  rintro e w2 ⟨rfl, hu2⟩
  have A1 := Lib.hid (fun a b q => atC_up HC.out (A0.out a b q) hu2)
  generalize hnb : w1.heap.size = nb at A1 ⊢
  have ha : 0 ≤ (n0 : Int) % 4 ∧ (n0 : Int) % 4 < 4 := by omega
  have hb : 0 ≤ (n1 : Int) % 4 ∧ (n1 : Int) % 4 < 4 := by omega
  have hq : 0 ≤ (n2 : Int) % 2 ∧ (n2 : Int) % 2 < 2 := by omega
  have hc : 0 ≤ (n3 : Int) % 4 ∧ (n3 : Int) % 4 < 4 := by omega
  obtain ⟨a, hae⟩ : ∃ x, x = (n0 : Int) % 4 := ⟨_, rfl⟩
  obtain ⟨b, hbe⟩ : ∃ x, x = (n1 : Int) % 4 := ⟨_, rfl⟩
  obtain ⟨q, hqe⟩ : ∃ x, x = (n2 : Int) % 2 := ⟨_, rfl⟩
  rw [← hae] at ha ⊢
  rw [← hbe] at hb ⊢
  rw [← hqe] at hq ⊢
  clear A0 hu2 hnb hae hbe hqe
  by_cases hab : a = b
  · subst hab
    have U := Lib.hid (show Below w.heap.size w w2 by obtain ⟨_, _, _, _, _, h, _⟩ := A1.out 0 0 0; exact h)
    go_wp2_with fail
    refine (HA.out _).mono ?_
    rintro e w3 ⟨rfl, hu3⟩
    have U3 := Lib.hid (U.out.trans (hu3.mono U.out.size))
    clear hu3
    go_wp2_with fail
    go_ret
    exact ⟨rfl, U3.out⟩
  · have A2 := Lib.hid (A1.out a b q)
    have c0 := atC_cell A2.out
    clear A1
    go_wp2_with fail
    refine (cl_step HC.out (n := 0) A2.out (by omega) ha hb hq hab).mono ?_
    rintro e w3 ⟨rfl, hA⟩
    rw [show ((false && (decide (a = a) && (decide (b = b) && decide (q = q)))) : Bool) = false from by simp] at hA
    have A3 := Lib.hid (show AtC IsN w p nb (CutQ a b q false 1) w3 from hA)
    have c0 := atC_cell A3.out
    clear hA A2
    rw [show (!(false && (decide (a = a) && (decide (b = b) && decide (q = q)))) : Bool) = true from by simp]
    go_wp2_with fail
    refine (cut_step HC.out true A3.out ha hb hq hab).mono ?_
    rintro e w4 ⟨rfl, hA⟩
    have A4 := Lib.hid hA
    have c0 := atC_cell A4.out
    clear hA A3
    go_wp2_with fail
    refine (cl_step HC.out (n := 1) A4.out (by omega) ha hb hq hab).mono ?_
    rintro e w5 ⟨rfl, hA⟩
    rw [show ((true && (decide (a = a) && (decide (b = b) && decide (q = q)))) : Bool) = true from by simp] at hA
    have A5 := Lib.hid (show AtC IsN w p nb (CutQ a b q true 1) w5 from hA)
    have c0 := atC_cell A5.out
    clear hA A4
    rw [show (!(true && (decide (a = a) && (decide (b = b) && decide (q = q)))) : Bool) = false from by simp]
    go_wp2_with fail
    refine (cl_step HC.out (n := 1) A5.out (by omega) ha hb (by omega) hab).mono ?_
    rintro e w6 ⟨rfl, hA⟩
    rw [show ((true && (decide (a = a) && (decide (b = b) && decide ((1 - q) = q)))) : Bool) = false from by simp; omega] at hA
    have A6 := Lib.hid (show AtC IsN w p nb (CutQ a b q true 2) w6 from hA)
    have c0 := atC_cell A6.out
    clear hA A5
    rw [show (!(true && (decide (a = a) && (decide (b = b) && decide ((1 - q) = q)))) : Bool) = true from by simp; omega]
    go_wp2_with fail
    refine (cl_step HC.out (n := 2) A6.out (by omega) hb ha hq (fun e => hab e.symm)).mono ?_
    rintro e w7 ⟨rfl, hA⟩
    rw [show ((true && (decide (b = a) && (decide (a = b) && decide (q = q)))) : Bool) = false from by simp; omega] at hA
    have A7 := Lib.hid (show AtC IsN w p nb (CutQ a b q true 3) w7 from hA)
    have c0 := atC_cell A7.out
    clear hA A6
    rw [show (!(true && (decide (b = a) && (decide (a = b) && decide (q = q)))) : Bool) = true from by simp; omega]
    by_cases hca : (n3 : Int) % 4 = a
    · have hca2 : ((n3 : Int) % 4 != a) = false := by rw [hca]; simp
      go_wp2_with fail
      refine (take_step HC.out (n := 2) A7.out).mono ?_
      rintro e w20 ⟨f, fA, fm, fc, rfl, hA⟩
      unfold frV
      have A20 := Lib.hid (atC_up HC.out hA (up_alloc w20 (.cells #[.int .i64 f.fh, .int .i64 f.fp, .int .i64 f.th, .int .i64 f.tp, .slice fA fm fc, .bool f.tn] 46)))
      have c0 := atC_cell A20.out
      clear hA A7
      go_wp2_with fail
      refine (cut_step HC.out false A20.out ha hb hq hab).mono ?_
      rintro e w21 ⟨rfl, hA⟩
      have A21 := Lib.hid hA
      have c0 := atC_cell A21.out
      clear hA A20
      go_wp2_with fail
      refine (cl_step HC.out (n := 2) A21.out (by omega) ha hb hq hab).mono ?_
      rintro e w22 ⟨rfl, hA⟩
      rw [show ((false && (decide (a = a) && (decide (b = b) && decide (q = q)))) : Bool) = false from by simp] at hA
      have A22 := Lib.hid (show AtC IsN w p nb (CutQ a b q false 3) w22 from hA)
      have c0 := atC_cell A22.out
      clear hA A21
      rw [show (!(false && (decide (a = a) && (decide (b = b) && decide (q = q)))) : Bool) = true from by simp]
      go_wp2_with fail
      go_ret
      exact ⟨rfl, by obtain ⟨_, _, _, _, _, h, _⟩ := A22.out; exact h⟩
    · have hca2 : ((n3 : Int) % 4 != a) = true := by rw [bne_iff_ne]; exact hca
      by_cases hcb : (n3 : Int) % 4 = b
      · have hcb2 : ((n3 : Int) % 4 != b) = false := by rw [hcb]; simp
        go_wp2_with fail
        refine (take_step HC.out (n := 2) A7.out).mono ?_
        rintro e w20 ⟨f, fA, fm, fc, rfl, hA⟩
        unfold frV
        have A20 := Lib.hid (atC_up HC.out hA (up_alloc w20 (.cells #[.int .i64 f.fh, .int .i64 f.fp, .int .i64 f.th, .int .i64 f.tp, .slice fA fm fc, .bool f.tn] 46)))
        have c0 := atC_cell A20.out
        clear hA A7
        go_wp2_with fail
        refine (cut_step HC.out false A20.out ha hb hq hab).mono ?_
        rintro e w21 ⟨rfl, hA⟩
        have A21 := Lib.hid hA
        have c0 := atC_cell A21.out
        clear hA A20
        go_wp2_with fail
        refine (cl_step HC.out (n := 2) A21.out (by omega) ha hb hq hab).mono ?_
        rintro e w22 ⟨rfl, hA⟩
        rw [show ((false && (decide (a = a) && (decide (b = b) && decide (q = q)))) : Bool) = false from by simp] at hA
        have A22 := Lib.hid (show AtC IsN w p nb (CutQ a b q false 3) w22 from hA)
        have c0 := atC_cell A22.out
        clear hA A21
        rw [show (!(false && (decide (a = a) && (decide (b = b) && decide (q = q)))) : Bool) = true from by simp]
        go_wp2_with fail
        go_ret
        exact ⟨rfl, by obtain ⟨_, _, _, _, _, h, _⟩ := A22.out; exact h⟩
      · have hcb2 : ((n3 : Int) % 4 != b) = true := by rw [bne_iff_ne]; exact hcb
        go_wp2_with fail
        generalize (n3 : Int) % 4 = c at *
        refine (cl_step HC.out (n := 3) A7.out (by omega) ha hc hq (fun e => hca e.symm)).mono ?_
        rintro e w8 ⟨rfl, hA⟩
        rw [show ((true && (decide (a = a) && (decide (c = b) && decide (q = q)))) : Bool) = false from by simp; omega] at hA
        have A8 := Lib.hid (show AtC IsN w p nb (CutQ a b q true 4) w8 from hA)
        have c0 := atC_cell A8.out
        clear hA A7
        rw [show (!(true && (decide (a = a) && (decide (c = b) && decide (q = q)))) : Bool) = true from by simp; omega]
        go_wp2_with fail
        refine (take_step HC.out (n := 3) A8.out).mono ?_
        rintro e w20 ⟨f, fA, fm, fc, rfl, hA⟩
        unfold frV
        have A20 := Lib.hid (atC_up HC.out hA (up_alloc w20 (.cells #[.int .i64 f.fh, .int .i64 f.fp, .int .i64 f.th, .int .i64 f.tp, .slice fA fm fc, .bool f.tn] 46)))
        have c0 := atC_cell A20.out
        clear hA A8
        go_wp2_with fail
        refine (cut_step HC.out false A20.out ha hb hq hab).mono ?_
        rintro e w21 ⟨rfl, hA⟩
        have A21 := Lib.hid hA
        have c0 := atC_cell A21.out
        clear hA A20
        go_wp2_with fail
        refine (cl_step HC.out (n := 3) A21.out (by omega) ha hb hq hab).mono ?_
        rintro e w22 ⟨rfl, hA⟩
        rw [show ((false && (decide (a = a) && (decide (b = b) && decide (q = q)))) : Bool) = false from by simp] at hA
        have A22 := Lib.hid (show AtC IsN w p nb (CutQ a b q false 4) w22 from hA)
        have c0 := atC_cell A22.out
        clear hA A21
        rw [show (!(false && (decide (a = a) && (decide (b = b) && decide (q = q)))) : Bool) = true from by simp]
        go_wp2_with fail
        go_ret
        exact ⟨rfl, by obtain ⟨_, _, _, _, _, h, _⟩ := A22.out; exact h⟩
end
end Go.Proofs.Ytfbjhialjepodaa
