import Derived.Test.YtpdhgjhcjnpkeaaWhM
import Derived.Test.YtpdhgjhcjnpkeaaWhK
import Derived.Deep.DeepCutAuto
import Derived.Outline
import Derived.Deep.QuietTactic
import Derived.BigQuiet
namespace Go.Proofs.Ytpdhgjhcjnpkeaa
open Go Go.RowKit
set_option linter.unusedVariables false
/-- Just the first k alarms, at their times. -/
def Q1 (zs : List Int) (k : Nat) (L : List Tm.T) : Prop := L.length = k ∧ ∀ x, x ∈ L ↔ ∃ j : Nat, j < k ∧ x = ((j : Int), zs.getD j 0)
theorem q1_zero (zs : List Int) : Q1 zs 0 [] := ⟨rfl, fun x => ⟨fun h => (by cases h), fun ⟨j, h, _⟩ => absurd h (by omega)⟩⟩
theorem q1_succ {zs : List Int} {k : Nat} {L : List Tm.T} (h : Q1 zs k L) : Q1 zs (k + 1) (Tm.set L k (zs.getD k 0)) := by
  have h0 : Tm.has L k = false := by
    rw [Bool.eq_false_iff]
    intro hh
    obtain ⟨x, hx, e⟩ := Tm.has_iff.1 hh
    obtain ⟨j, hj, rfl⟩ := (h.2 x).1 hx
    simp at e; omega
  refine ⟨by rw [Tm.set_length_new h0, h.1], fun x => ?_⟩
  rw [Tm.mem_set, h.2]
  constructor
  · rintro (rfl | ⟨⟨j, hj, rfl⟩, _⟩)
    · exact ⟨k, by omega, rfl⟩
    · exact ⟨j, by omega, rfl⟩
  · rintro ⟨j, hj, rfl⟩
    by_cases e : j = k
    · subst e; exact .inl rfl
    · exact .inr ⟨⟨j, by omega, rfl⟩, by simp; omega⟩
def AtT (IsW : (Nat → Prop) → World → Addr → List Tm.T → Prop) (w0 : World) (p : Addr) (g : Nat) (T : List Int) (Q : List Tm.T → Prop) (w : World) : Prop :=
  ∃ S L, IsW S w p L ∧ From w0.heap.size S ∧ Below w0.heap.size w0 w ∧ Q L ∧ ¬ S g ∧ w.heap[g]? = some (.cells (ints .i64 T).toArray 3 (0, 0)) ∧ w0.heap.size ≤ g
theorem q2_start {zs : List Int} {N : Nat} {L : List Tm.T} (h : Q1 zs N L) (hz : ∀ j, 0 ≤ zs.getD j 0) : Q2 zs N (-1) L := ⟨by rw [h.1]; omega, fun x => by
  rw [h.2]
  constructor
  · rintro ⟨j, h1, rfl⟩; exact ⟨j, h1, rfl, by have := hz j; omega⟩
  · rintro ⟨j, h1, rfl, _⟩; exact ⟨j, h1, rfl⟩⟩
theorem tld_start (zs : List Int) (N : Nat) (hz : ∀ j, 0 ≤ zs.getD j 0) : tld zs N (-1) = List.replicate N 0 := by
  refine List.ext_getElem? fun j => ?_
  rcases Nat.lt_or_ge j N with hj | hj
  · rw [tld_get hj, if_neg (by have := hz j; omega), List.getElem?_replicate, if_pos hj]
  · rw [List.getElem?_eq_none (by rw [tld_length]; exact hj), List.getElem?_eq_none (by simpa using hj)]
/-- The inner round: those that are told. -/
def AtI (IsW : (Nat → Prop) → World → Addr → List Tm.T → Prop) (w0 : World) (p : Addr) (g base : Nat) (A : Option Addr) (n c : Nat) (R : List Tm.T) (T : List Int) (Q : List Tm.T → Prop) (w : World) : Prop :=
  ∃ S L, IsW S w p L ∧ From w0.heap.size S ∧ Below w0.heap.size w0 w ∧ Q L ∧ ¬ S g ∧ w.heap[g]? = some (.cells (ints .i64 T).toArray 3 (0, 0)) ∧ w0.heap.size ≤ g ∧
    w.ownsRow base 33 2 (.slice A n c) n (tcells R) ∧ (∀ gl, (Value.slice A n c).ownBlock = some gl → ¬ S gl ∧ g ≠ gl)
theorem out_store (w : World) (o : Obj) (n g j : Nat) (v : Value) : Out (fun b => b = g) w (((w.alloc o).drewN n).setCell ⟨g, j, none⟩ v) :=
  ⟨rfl, rfl, rfl, by simp [World.setCell, World.drewN], fun k hk hn => by
    rw [Below.heap_setCell _ _ _ _ (by simpa using hn)]
    exact Below.heap_alloc _ _ _ hk⟩
theorem told_store {w : World} {g j : Nat} {T : List Int} (h : w.heap[g]? = some (.cells (ints .i64 T).toArray 3 (0, 0))) (o : Obj) (n : Nat) (x : Int) :
    (((w.alloc o).drewN n).setCell ⟨g, j, none⟩ (.int .i64 x)).heap[g]? = some (.cells (ints .i64 (T.set j x)).toArray 3 (0, 0)) := by
  have h1 : ((w.alloc o).drewN n).heap[g]? = some (.cells (ints .i64 T).toArray 3 (0, 0)) := (Below.heap_alloc _ _ _ (lt_of_blk h)).trans h
  rw [heap_setCell_same _ g _ _ 3 _ h1]
  congr 2
  apply Array.toList_inj.1
  simp [ints]
section
variable {IsW : (Nat → Prop) → World → Addr → List Tm.T → Prop}
theorem atI_next (C : WC IsW) {w0 wr : World} {p : Addr} {g base n c q : Nat} {A : Option Addr} {R : List Tm.T} {T : List Int} {Q : List Tm.T → Prop} {S : Nat → Prop} {L : List Tm.T} {j : Nat} {y : Int}
    (hI : IsW S wr p L) (hF : From w0.heap.size S) (hB : Below w0.heap.size w0 wr) (hQ : Q L) (hS : ¬ S g) (hT : wr.heap[g]? = some (.cells (ints .i64 (mark T (R.take q))).toArray 3 (0, 0))) (hG : w0.heap.size ≤ g)
    (hR : wr.ownsRow base 33 2 (.slice A n c) n (tcells R)) (hD : ∀ gl, (Value.slice A n c).ownBlock = some gl → ¬ S gl ∧ g ≠ gl) (hx : R[q]? = some ((j : Int), y)) (o : Obj) (m : Nat) :
    Hid (AtI IsW w0 p g base A n c R (mark T (R.take (q + 1))) Q (((wr.alloc o).drewN m).setCell ⟨g, j, none⟩ (.int .i64 1))) := by
  have ho := out_store wr o m g j (.int .i64 1)
  refine ⟨S, L, C.out hI ho (fun k hk e => hS (by subst e; exact hk)), hF, Below.out hB ho (fun k e => by rw [e]; exact hG) hB.size, hQ, hS, ?_, hG, ho.own hR (fun gl hgl e => (hD gl hgl).2 e.symm), hD⟩
  obtain ⟨hq, hx2⟩ := List.getElem?_eq_some_iff.1 hx
  rw [List.take_succ_eq_append_getElem hq, mark_snoc, hx2]
  exact told_store hT o m 1
set_option maxRecDepth 100000 in
set_option maxHeartbeats 1000000 in
theorem law_once (C : WC IsW) (B0 B1 : Option Addr) (len0 cap0 len1 cap1 : Nat) (z0 z1 : List Int) (w : World) (h0 : InK .u16 w B0 len0 cap0 z0) (h1 : InK .u16 w B1 len1 cap1 z1) (r0 : len0 ≤ 140737488351232) (r1 : len1 ≤ 140737488351232) :
    Calls Try.prog 3 #[.slice B0 len0 cap0, .slice B1 len1 cap1] w (True2 w) := by
  have HA := Lib.hid (answers_w C)
  have HC := Lib.hid C
  have H0 := Lib.hid h0
  have H1 := Lib.hid h1
  clear C h0 h1
  go_enter Try.func3, Try.ntmps3
  go_wp2_with fail
  refine (HC.out.new _).mono ?_
  rintro e w1 ⟨p, S, rfl, h1, hf, hu⟩
  have I1 := Lib.hid h1
  have F := Lib.hid hf
  have U := Lib.hid hu
  clear h1 hf hu
  go_wp2_with fail
  refine (HA.out _).mono ?_
  rintro e w2 ⟨rfl, hu2⟩
  have A0 := Lib.hid (show AtW IsW w p (Q1 z0 0) w2 from ⟨S, [], HC.out.up I1.out hu2, F.out, U.out.trans hu2, q1_zero _⟩)
  clear I1 F U hu2
  go_upto_if 26 with (fail)
  go_cut [6] (fun s6 wx => ∃ N : Nat, N ≤ 200 ∧ N ≤ len0 ∧ s6 = .int .i64 (N : Int) ∧ w2 = wx)
  case first =>
    by_cases hlt : 200 < len0
    · go_wp2_with fail
      go_meet
      exact ⟨200, by omega, by omega, rfl, rfl⟩
    · go_wp2_with fail
      go_meet
      exact ⟨len0, by omega, by omega, rfl, rfl⟩
  case rest =>
    obtain ⟨N, hN1, hN2, rfl, rfl⟩ := hcut
    go_wp2_with fail
    go_loopw [7] (fun i wr => ∃ k : Nat, k ≤ N ∧ i = .int .i64 k ∧ Hid (AtW IsW w p (Q1 z0 k) wr)) (fun i _ => N - (intOf i).toNat)
    case atStart => exact ⟨0, Nat.zero_le _, rfl, A0⟩
    case round =>
      obtain ⟨k, hk, rfl, hA⟩ := hrel
      clear A0
      by_cases hlt : k < N
      · obtain ⟨S1, L, hI, hF, hB, hQ⟩ := hA.out
        obtain ⟨b0, o0, rfl⟩ := H0.out.at_ (by omega)
        have hcell := H0.out.cell hB (show k < len0 by omega)
        have hb := H0.out.u16 (i := k)
        have HI := Lib.hid hI
        have HF := Lib.hid hF
        have HB := Lib.hid hB
        have HQ := Lib.hid hQ
        clear hA hI hF hB hQ
        generalize hz : z0.getD k 0 = x at hcell hb
        have HZ := Lib.hid hz
        clear hz
        go_wp2_with fail
        refine (HC.out.set S1 p L k _ _ HI.out (by unfold I64; omega) (by omega) (by omega) (.inr (by have := HQ.out.1; omega))).mono ?_
        rintro e w3 ⟨S2, rfl, h3, hs3, ho3⟩
        have A1 := Lib.hid (atW_next (Q' := Q1 z0 (k + 1)) HF.out HB.out h3 hs3 ho3 (by have := q1_succ HQ.out; rw [HZ.out] at this; exact this))
        clear h3 hs3 ho3 HI HF HB HQ
        go_wp2_with fail
        go_roundw
        case rel => exact ⟨k + 1, by omega, by go_num, A1⟩
        case measure => simp [intOf]; omega
      · obtain rfl : k = N := by omega
        obtain ⟨S1, L, hI, hF, hB, hQ⟩ := hA.out
        have HI := Lib.hid hI
        have HF := Lib.hid hF
        have HB := Lib.hid hB
        have HQ := Lib.hid hQ
        clear hA hI hF hB hQ
        have hmk := make_ints k (by omega)
        go_wp2_with fail
        have A1 := Lib.hid (show AtT IsW w p wr.heap.size (tld z0 k (-1)) (Q2 z0 k (-1)) (wr.alloc (.cells (ints .i64 (List.replicate k 0)).toArray 3)) from
          ⟨S1, L, HC.out.up HI.out ((Below.refl _ _).alloc (Nat.le_refl _) _), HF.out, HB.out.alloc HB.out.size _, q2_start HQ.out (fun j => (H0.out.u16 (i := j)).1), fun hs => absurd (HC.out.lt HI.out _ hs) (Nat.lt_irrefl _), by rw [tld_start _ _ (fun j => (H0.out.u16 (i := j)).1)]; exact heap_alloc_new _ _, HB.out.size⟩)
        clear HI HF HB HQ hmk
        obtain ⟨M, hM1, hM2, hM3⟩ : ∃ M : Nat, M ≤ len1 ∧ M ≤ 100 ∧ (M = len1 ∨ M = 100) := ⟨min len1 100, by omega, by omega, by omega⟩
        have HM := Lib.hid hM3
        clear hM3
        generalize hg : wr.heap.size = g at A1
        have HG := Lib.hid hg
        clear hg
        obtain ⟨wo, rfl⟩ : ∃ wo : World, wo = wr := ⟨_, rfl⟩
        go_loopw [9, 10, 11] (fun nw la i wx => ∃ (t : Nat) (now last : Int), t ≤ M + 1 ∧ i = .int .i64 t ∧ nw = .int .i64 now ∧ la = .int .i64 last ∧ 0 ≤ now ∧ now ≤ 7000000 ∧ -1 ≤ last ∧ last ≤ now ∧ Hid ((t ≤ M → now ≤ 65535 * t) ∧ (t = M + 1 → last = 7000000)) ∧ Hid (AtT IsW w p g (tld z0 k last) (Q2 z0 k last) wx)) (fun _ _ i _ => 101 - (intOf i).toNat)
        case atStart => exact ⟨0, 0, -1, by omega, rfl, rfl, rfl, by omega, by omega, by omega, by omega, Lib.hid ⟨by omega, by omega⟩, A1⟩
        case round =>
          obtain ⟨t, now, last, ht, rfl, rfl, rfl, g1, g2, g3, g4, hc, hA⟩ := hrel
          clear A1
          have HMM := HM.out
          go_upto_region 15 with (fail)
          go_cut [50] (fun s50 wx => s50 = .bool (decide (t ≤ M)) ∧ wr = wx)
          case first =>
            by_cases hl : t ≤ len1
            · by_cases hl2 : (t : Int) ≤ 100
              · have E := Lib.hid (show decide (t ≤ M) = true from decide_eq_true (by omega))
                clear HMM
                go_wp2_with fail
                go_meet
                exact ⟨by rw [E.out], rfl⟩
              · have E := Lib.hid (show decide (t ≤ M) = false from decide_eq_false (by omega))
                have hl3 : (100 : Int) < t := by omega
                clear HMM hl2
                go_wp2_with fail
                go_meet
                exact ⟨by rw [E.out, decide_eq_false (show ¬ (t : Int) ≤ 100 by omega)], rfl⟩
            · have E := Lib.hid (show decide (t ≤ M) = false from decide_eq_false (by omega))
              have hl3 : len1 < t := by omega
              clear HMM hl
              go_wp2_with fail
              go_meet
              exact ⟨by rw [E.out] <;> rfl, rfl⟩
          case rest =>
          obtain ⟨rfl, rfl⟩ := hcut
          by_cases hlt : t ≤ M
          · have t1 : (t : Int) ≤ 100 := by omega
            have t2 : t ≤ len1 := by omega
            go_upto_region 17 with (fail)
            go_cut [60] (fun s60 wx => s60 = .bool (decide (t < M)) ∧ wr = wx)
            case first =>
              by_cases hl : t < len1
              · by_cases hl2 : (t : Int) < 100
                · have e : decide (t < M) = true := decide_eq_true (by omega)
                  have E := Lib.hid e
                  clear e HMM
                  go_wp2_with fail
                  go_meet
                  exact ⟨by rw [E.out], rfl⟩
                · have e : decide (t < M) = false := decide_eq_false (by omega)
                  have hl3 : (100 : Int) ≤ t := by omega
                  have E := Lib.hid e
                  clear e HMM hl2
                  go_wp2_with fail
                  go_meet
                  exact ⟨by rw [E.out, decide_eq_false (show ¬ (t : Int) < 100 by omega)], rfl⟩
              · have e : decide (t < M) = false := decide_eq_false (by omega)
                have hl3 : len1 ≤ t := by omega
                have E := Lib.hid e
                clear e HMM hl
                go_wp2_with fail
                go_meet
                exact ⟨by rw [E.out] <;> rfl, rfl⟩
            case rest =>
            obtain ⟨rfl, rfl⟩ := hcut
            go_upto_if 60 with (fail)
            go_cut [9] (fun s9 wx => ∃ now' : Int, s9 = .int .i64 now' ∧ now ≤ now' ∧ now' ≤ 7000000 ∧ Hid ((t + 1 ≤ M → now' ≤ 65535 * ((t + 1 : Nat) : Int)) ∧ (t + 1 = M + 1 → now' = 7000000)) ∧ wr = wx)
            case first =>
              by_cases hlt2 : t < M
              · obtain ⟨b1, o1, rfl⟩ := H1.out.at_ (by omega)
                obtain ⟨S2, L2, hI, hF, hB, hR⟩ := hA.out
                have hcell := H1.out.cell hB (show t < len1 by omega)
                have hb := H1.out.u16 (i := t)
                clear hI hF hB hR HMM
                generalize hz : z1.getD t 0 = x at hcell hb
                clear hz
                have hx := hc.out.1 hlt
                go_wp2_with fail
                go_meet
                exact ⟨now + x, rfl, by omega, by omega, Lib.hid ⟨fun _ => by omega, fun h => by omega⟩, rfl⟩
              · have hlt3 : M ≤ t := by omega
                clear HMM hlt2
                go_wp2_with fail
                go_meet
                exact ⟨7000000, rfl, by omega, by omega, Lib.hid ⟨fun h => by omega, fun h => rfl⟩, rfl⟩
            case rest =>
              clear HMM
              obtain ⟨now', rfl, n1, n2, hc', rfl⟩ := hcut
              obtain ⟨S2, L2, hI, hF, hB, hQ, hS, hT, hG⟩ := hA.out
              have HI := Lib.hid hI
              have HF := Lib.hid hF
              have HB := Lib.hid hB
              have HQ := Lib.hid hQ
              have HS := Lib.hid hS
              have HT := Lib.hid hT
              have HG2 := Lib.hid hG
              clear hA hI hF hB hQ hS hT hG
              go_wp2_with fail
              refine (HC.out.due S2 p L2 now' _ HI.out (by unfold I64; omega)).mono ?_
              rintro e w4 ⟨S3, A, n, c, rfl, hn, hrow, h4, hs4, ho4, hd4⟩
              have AI := Lib.hid (show AtI IsW w p g wr.heap.size A n c (Tm.due now' L2) (mark (tld z0 k last) ((Tm.due now' L2).take 0)) (Q2 z0 k now') w4 from
                ⟨S3, _, h4, HF.out.sub hs4 HB.out.size, Below.out HB.out ho4 HF.out HB.out.size, q2_rest HQ.out (by omega), Out.not hs4 HS.out (lt_of_blk HT.out), ho4.blk HT.out HS.out, HG2.out, hrow,
                  fun gl hgl => ⟨hd4 gl hgl, by have := (hrow.lt gl hgl).1; have := lt_of_blk HT.out; omega⟩⟩)
              have HN := Lib.hid hn
              have HNB := Lib.hid hrow
              have hid := Lib.hid (HC.out.srt HI.out).2
              have hnb : (n : Int) ≤ 1000000 := by
                have h1 : n ≤ L2.length := by rw [hn]; exact List.length_filter_le _ _
                have h2 := HQ.out.1
                omega
              clear h4 hs4 ho4 hd4 hrow hn HI HF HB HS HT HG2
              obtain ⟨wp, rfl⟩ : ∃ wp : World, wp = wr := ⟨_, rfl⟩
              go_wp2_with fail
              go_loopw [13] (fun s wx => ∃ q : Nat, q ≤ n ∧ s = .int .i64 q ∧ Hid (AtI IsW w p g wp.heap.size A n c (Tm.due now' L2) (mark (tld z0 k last) ((Tm.due now' L2).take q)) (Q2 z0 k now') wx)) (fun s _ => n - (intOf s).toNat)
              case atStart => exact ⟨0, by omega, rfl, AI⟩
              case round =>
                obtain ⟨q, hq, rfl, hA⟩ := hrel
                clear AI
                by_cases hlt3 : q < n
                · obtain ⟨S5, L5, hI, hF, hB, hQ, hS, hT, hG, hrow, hd⟩ := hA.out
                  obtain ⟨x, hx⟩ : ∃ x, (Tm.due now' L2)[q]? = some x := ⟨_, List.getElem?_eq_getElem (by have := HN.out; omega)⟩
                  obtain ⟨j, hj, rfl, j2, j3, hTj⟩ := mark_ahead HQ.out hid.out hx
                  obtain ⟨gl, rfl⟩ := row_at hrow (by omega)
                  have hc0 := (hrow.cellAt (q * 2) (by omega)).trans (tcells_get _ _ _ hx).1
                  have hc1 := (hrow.cellAt (q * 2 + 1) (by omega)).trans (tcells_get _ _ _ hx).2
                  have HI := Lib.hid hI
                  have HF := Lib.hid hF
                  have HB := Lib.hid hB
                  have HQ5 := Lib.hid hQ
                  have HS := Lib.hid hS
                  have HT := Lib.hid hT
                  have HG2 := Lib.hid hG
                  have HR := Lib.hid hrow
                  have HD := Lib.hid hd
                  have HX := Lib.hid hx
                  have HTJ := Lib.hid hTj
                  clear hA hI hF hB hQ hS hT hG hrow hd hx hTj
                  dsimp only at hc0 hc1
                  generalize hz : z0.getD j 0 = y at hc0 hc1 j2 j3
                  have HZ := Lib.hid hz
                  clear hz
                  obtain ⟨b0, o0, rfl⟩ := H0.out.at_ (by omega)
                  have hcell := H0.out.cell (HB.out.alloc HB.out.size (.cells #[Value.int .i64 (j : Int), Value.int .i64 y] 33)) (show j < len0 by omega)
                  have htl : (wr.alloc (.cells #[Value.int .i64 (j : Int), Value.int .i64 y] 33)).heap[g]? = _ := (Below.heap_alloc _ _ _ (lt_of_blk HT.out)).trans HT.out
                  have htc : (wr.alloc (.cells #[Value.int .i64 (j : Int), Value.int .i64 y] 33)).cell? ⟨g, j, none⟩ = some (.int .i64 0) := by
                    rw [cell_of_row _ g _ _ 3 (0, 0) htl]
                    simp [ints, HTJ.out]
                  have htf : (wr.alloc (.cells #[Value.int .i64 (j : Int), Value.int .i64 y] 33)).frozen? ⟨g, j, none⟩ = false := frozen_of_row _ g j _ 3 htl
                  rw [HZ.out] at hcell
                  clear htl
                  have q1 : decide ((j : Int) < 0) = false := decide_eq_false (by omega)
                  have q2 : decide ((k : Int) ≤ (j : Int)) = false := decide_eq_false (by omega)
                  have q2' : decide (k ≤ j) = false := decide_eq_false (by omega)
                  have q3 : (y != y) = false := by simp
                  have q4 : decide (now' < y) = false := decide_eq_false (by omega)
                  have q5 : decide (y ≤ last) = false := decide_eq_false (by omega)
                  go_wp2_with fail
                  go_quiet (fail)
                  go_wp2_with fail
                  go_roundw
                  case rel => exact ⟨q + 1, by omega, by go_num, atI_next HC.out HI.out HF.out HB.out HQ5.out HS.out HT.out HG2.out HR.out HD.out HX.out _ _⟩
                  case measure => simp [intOf]; omega
                · obtain rfl : q = n := by omega
                  have A2 := Lib.hid (show AtT IsW w p g (tld z0 k now') (Q2 z0 k now') wr from by
                    obtain ⟨S5, L5, hI, hF, hB, hQ, hS, hT, hG, hrow, hd⟩ := hA.out
                    rw [List.take_of_length_le (by have := HN.out; omega), mark_all HQ.out (by omega)] at hT
                    exact ⟨S5, L5, hI, hF, hB, hQ, hS, hT, hG⟩)
                  clear hA
                  go_wp2_with fail
                  go_roundw
                  case rel => exact ⟨t + 1, now', now', by omega, by go_num, rfl, rfl, by omega, by omega, by omega, by omega, hc', A2⟩
                  case measure => simp [intOf]; omega
          · have ht2 : M < t := by omega
            have hl := hc.out.2 (by omega)
            subst hl
            clear HMM hlt
            go_wp2_with fail
            go_loop [15] (fun s => ∃ q : Nat, q ≤ k ∧ s = .int .i64 q) (fun s => k - (intOf s).toNat)
            case atStart => exact ⟨0, by omega, rfl⟩
            case round =>
              obtain ⟨q, hq, rfl⟩ := hrel
              by_cases hlt4 : q < k
              · have htc : wr.cell? ⟨g, q, none⟩ = some (.int .i64 1) := by
                  obtain ⟨S5, L5, hI, hF, hB, hQ, hS, hT, hG⟩ := hA.out
                  have h7 := (H0.out.u16 (i := q)).2
                  rw [cell_of_row _ g _ _ 3 (0, 0) hT]
                  have := tld_get (zs := z0) (last := 7000000) hlt4
                  rw [if_pos (by omega)] at this
                  simp [ints, this]
                go_wp2_with fail
                go_round
                case rel => exact ⟨q + 1, by omega, by go_num⟩
                case measure => simp [intOf]; omega
              · obtain rfl : q = k := by omega
                obtain ⟨S5, L5, hI, hF, hB, hQ, hS, hT, hG⟩ := hA.out
                have hL := q2_last hQ (fun j => by have := (H0.out.u16 (i := j)).2; omega)
                subst hL
                have HI := Lib.hid hI
                have HF := Lib.hid hF
                have HB := Lib.hid hB
                clear hA hI hF hB hQ hS hT hG
                go_wp2_with fail
                refine (HC.out.list S5 p [] _ HI.out).mono ?_
                rintro e w9 ⟨S8, A, n, c, rfl, hn, hrow, h9, hs9, ho9, hd9⟩
                have B9 := Lib.hid (Below.out HB.out ho9 HF.out HB.out.size)
                obtain rfl : n = 0 := hn
                clear hrow h9 hs9 ho9 hd9
                go_wp2_with fail
                go_ret
                exact ⟨rfl, B9.out⟩
end
end Go.Proofs.Ytpdhgjhcjnpkeaa
