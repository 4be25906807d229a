import Derived.Test.YtccilbgbjikmpaaTsY
import Derived.Test.YtccilbgbjikmpaaCk36
import Derived.Deep.DeepCutAuto
import Derived.BigQuiet
namespace Go.Proofs.Ytccilbgbjikmpaa
open Go Go.RowKit
set_option linter.unusedVariables false
set_option linter.unusedSimpArgs false
/-! The law TsnTells. -/
theorem sub_len : ∀ (A : List Nat) {B : List Nat}, A.Nodup → (∀ x ∈ A, x ∈ B) → A.length ≤ B.length := by
  intro A
  induction A with
  | nil => intro B _ _; simp
  | cons a A ih =>
    intro B hn hs
    rw [List.nodup_cons] at hn
    have h1 := ih (B := B.erase a) hn.2 fun x hx => (List.mem_erase_of_ne (fun e => hn.1 (by subst e; exact hx))).2 (hs x (by simp [hx]))
    have h2 := List.length_erase_of_mem (hs a (by simp))
    have h3 : 0 < B.length := List.length_pos_of_mem (hs a (by simp))
    rw [List.length_cons]; omega
theorem GotR.len {C : Nat} {A : List Nat} {d : List Int} {x : Int} {r : Int} {C1 : Nat} {A1 : List Nat} {d1 : List Int} (h : GotR C A d x r C1 A1 d1) : A1.length ≤ A.length + 1 := by
  rcases h with ⟨_, _, _, h, _⟩ | ⟨_, _, _, h, _⟩ | ⟨_, _, h, _⟩
  · rw [h]; omega
  · rw [h]; omega
  · have := sub_len A1 h.nd (B := A ++ [C + dist C x]) (fun y hy => ((h.mem y).1 hy).1)
    simpa using this
theorem row_capG {w : World} {base : Nat} {E : TypeId} {s : Nat} {B : Option Addr} {n c : Nat} {xs : List Value} (h : w.ownsRow base E s (.slice B n c) n xs) : n ≤ c := by
  rcases h.2 with ⟨h1, h2⟩ | ⟨g, cap, cur, hv, _, _, hnc, _⟩
  · omega
  · injection hv with _ _ hv; omega
theorem sorted_eq {L L2 A : List Nat} (h : L.Perm A ∧ L.Pairwise (· < ·)) (h2 : L2.Perm A ∧ L2.Pairwise (· < ·)) : L2 = L :=
  List.Perm.eq_of_pairwise (le := fun a b : Nat => a < b) (fun a b _ _ h1 h2 => by omega) h2.2 h.2 (h2.1.trans h.1.symm)
theorem fieldD (x y : Int) (P D : Option Addr) (n c m e : Nat) (W : World) : (Instr.field 35 (.agg #[.int .u32 x, .int .u32 y, .slice P n c, .slice D m e]) 3).run Try.prog W = .ok (.slice D m e) W := by kernel_rfl
theorem flat_take {G : List (Int × Int)} {i : Nat} {g : Int × Int} (h : G[i]? = some g) : Ts.flat (G.take (i + 1)) = Ts.flat (G.take i) ++ Ts.run1 g := by rw [take_snoc' h, Ts.flat_snoc]
theorem run1_len (g : Int × Int) : (Ts.run1 g).length = (g.2 + 1 - g.1).toNat := by unfold Ts.run1; simp
theorem flat_at {G : List (Int × Int)} {i : Nat} {f t : Int} (h : G[i]? = some (f, t)) {j : Nat} (hj : j < (t + 1 - f).toNat) : (Ts.flat G)[(Ts.flat (G.take i)).length + j]? = some (f + (j : Int)) := by
  have e : Ts.flat G = Ts.flat (G.take (i + 1)) ++ Ts.flat (G.drop (i + 1)) := by
    unfold Ts.flat
    rw [← List.flatMap_append, List.take_append_drop]
  rw [e, flat_take h, List.append_assoc, List.getElem?_append_right (by omega), Nat.add_sub_cancel_left, List.getElem?_append_left (by rw [run1_len]; exact hj)]
  unfold Ts.run1
  simp [hj]
theorem isT_lt {B : Nat} {w : World} {pb C : Nat} {A : List Nat} {d : List Int} (h : IsT B w pb C A d) : pb < w.heap.size := by obtain ⟨_, _, _, h1, _⟩ := h; exact lt_of_blk h1.top
def TelAt (w : World) (pb i : Nat) (wr : World) : Prop := ∃ C A d, IsT w.heap.size wr pb C A d ∧ A.length ≤ i ∧ Up w wr
set_option maxRecDepth 100000 in
set_option maxHeartbeats 4000000 in
theorem law_tells (f : Int) (A0 : Option Addr) (m c : Nat) (xs : List Int) (w : World) (hf : 0 ≤ f ∧ f < 4294967296) (hin : InD w A0 m c xs) (hm : m ≤ 140737488351232) :
    Calls Try.prog 4 #[.int .u32 f, .slice A0 m c] w (RetB true w) := by
  obtain ⟨hf0, hf1⟩ := hf
  have HIN := Lib.hid hin
  have hcap := hin.cap
  clear hin
  go_enter Try.func4, Try.ntmps4
  go_wp2_with fail
  refine (new_t f w hf0 hf1).mono ?_
  rintro e w1 ⟨pb, rfl, hT, hu⟩
  have HT := Lib.hid hT
  have HU := Lib.hid hu
  clear hT hu
  go_wp2_with fail
  refine (answers_ok w1).mono ?_
  rintro e w2 ⟨rfl, hu⟩
  have HS := Lib.hid (show TelAt w pb 0 w2 from ⟨_, [], [], HT.out.up hu.out, by simp, HU.out.trans hu.out⟩)
  clear HT HU hu
  go_wp2_with fail
  go_loopw [6] (fun s wr => ∃ i : Nat, i ≤ 60 ∧ i ≤ m ∧ s = .int .i64 (i : Int) ∧ Hid (TelAt w pb i wr)) (fun s _ => 60 - (intOf s).toNat)
  case atStart => exact ⟨0, Nat.zero_le _, Nat.zero_le _, rfl, HS⟩
  case round =>
    clear HS
    obtain ⟨i, hi, him, rfl, hA⟩ := hrel
    by_cases hgo : i < m ∧ i < 60
    · obtain ⟨h1, h2⟩ := hgo
      have hd1 : (i : Int) < (m : Int) := by omega
      have hd2 : (i : Int) < 60 := by omega
      have hix : i < xs.length := by rw [HIN.out.len]; exact h1
      obtain ⟨C, A, d, hT, hl, hU⟩ := hA.out
      obtain ⟨go, o, rfl, _, hc⟩ := HIN.out.cells (by intro e; rw [ints, List.map_eq_nil_iff] at e; rw [e] at hix; simp at hix)
      obtain ⟨b, hbe⟩ : ∃ b, b = xs[i] := ⟨_, rfl⟩
      have q0 := cell_up (hc i (.int .u32 b) (by rw [hbe]; simp [ints, hix])) hU
      obtain ⟨y, hy⟩ : ∃ y, IntKind.u32.wrap (f + b) = y := ⟨_, rfl⟩
      have HYB := Lib.hid (show 0 ≤ y ∧ y < 4294967296 by rw [← hy, IntKind.wrap_u32']; omega)
      have HT := Lib.hid hT
      have HL := Lib.hid hl
      have HU := Lib.hid hU
      clear hT hl hU hc hbe hix hA
      go_wp2_with fail
      refine (got_t w.heap.size pb C A d y wr HT.out HYB.out HU.out.size).mono ?_
      rintro e w3 ⟨r, C1, A1, d1, rfl, hg, hT, hb⟩
      have HN := Lib.hid (show TelAt w pb (i + 1) w3 from ⟨C1, A1, d1, hT, Nat.le_trans hg.len (by have := HL.out; omega), Below.trans HU.out hb⟩)
      clear hg hT hb q0 hy
      go_wp2_with fail
      go_roundw
      case rel => exact ⟨i + 1, by omega, by omega, by go_num, HN⟩
      case measure => simp [intOf]; omega
    · have hex : (decide (i < m) = false ∧ decide ((i : Int) < (m : Int)) = false) ∨ (decide (i < m) = true ∧ decide ((i : Int) < (m : Int)) = true ∧ decide (i < 60) = false ∧ decide ((i : Int) < 60) = false) := by
        by_cases h1 : i < m
        · right; simp; omega
        · left; simp; omega
      obtain ⟨C, A, d, hT, hl, hU⟩ := hA.out
      have HT := Lib.hid hT
      have HL := Lib.hid (show A.length ≤ 64 by omega)
      have HU := Lib.hid hU
      clear hT hl hU hA hgo
      rcases hex with ⟨hd1, hd2⟩ | ⟨hd1, hd2, hd3, hd4⟩
      all_goals
        go_wp2_with fail
        have HTR := HT
        refine (ahead_t w.heap.size pb C A d wr HT.out).mono ?_
        rintro e w3 ⟨L, n, B, cB, rfl, hn, hL, hrow, hu⟩
        have HN := Lib.hid hn
        have HLL := Lib.hid hL
        have HROW := Lib.hid hrow
        have HT3 := Lib.hid (HT.out.up hu)
        have HU3 := Lib.hid (show Up w w3 from HU.out.trans hu)
        clear hn hL hrow hu HT HU
        go_wp2_with fail
        refine (tell_t w.heap.size pb C A d 9 w3 HT3.out HL.out).mono ?_
        rintro e w4 ⟨L2, G, n2, m2, P, cP, D, c2, rfl, y1, y2, y3, y4, y5, y6, y7, y8, y9, y10, y11, y12, y13⟩
        have hLe := sorted_eq HLL.out y4
        subst hLe
        have hn64 : n2 ≤ 64 := by
          have h1 := y3.len
          have h2 := y4.1.length_eq
          have h3 := HL.out
          rw [List.length_map] at h1
          omega
        have hIG : InG w4 P n2 cP G := ⟨row_cells y5, y3.gapOk, row_capG y5, y1.symm⟩
        have hID : InD w4 D m2 c2 d := ⟨y6.cells, y12, OwnI.cap y6, y2.symm⟩
        have hck : Ck.chkD ⟨key C, 9, G, d⟩ = 0 := by
          unfold Ck.chkD
          rw [if_neg (by rw [y3.ap]; simp), if_neg (by simp only; omega)]
        have hok : Ck.HrdOk ⟨key C, 9, G, d⟩ := ⟨key_bd C, ⟨by show (0 : Int) ≤ 9; decide, by show (9 : Int) < 4294967296; decide⟩, y3.gapOk, y12⟩
        have HFH := Lib.hid (fun w5 (hu : Up w4 w5) => (show Calls Try.prog 13 #[.agg #[.int .u32 (key C), .int .u32 9, .slice P n2 cP, .slice D m2 c2]] w5 _ from rfromD_ok ⟨key C, 9, G, d⟩ P D n2 cP m2 c2 w5 (hIG.up hu) (hID.up hu) hck hok))
        have Y1 := Lib.hid y1
        have Y3 := Lib.hid y3
        have Y5 := Lib.hid y5
        have Y7 := Lib.hid y7
        have Y8 := Lib.hid y8
        have Y9 := Lib.hid y9
        have Y10 := Lib.hid y10
        have HU4 := Lib.hid (show Up w w4 from HU3.out.out_ y8 (fun k hk => by rw [hk]; exact y10))
        have HLP := Lib.hid y4.1.length_eq
        clear y1 y2 y3 y4 y5 y6 y7 y8 y9 y10 y11 y12 y13 hIG hID hck hok HLL HT3
        unfold heV
        go_upto_region 10 with (fail)
        go_wp2_with fail
        refine (HFH.out _ (up_alloc _ _)).mono ?_
        rintro e w5 ⟨A5, N5, c5, rfl, _, _, hu5⟩
        have hq4 := new_at w4 (.cells #[.int .u32 (key C), .int .u32 9, .slice P n2 cP, .slice D m2 c2] 35)
        have hq5 := (hu5.out.block _ (lt_of_blk hq4)).trans hq4
        have hu45 : Up w4 w5 := (up_alloc _ _).trans hu5.out
        obtain ⟨hb, hhb⟩ : ∃ hb, hb = w4.heap.size := ⟨_, rfl⟩
        rw [← hhb] at hq5 ⊢
        unfold chV
        go_upto_region 11 with (fail)
        rw [← hhb]
        obtain ⟨w6, hw6⟩ : ∃ w6, w6 = w5.alloc (.cells #[.int .u8 3, .int .u8 0, .slice A5 N5 c5] 38) := ⟨_, rfl⟩
        have hu6 := up_alloc w5 (.cells #[.int .u8 3, .int .u8 0, .slice A5 N5 c5] 38)
        rw [← hw6] at hu6 ⊢
        have hq6 := (hu6.block _ (lt_of_blk hq5)).trans hq5
        have hu46 : Up w4 w6 := hu45.trans hu6
        have HT6 := Lib.hid (Y7.out.up hu46)
        have HU46 := Lib.hid hu46
        have HQ6 := Lib.hid hq6
        have HHB := Lib.hid hhb
        clear hu6 hu46 hw6 hq5 hq4 hu45 hu5 hhb HFH
        obtain ⟨kc, hkc⟩ : ∃ kc, kc = key C := ⟨_, rfl⟩
        rw [← hkc] at HQ6 ⊢
        have HKC := Lib.hid hkc
        clear hkc hq6
        go_cut [69] (fun s wx => s = .bool false ∧ Hid (Out (fun k => k = pb) w6 wx))
        case first =>
          have q0 := cell_of HQ6.out (j := 0) rfl
          have q1 := cell_of HQ6.out (j := 1) rfl
          have HTD := Lib.hid (HT6.out.up (Up.drew w6))
          have hfd := fieldD
          go_region_with (first
            | (go_at_call 10; refine (cum_t w.heap.size pb C A [] _ HTD.out).mono ?_; rintro e w' ⟨rfl, rfl⟩; rw [← HKC.out])
            | (go_at_call 12; refine (tell_t w.heap.size pb C A [] 9 _ HTD.out HL.out).mono ?_; rintro e w7 ⟨L7, G7, n7, m7, P7, cP7, D7, c7, rfl, _, z2, _, _, _, _, _, z8, _⟩; obtain rfl : m7 = 0 := z2; unfold heV))
          all_goals
            have HZ8 := Lib.hid (show Out (fun k => k = pb) w6 w7 from ((Up.drew w6).out _).trans z8 (Sub.refl _ _))
            go_wp2_with fail
            go_meet
            exact ⟨rfl, HZ8⟩
        case rest =>
          obtain ⟨rfl, ho⟩ := hcut
          have HUC := Lib.hid (show Up w wc from (HU4.out.trans HU46.out).out_ ho.out (fun k hk => by rw [hk]; exact Y10.out))
          have hpz := Y9.out
          have hw34 : w3.heap.size ≤ w4.heap.size := Y8.out.size
          have hw46 : w4.heap.size ≤ w6.heap.size := HU46.out.size
          have hpr : pb < wr.heap.size := isT_lt HTR.out
          have hbc : wc.heap[hb]? = some (.cells #[.int .u32 kc, .int .u32 9, .slice P n2 cP, .slice D m2 c2] 35 (0, 0)) := by
            rw [ho.out.block hb (lt_of_blk HQ6.out) (by have := HHB.out; omega)]; exact HQ6.out
          have hgc : Cells wc P (gapc G) := ((row_cells Y5.out).up HU46.out).outS ho.out (fun k hk e => by have := own_bdg Y5.out hk; omega)
          have hac : Cells wc B (ints .u32 (L2.map key)) := (((OwnI.cells HROW.out).outS Y8.out (fun k hk e => by have := own_bd HROW.out hk; omega)).up HU46.out).outS ho.out (fun k hk e => by have := own_bd HROW.out hk; omega)
          have HBC := Lib.hid hbc
          have HGC := Lib.hid hgc
          have HAC := Lib.hid hac
          clear hbc hgc hac ho hpz hw34 hw46 hpr
          go_wp2_with fail
          go_loopw [11, 12] (fun s11 s12 wv => ∃ gi nn : Nat, gi ≤ n2 ∧ s12 = .int .i64 (gi : Int) ∧ s11 = .int .i64 (nn : Int) ∧ Hid ((Ts.flat (G.take gi)).length = nn) ∧ Hid (Up wc wv)) (fun _ s12 _ => n2 - (intOf s12).toNat)
          case atStart => exact ⟨0, 0, Nat.zero_le _, rfl, rfl, Lib.hid rfl, Lib.hid (Up.refl _)⟩
          case round =>
            obtain ⟨gi, nn, hgi, rfl, rfl, hnn, huv⟩ := hrel
            have b0 := cell_up (cell_of HBC.out (j := 0) rfl) huv.out
            have b2 := cell_up (cell_of HBC.out (j := 2) rfl) huv.out
            by_cases hlt : gi < n2
            · have hgi1 : (gi : Int) < (n2 : Int) := by omega
              obtain ⟨gg, hgg⟩ : ∃ gg, G[gi]? = some gg := ⟨_, List.getElem?_eq_getElem (by rw [← Y1.out]; exact hlt)⟩
              obtain ⟨fr, te⟩ := gg
              have hgo := Y3.out.ok _ (List.mem_of_getElem? hgg)
              simp only at hgo
              obtain ⟨hg1, hg2, hg3⟩ := hgo
              obtain ⟨ga, go, rfl, _, hgc⟩ := HGC.out (by intro e; have := congrArg List.length e; rw [gapc_length, ← Y1.out] at this; simp at this; omega)
              have k0 := cell_up (hgc (gi * 2) _ (gapc_at hgg).1) huv.out
              have HG0 := Lib.hid (hgc (gi * 2) _ (gapc_at hgg).1)
              have HG1 := Lib.hid (hgc (gi * 2 + 1) _ (gapc_at hgg).2)
              have HGG := Lib.hid hgg
              obtain ⟨q, hq⟩ : ∃ q : Nat, q = (te + 1 - fr).toNat := ⟨_, rfl⟩
              have HQQ := Lib.hid hq
              have k1 := cell_up (hgc (gi * 2 + 1) _ (gapc_at hgg).2) huv.out
              rw [← Nat.add_assoc] at k1
              have HK1 := Lib.hid k1
              clear hgc hgg hq k1
              go_wp2_with fail
              have hn64b : n ≤ 64 := by rw [HN.out, HLP.out]; exact HL.out
              obtain ⟨wq, rfl⟩ : ∃ wq, wq = wr := ⟨_, rfl⟩
              have HHV := Lib.hid huv.out
              have HB0 := Lib.hid b0
              have HB2 := Lib.hid b2
              have HNN := Lib.hid hnn.out
              clear b0 b2 k0 hnn huv
              go_loopw [11, 13] (fun s11 s13 wv => ∃ (t v : Nat) (dv : Int), t ≤ q ∧ s13 = .int .i64 dv ∧ s11 = .int .i64 (v : Int) ∧ Hid (dv = fr + (t : Int)) ∧ Hid (v = nn + t) ∧ Hid (Up wq wv)) (fun _ s13 _ => (fr + (q : Int) - intOf s13).toNat)
              case atStart => exact ⟨0, nn, fr, Nat.zero_le _, rfl, rfl, Lib.hid (by simp), Lib.hid rfl, Lib.hid (Up.refl _)⟩
              case round =>
                obtain ⟨t, v, dv, ht, rfl, rfl, hdv, hv, hu⟩ := hrel
                have b0 := cell_up HB0.out hu.out
                have b2 := cell_up HB2.out hu.out
                have k1 := cell_up HK1.out hu.out
                by_cases hlt3 : t < q
                · have hle : dv ≤ te := by have := HQQ.out; have := hdv.out; omega
                  have hle0 : 2 ≤ dv := by have := hdv.out; omega
                  have hfa := flat_at HGG.out (j := t) (by have := HQQ.out; omega)
                  rw [HNN.out, Y3.out.fl, List.getElem?_map, ← hv.out] at hfa
                  obtain ⟨x, hx, hxe⟩ := Option.map_eq_some_iff.1 hfa
                  have hnt : v < n := by rw [HN.out]; exact (List.getElem?_eq_some_iff.1 hx).1
                  have hnt1 : (v : Int) < (n : Int) := by omega
                  have hv64 : v < 64 := by omega
                  obtain ⟨gb, gp, rfl, _, hac⟩ := HAC.out (by intro e; rw [ints, List.map_eq_nil_iff, List.map_eq_nil_iff] at e; rw [e] at hx; simp at hx)
                  have k2 := cell_up (hac v (.int .u32 (key x)) (by simp [ints, hx])) (HHV.out.trans hu.out)
                  have hsum : IntKind.u32.wrap (kc + dv) = key x := by rw [HKC.out, IntKind.wrap_u32']; have := hdv.out; unfold dI at hxe; unfold key; omega
                  generalize key x = kx at k2 hsum
                  clear hfa hx hxe hac
                  have hd9 : decide (n ≤ v) = false := by simp; omega
                  have hd8 : decide ((n : Int) ≤ (v : Int)) = false := by simp; omega
                  have hd7 : decide (dv ≤ te) = true := by simp; omega
                  go_upto_region 20 with (fail)
                  go_quiet (fail)
                  clear k2 b0 b2 k1 hsum
                  have HU2 := Lib.hid (hu.out.trans (up_drewN wr nq))
                  go_wp2_with fail
                  go_roundw
                  case rel => exact ⟨t + 1, v + 1, dv + 1, by omega, rfl, by go_num, Lib.hid (by have := hdv.out; omega), Lib.hid (by have := hv.out; omega), HU2⟩
                  case measure => have := hdv.out; simp [intOf]; omega
                · obtain rfl : t = q := by omega
                  have hd7 : decide (dv ≤ te) = false := by have := hdv.out; have := HQQ.out; simp; omega
                  have hgt : te < dv := by have := hdv.out; have := HQQ.out; omega
                  have HF2 := Lib.hid (show (Ts.flat (G.take (gi + 1))).length = v by
                    rw [flat_take HGG.out, List.length_append, run1_len, HNN.out, hv.out]
                    have := HQQ.out
                    simp only
                    omega)
                  have HU2 := Lib.hid (HHV.out.trans hu.out)
                  go_wp2_with fail
                  clear b0 b2 k1
                  go_roundw
                  case rel => exact ⟨gi + 1, v, by omega, by go_num, rfl, HF2, HU2⟩
                  case measure => simp [intOf]; omega
            · obtain rfl : gi = n2 := by omega
              have hnv : nn = n := by
                have h1 := hnn.out
                rw [List.take_of_length_le (by rw [← Y1.out]; exact Nat.le_refl _), Y3.out.fl, List.length_map] at h1
                rw [← h1, HN.out]
              subst hnv
              have HU2 := Lib.hid (HUC.out.trans huv.out)
              go_wp2_with fail
              go_ret
              exact ⟨by simp, HU2⟩
end Go.Proofs.Ytccilbgbjikmpaa
