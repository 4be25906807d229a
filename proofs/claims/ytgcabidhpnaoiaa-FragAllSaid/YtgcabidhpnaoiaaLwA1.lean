import Derived.Test.YtgcabidhpnaoiaaLwC
import Derived.Test.YtgcabidhpnaoiaaFgD
namespace Go.Proofs.Ytgcabidhpnaoiaa
open Go Go.RowKit Go.Shelf Fg
set_option linter.unusedVariables false
set_option linter.unusedSimpArgs false
/-! FragAll: the law's own cut. -/
namespace Fg
/-- The messages of a list, as they lie. -/
structure LayOf (L : Lay) (nx : Nat → Nat) (F i : Nat) (l : List CtB) : Prop where
  lay : LayC L nx
  f : L.F = F
  c : L.C = i
  lab : ∀ j x, l[j]? = some x → j < i → L.st j = x.st ∧ L.un j = x.un ∧ L.bs j = x.bs
theorem LayOf.snoc {L : Lay} {nx nx' : Nat → Nat} {F i : Nat} {l : List CtB} {x : CtB} {l1 : List Pc} (h : LayOf L nx F i l) (hx : l[i]? = some x) (hi : i < 20) (hc : CutR nx x.st x.un x.sz x.bs 0 l1 nx') (hn : L.N + l1.length ≤ 300) :
    l1.length = npt x.sz.toNat x.bs.length ∧ l1 = cutL x.st (if x.un = true then 0 else nx x.st) x.un x.sz.toNat x.bs ∧ LayOf (L.snoc x.st (if x.un = true then 0 else nx x.st) x.un x.sz.toNat x.bs) nx' F (i + 1) l := by
  rcases hc with ⟨_, e, _⟩ | ⟨_, _, e, _⟩ | ⟨hb, h1, _, rfl, rfl⟩
  · cases e
  · cases e
  · unfold CutBad at hb
    have hl := cutL_len x.st (if x.un = true then 0 else nx x.st) x.un x.sz.toNat x.bs
    rw [hl] at hn
    refine ⟨hl, rfl, layC_snoc h.lay (by omega) (by omega) (by omega) (by omega) hn (by rw [h.c]; exact hi), h.f, by rw [← h.c]; rfl, fun j y hy hj => ?_⟩
    simp only [Lay.snoc]
    by_cases e : j < i
    · rw [← h.c] at e
      simp only [if_pos e]
      exact h.lab j y hy (by rw [← h.c]; exact e)
    · obtain rfl : j = i := by omega
      rw [hx] at hy
      cases hy
      have e2 : ¬ j < L.C := by rw [h.c]; omega
      simp only [if_neg e2]
      exact ⟨trivial, trivial, trivial⟩
def tsnT (t : Nat) (x : PcB) : PcB := { x with p := { x.p with tsn := t } }
/-- What the law's cut answers. -/
def LCutPost (F : Nat) (l : List CtB) (w : World) (e : Ending) (w' : World) : Prop :=
  ∃ (ok : Bool) (lo : List PcB) (A : Option Addr) (c : Nat), e = .returned (.tuple #[.slice A lo.length c, .bool ok]) ∧ Hid (ok = true → ∃ L nx, LayOf L nx F (min l.length 20) l ∧ ps lo = L.list) ∧
    Hid (w'.ownsRow w.heap.size 51 7 (.slice A lo.length c) lo.length (lo.flatMap pcc)) ∧ Hid (∀ y ∈ lo, OwnI .u8 5 w.heap.size w' y.A y.p.bs.length y.c y.p.bs) ∧ Hid (Up w w')
end Fg
set_option maxRecDepth 100000 in
set_option maxHeartbeats 4000000 in
theorem lcut_any (A : Option Addr) (n c F : Nat) (l : List CtB) (w : World) (hA : InC w A n c l) (hF : F < 4294967296) :
    Calls Try.prog 20 #[.slice A n c, .int .u32 (F : Int)] w (LCutPost F l w) := by
  have HA := Lib.hid hA
  have HF := Lib.hid hF
  clear hA hF
  go_enter Try.func20, Try.ntmps20
  go_upto_region 2 with (fail)
  have HD2 : Hid (CutB 29 (w.alloc (.cells #[.int .u16 0, .int .u16 0, .int .u16 0, .int .u16 0, .int .u16 0, .int .u16 0, .int .u16 0, .int .u16 0] 29)) w.heap.size (fun _ => 0)) := Lib.hid (new_at w (.cells #[.int .u16 0, .int .u16 0, .int .u16 0, .int .u16 0, .int .u16 0, .int .u16 0, .int .u16 0, .int .u16 0] 29))
  have HU2 := Lib.hid (up_alloc w (.cells #[.int .u16 0, .int .u16 0, .int .u16 0, .int .u16 0, .int .u16 0, .int .u16 0, .int .u16 0, .int .u16 0] 29))
  generalize w.alloc (.cells #[.int .u16 0, .int .u16 0, .int .u16 0, .int .u16 0, .int .u16 0, .int .u16 0, .int .u16 0, .int .u16 0] 29) = w2 at HD2 HU2 ⊢
  obtain ⟨b, hb⟩ : ∃ b, b = w.heap.size := ⟨_, rfl⟩
  rw [← hb] at HD2 ⊢
  have HBW := Lib.hid hb
  clear hb
  have HL0 : Hid (LayOf (Lay.none F) (fun _ => 0) F 0 l) := Lib.hid ⟨layC_none HF.out, rfl, rfl, fun j x _ h => absurd h (Nat.not_lt_zero _)⟩
  go_wp2_with fail
  go_loopw [7, 8] (fun v7 iv wr => ∃ (i : Nat) (nx : Nat → Nat) (L : Lay) (lo : List PcB) (Ao : Option Addr) (N co : Nat), v7 = .slice Ao N co ∧ iv = .int .i64 (i : Int) ∧ i ≤ n ∧ i ≤ 20 ∧ N ≤ 300 ∧ Hid (N = lo.length) ∧ Hid (LayOf L nx F i l) ∧ Hid (ps lo = L.list) ∧ Hid (CutB 29 wr b nx) ∧ Hid (wr.ownsRow w.heap.size 51 7 (.slice Ao N co) N (lo.flatMap pcc)) ∧ Hid (∀ y ∈ lo, OwnI .u8 5 w.heap.size wr y.A y.p.bs.length y.c y.p.bs) ∧ Hid (Up w wr)) (fun _ iv _ => 20 - (intOf iv).toNat)
  case atStart => exact ⟨0, fun _ => 0, Lay.none F, [], none, 0, 0, rfl, rfl, by omega, by omega, by omega, Lib.hid rfl, HL0, Lib.hid rfl, HD2, Lib.hid (World.ownsRow_nil _ _ _ _), Lib.hid (fun y hy => by cases hy), HU2⟩
  case round =>
    obtain ⟨i, nx, L, lo, Ao, N, co, rfl, rfl, hin, hi20, hN, hNl, hL, hps, hC, hR, hBY, hU⟩ := hrel
    by_cases hlt : i < n ∧ i < 20
    · obtain ⟨hl1, hl2⟩ := hlt
      have d1 : decide ((i : Int) < (n : Int)) = true := by simp; omega
      have d2 : decide ((i : Int) < 20) = true := by simp; omega
      have hiI : (i : Int) < (n : Int) := by omega
      obtain ⟨x, g, o, hx, rfl, hc, hxb, hxl⟩ := (HA.out.up hU.out).at_ hl1
      have HX0 := Lib.hid (HA.out.by_ x (List.mem_of_getElem? hx)).1
      have k0 : wr.cell? ⟨g, o + i * 4, none⟩ = some (.int .u16 x.st) := hc 0 _ rfl
      have k1 : wr.cell? ⟨g, o + i * 4 + 1, none⟩ = some (.slice x.A x.bs.length x.c) := hc 1 _ rfl
      have k2 : wr.cell? ⟨g, o + i * 4 + 2, none⟩ = some (.bool x.un) := hc 2 _ rfl
      have k3 : wr.cell? ⟨g, o + i * 4 + 3, none⟩ = some (.int .i64 x.sz) := hc 3 _ rfl
      have HXB := Lib.hid hxb
      have HX := Lib.hid hx
      clear hx hc hxb
      go_upto_region 6 with (fail)
      go_cut [9, 10] (fun v9 v10 wx => ∃ (r : Int) (l1 : List PcB) (A1 : Option Addr) (c1 : Nat) (nx1 : Nat → Nat), v9 = .slice A1 l1.length c1 ∧ v10 = .int .i64 r ∧ Hid (CutR nx x.st x.un x.sz x.bs r (ps l1) nx1) ∧ Hid (CutB 29 wx b nx1) ∧ Hid (wx.ownsRow w.heap.size 51 7 (.slice A1 l1.length c1) l1.length (l1.flatMap pcc)) ∧ Hid (∀ y ∈ l1, OwnI .u8 5 w.heap.size wx y.A y.p.bs.length y.c y.p.bs) ∧ Hid (∀ k, blk? A1 = some k → wr.heap.size ≤ k) ∧ Hid (Out (fun k => k = b) wr wx))
      case first =>
        have hz6 : w.heap.size ≤ wr.heap.size := hU.out.size
        go_region_with (go_at_call 12; refine (rcut_any b x.st x.bs.length x.c x.A x.un x.sz x.bs nx wr.drew (HXB.out.up (Up.drew wr)) ((Up.drew wr).block _ (lt_of_blk hC.out) |>.trans hC.out)).mono ?_; rintro e w7 ⟨r7, l7, A7, c7, nx7, rfl, HR7, HC7, HROW7, HBY7, HO7⟩)
        all_goals
          have Z1 := Lib.hid (row_mono HROW7.out hz6)
          have Z2 : Hid (∀ y ∈ l7, OwnI .u8 5 w.heap.size w7 y.A y.p.bs.length y.c y.p.bs) := Lib.hid (fun y hy => row_mono (HBY7.out y hy) hz6)
          have Z3 := Lib.hid (((Up.drew wr).out (fun k => k = b)).trans HO7.out (Sub.refl _ _))
          have Z4 : Hid (∀ k, blk? A7 = some k → wr.heap.size ≤ k) := Lib.hid (fun k hk => (row_lt HROW7.out hk).1)
          go_wp2_with fail
          go_meet
          exact ⟨r7, l7, A7, c7, nx7, rfl, rfl, HR7, HC7, Z1, Z2, Z4, Z3⟩
      case rest =>
        obtain ⟨r1, l1, A1, c1, nx1, rfl, rfl, HR1, HC1, HROW1, HBY1, HA1, HO1⟩ := hcut
        have hl4 : l1.length ≤ 4096 := by have := cut_len HR1.out; simpa [ps] using this
        have hsz : w.heap.size ≤ wr.heap.size := hU.out.size
        have hbw : b = w.heap.size := HBW.out
        have HU3 : Hid (Up w wc) := Lib.hid (Below.out hU.out HO1.out (fun k hk => by rw [hk, hbw]; exact Nat.le_refl _) hsz)
        have HR3 := Lib.hid (Out.own HO1.out hR.out (own_ne hR.out hC.out (by decide)))
        have HBY3 : Hid (∀ y ∈ lo, OwnI .u8 5 w.heap.size wc y.A y.p.bs.length y.c y.p.bs) := Lib.hid (fun y hy => Out.own HO1.out (hBY.out y hy) (own_ne (hBY.out y hy) hC.out (by decide)))
        have HAW : Hid (∀ k, blk? Ao = some k → k < wr.heap.size) := Lib.hid (fun k hk => (row_lt hR.out hk).2)
        obtain ⟨N1, hN1⟩ : ∃ N1, N1 = l1.length := ⟨_, rfl⟩
        rw [← hN1] at HROW1 hl4 ⊢
        have HN1 := Lib.hid hN1
        clear hN1 k0 k1 k2 k3 hR hBY hC hU HXB HO1 hsz hbw
        by_cases hr0 : r1 = 0
        · subst hr0
          have d5 : ((0 : Int) != 0) = false := by decide
          by_cases hbig : 300 < N + N1
          · have d6 : decide ((N : Int) + (N1 : Int) > 300) = true := by simp; omega
            go_wp2_with fail
            go_ret2; exact ⟨false, [], none, 0, rfl, Lib.hid (fun h => by cases h), Lib.hid (World.ownsRow_nil _ _ _ _), Lib.hid (fun y hy => by cases hy), HU3⟩
          · have d6 : decide ((N : Int) + (N1 : Int) > 300) = false := by simp; omega
            go_wp2_with fail
            obtain ⟨hnp, hcl, hLS⟩ := hL.out.snoc HX.out hl2 HR1.out (by
              have h1 := congrArg List.length hps.out
              have h2 := HN1.out
              have h3 := hNl.out
              simp only [ps, List.length_map, Lay.list, List.length_range] at h1 ⊢
              omega)
            have hLN : L.N = N := by
              have h1 := congrArg List.length hps.out
              have h3 := hNl.out
              simp only [ps, List.length_map, Lay.list, List.length_range] at h1
              omega
            have HLN := Lib.hid hLN
            generalize (if x.un = true then 0 else nx x.st) = q0 at hcl hLS
            have HLS := Lib.hid hLS
            have HCL := Lib.hid hcl
            have HNP : Hid (N1 = npt x.sz.toNat x.bs.length) := Lib.hid (by have h2 := HN1.out; simp only [ps, List.length_map] at hnp; omega)
            clear hnp hcl hLS hLN
            go_loopw [7, 11] (fun v7 kv wk => ∃ (k : Nat) (lk lo2 : List PcB) (A2 : Option Addr) (N2 c2 : Nat), v7 = .slice A2 N2 c2 ∧ kv = .int .i64 (k : Int) ∧ k ≤ N1 ∧ N2 = N + k ∧ Hid (N2 = lo2.length) ∧ Hid (lk.length = N1 ∧ ∀ j, k ≤ j → lk[j]? = l1[j]?) ∧ Hid (ps lo2 = L.list ++ (List.range k).map fun q => { cutPc x.st q0 x.un x.sz.toNat x.bs q with tsn := add L.F (L.N + q) }) ∧ Hid (CutB 29 wk b nx1) ∧ Hid (wk.ownsRow w.heap.size 51 7 (.slice A1 N1 c1) N1 (lk.flatMap pcc)) ∧ Hid (wk.ownsRow w.heap.size 51 7 (.slice A2 N2 c2) N2 (lo2.flatMap pcc)) ∧ Hid (∀ y ∈ lo2, OwnI .u8 5 w.heap.size wk y.A y.p.bs.length y.c y.p.bs) ∧ Hid (∀ y ∈ l1, OwnI .u8 5 w.heap.size wk y.A y.p.bs.length y.c y.p.bs) ∧ Hid (∀ q, blk? A2 = some q → blk? A1 = some q → False) ∧ Hid (Up w wk)) (fun _ kv _ => N1 - (intOf kv).toNat)
            case atStart => exact ⟨0, l1, lo, Ao, N, co, rfl, rfl, by omega, by omega, hNl, Lib.hid ⟨HN1.out.symm, fun _ _ => rfl⟩, Lib.hid (by rw [hps.out]; simp), HC1, HROW1, HR3, HBY3, HBY1, Lib.hid (fun q h1 h2 => by have h3 := HAW.out q h1; have h4 := HA1.out q h2; omega), HU3⟩
            case round =>
              obtain ⟨k, lk, lo2, A2, N2, c2, rfl, rfl, hk, rfl, hN2, hlk, hps2, hC2, hRk, hR2, hBY2, hB1, hne, hU4⟩ := hrel
              by_cases hkn : k < N1
              · have d7 : decide ((k : Int) < (N1 : Int)) = true := by simp; omega
                have hkI : (k : Int) < (N1 : Int) := by omega
                obtain ⟨y, hy⟩ : ∃ y, lk[k]? = some y := ⟨_, List.getElem?_eq_getElem (by rw [hlk.out.1]; exact hkn)⟩
                obtain ⟨g1, rfl⟩ := row_at hRk.out (by omega)
                have HY := Lib.hid hy
                have hys := hlk.out.2 k (Nat.le_refl _)
                have HY1 : Hid (y ∈ l1) := Lib.hid (List.mem_of_getElem? (hys.symm.trans hy))
                have r1 := (World.ownsRow.stored hRk.out (k * 7) (.int .u32 ((add F (N + k) : Nat) : Int))).1
                have e3 := rowG_set pcc 7 pcc_len (y := tsnT (add F (N + k)) y) hy (j := 0) (v := .int .u32 ((add F (N + k) : Nat) : Int)) (by omega) rfl
                rw [Nat.add_zero] at e3
                rw [e3] at r1
                have fz1 : wr.frozen? ⟨g1, k * 7, none⟩ = false := World.ownsRow.frozenAt hRk.out _
                obtain ⟨u1, hu1⟩ : ∃ u, wr.cell? ⟨g1, k * 7, none⟩ = some u := ⟨_, row_cell hRk.out (rowG_at pcc 7 pcc_len hy (j := 0) rfl)⟩
                have O5 := Lib.hid (setCell_out wr g1 (k * 7) (.int .u32 ((add F (N + k) : Nat) : Int)))
                have hy2 : (lk.set k (tsnT (add F (N + k)) y))[k]? = some (tsnT (add F (N + k)) y) := by rw [List.getElem?_set_self (by rw [hlk.out.1]; exact hkn)]
                have R5 := Lib.hid r1
                have hyp : y.p = cutPc x.st q0 x.un x.sz.toNat x.bs k := by
                  have h1 : (ps l1)[k]? = some y.p := by unfold ps; rw [List.getElem?_map, ← hys, hy]; rfl
                  rw [HCL.out] at h1
                  unfold cutL at h1
                  rw [List.getElem?_map, List.getElem?_range (by rw [← HNP.out]; exact hkn)] at h1
                  exact (Option.some.inj h1).symm
                have HYP := Lib.hid hyp
                have HY2 := Lib.hid hy2
                have e1 : ((F : Int) + ((N : Int) + (k : Int))) % 4294967296 = ((add F (N + k) : Nat) : Int) := by unfold add; omega
                clear hys r1 e3 hy2 hy hyp
                go_upto_region 13 with (fail)
                rw [e1]
                generalize wr.setCell ⟨g1, k * 7, none⟩ (.int .u32 ((add F (N + k) : Nat) : Int)) = w5 at O5 R5 ⊢
                clear fz1 hu1 e1
                have c0 : w5.cell? ⟨g1, k * 7, none⟩ = some (.int .u32 ((add F (N + k) : Nat) : Int)) := row_cell R5.out (rowG_at pcc 7 pcc_len HY2.out (j := 0) rfl)
                have c1' : w5.cell? ⟨g1, k * 7 + 1, none⟩ = some (.int .u16 (y.p.st : Int)) := row_cell R5.out (rowG_at pcc 7 pcc_len HY2.out (j := 1) rfl)
                have c2' : w5.cell? ⟨g1, k * 7 + 2, none⟩ = some (.int .u16 (y.p.sq : Int)) := row_cell R5.out (rowG_at pcc 7 pcc_len HY2.out (j := 2) rfl)
                have c3' : w5.cell? ⟨g1, k * 7 + 3, none⟩ = some (.bool y.p.bg) := row_cell R5.out (rowG_at pcc 7 pcc_len HY2.out (j := 3) rfl)
                have c4' : w5.cell? ⟨g1, k * 7 + 4, none⟩ = some (.bool y.p.en) := row_cell R5.out (rowG_at pcc 7 pcc_len HY2.out (j := 4) rfl)
                have c5' : w5.cell? ⟨g1, k * 7 + 5, none⟩ = some (.bool y.p.un) := row_cell R5.out (rowG_at pcc 7 pcc_len HY2.out (j := 5) rfl)
                have c6' : w5.cell? ⟨g1, k * 7 + 6, none⟩ = some (.slice y.A y.p.bs.length y.c) := row_cell R5.out (rowG_at pcc 7 pcc_len HY2.out (j := 6) rfl)
                have hg1 := row_lt hRk.out (k := g1) rfl
                have hwr : w.heap.size ≤ wr.heap.size := hU4.out.size
                have hw5 : wr.heap.size ≤ w5.heap.size := O5.out.size
                have U5 : Hid (Up w w5) := Lib.hid (Below.out hU4.out O5.out (fun q hq => by rw [hq]; exact hg1.1) hwr)
                have C5 := Lib.hid (O5.out.blk hC2.out (fun e => own_ne hRk.out hC2.out (by decide) g1 rfl e.symm))
                have R25 := Lib.hid (Out.own O5.out hR2.out (fun q hq e => by rw [ownBlock_slice] at hq; subst e; exact hne.out _ hq rfl))
                have B25 : Hid (∀ y ∈ lo2, OwnI .u8 5 w.heap.size w5 y.A y.p.bs.length y.c y.p.bs) := Lib.hid (fun y hy => Out.own O5.out (hBY2.out y hy) (fun q hq e => by subst e; exact rows_ne (hBY2.out y hy) hRk.out (by decide) _ hq rfl))
                have B15 : Hid (∀ y ∈ l1, OwnI .u8 5 w.heap.size w5 y.A y.p.bs.length y.c y.p.bs) := Lib.hid (fun y hy => Out.own O5.out (hB1.out y hy) (fun q hq e => by subst e; exact rows_ne (hB1.out y hy) hRk.out (by decide) _ hq rfl))
                clear hU4 O5 hC2 hR2 hBY2 hB1
                have Z9 := Lib.hid (new_at w5 (.cells #[.int .u32 ((add F (N + k) : Nat) : Int), .int .u16 (y.p.st : Int), .int .u16 (y.p.sq : Int), .bool y.p.bg, .bool y.p.en, .bool y.p.un, .slice y.A y.p.bs.length y.c] 51 : Obj))
                have U9 := Lib.hid (up_alloc w5 (.cells #[.int .u32 ((add F (N + k) : Nat) : Int), .int .u16 (y.p.st : Int), .int .u16 (y.p.sq : Int), .bool y.p.bg, .bool y.p.en, .bool y.p.un, .slice y.A y.p.bs.length y.c] 51 : Obj))
                have hs9 : w.heap.size ≤ (w5.alloc (.cells #[.int .u32 ((add F (N + k) : Nat) : Int), .int .u16 (y.p.st : Int), .int .u16 (y.p.sq : Int), .bool y.p.bg, .bool y.p.en, .bool y.p.un, .slice y.A y.p.bs.length y.c] 51 : Obj)).heap.size := Nat.le_trans (by omega) U9.out.size
                go_wp2_with (at_builtin; refine wpList_appendG rfl (.tmp 69) (.tmp 74) 35 rfl w.heap.size 51 (.agg #[.int .u32 0, .int .u16 0, .int .u16 0, .bool false, .bool false, .bool false, .slice none 0 0]) 7 40 Try.underlying35 info51 rfl (by omega) A2 (N + k) c2 (lo2.flatMap pcc) rfl (own_up R25.out U9.out) (some ⟨w5.heap.size, 0, none⟩) 1 1 (pcc (tsnT (add F (N + k)) y)) rfl rfl (fun _ => ⟨_, 0, rfl, lt_of_blk Z9.out, fun j u hu => by rw [Nat.zero_add]; exact cell_of Z9.out (by simpa [pcc, tsnT] using hu)⟩) (by simp [Value.oneCell', pcc]) (by omega) (by omega) hs9 ?_; intro A5 N5 c5 w6 HN5 HW5 HO5 HE5)
                go_roundw
                case measure => simp [intOf]; omega
                case rel =>
                  refine ⟨k + 1, lk.set k (tsnT (add F (N + k)) y), lo2 ++ [tsnT (add F (N + k)) y], A5, N5, c5, by simp, by go_num, by omega, by have := HN5.out; omega, Lib.hid ?_, Lib.hid ⟨by rw [List.length_set]; exact hlk.out.1, fun j hj => ?_⟩, Lib.hid ?_, ?_, ?_, ?_, Lib.hid (fun z hz => ?_), Lib.hid (fun z hz => ?_), Lib.hid (fun q h1 h2 => ?_), ?_⟩
                  · have := hN2.out; have := HN5.out; simp; omega
                  · rw [List.getElem?_set_ne (by omega)]; exact hlk.out.2 j (by omega)
                  · rw [List.range_succ, List.map_append, ← List.append_assoc, ← hps2.out]
                    unfold ps
                    rw [List.map_append]
                    congr 1
                    simp only [List.map_cons, List.map_nil, tsnT]
                    rw [HYP.out, hL.out.f, HLN.out]
                  · have C6 := (U9.out.block _ (lt_of_blk C5.out)).trans C5.out
                    exact Lib.hid (HO5.out.blk C6 (fun e => own_ne (own_up R25.out U9.out) C6 (by decide) _ (by rw [ownBlock_slice]; exact e) rfl))
                  · exact Lib.hid (Out.own HO5.out (own_up R5.out U9.out) (fun q hq e => hne.out q e hq))
                  · have h3 := HN5.out
                    have h4 := HW5.out
                    rw [h3] at h4 ⊢
                    rw [List.flatMap_append]
                    exact Lib.hid (by simpa using h4)
                  · rcases List.mem_append.1 hz with h3 | h3
                    · exact Out.own HO5.out (own_up (B25.out z h3) U9.out) (fun q hq e => rows_ne (own_up (B25.out z h3) U9.out) (own_up R25.out U9.out) (by decide) q hq (by rw [ownBlock_slice]; exact e))
                    · rw [List.mem_singleton.1 h3]
                      exact Out.own HO5.out (own_up (B15.out y HY1.out) U9.out) (fun q hq e => rows_ne (own_up (B15.out y HY1.out) U9.out) (own_up R25.out U9.out) (by decide) q hq (by rw [ownBlock_slice]; exact e))
                  · exact Out.own HO5.out (own_up (B15.out z hz) U9.out) (fun q hq e => rows_ne (own_up (B15.out z hz) U9.out) (own_up R25.out U9.out) (by decide) q hq (by rw [ownBlock_slice]; exact e))
                  · rcases HE5.out with e | e
                    · exact hne.out q (by rw [← e]; exact h1) h2
                    · rw [e] at h1
                      injection h1 with h1
                      have h3 := row_lt R5.out (k := q) h2
                      have h4 := U9.out.size
                      omega
                  · exact Lib.hid (Below.out (U5.out.trans U9.out) HO5.out (fun q hq => (row_lt R25.out hq).1) hs9)
              · obtain rfl : k = N1 := by omega
                have d7 : decide ((k : Int) < (k : Int)) = false := by simp
                go_wp2_with fail
                go_roundw
                case rel =>
                  refine ⟨i + 1, nx1, _, lo2, A2, N + k, c2, rfl, by go_num, by omega, by omega, by omega, hN2, HLS, Lib.hid ?_, hC2, hR2, hBY2, hU4⟩
                  rw [list_snoc, hps2.out, HNP.out]
                case measure => simp [intOf]; omega
        · have d5 : (r1 != 0) = true := by simp; exact hr0
          go_wp2_with fail
          go_ret2; exact ⟨false, [], none, 0, rfl, Lib.hid (fun h => by cases h), Lib.hid (World.ownsRow_nil _ _ _ _), Lib.hid (fun y hy => by cases hy), HU3⟩
    · have hfin : i = min l.length 20 := by have := HA.out.len; omega
      have HFIN := Lib.hid hfin
      by_cases hl1 : i < n
      · obtain rfl : i = 20 := by omega
        have d1 : decide ((20 : Int) < (n : Int)) = true := by simp; omega
        clear hlt hfin
        go_wp2_with fail
        go_ret2; exact ⟨true, lo, Ao, co, by rw [← hNl.out]; rfl, Lib.hid (fun _ => ⟨L, nx, by rw [← HFIN.out]; exact hL.out, hps.out⟩), Lib.hid (by rw [← hNl.out]; exact hR.out), hBY, hU⟩
      · obtain rfl : i = n := by omega
        have d1 : decide ((i : Int) < (i : Int)) = false := by simp
        clear hlt hfin
        go_wp2_with fail
        go_ret2; exact ⟨true, lo, Ao, co, by rw [← hNl.out]; rfl, Lib.hid (fun _ => ⟨L, nx, by rw [← HFIN.out]; exact hL.out, hps.out⟩), Lib.hid (by rw [← hNl.out]; exact hR.out), hBY, hU⟩
end Go.Proofs.Ytgcabidhpnaoiaa
