import Derived.Test.YtgcabidhpnaoiaaFgR5
namespace Go.Proofs.Ytgcabidhpnaoiaa
open Go Go.RowKit Fg
set_option linter.unusedVariables false
set_option linter.unusedSimpArgs false
def lenV : Value → Nat
  | .slice _ n _ => n
  | _ => 0
def booV : Value → Nat
  | .bool true => 1
  | _ => 0
theorem Fg.TSt.up {w0 w w' : World} {b s : Nat} {H : Option Addr} {n c : Nat} {m0 : List LtB} {nx0 : Nat → Nat} {W0 A : Option Addr} {N cA : Nat} {m o : List LtB} {W : Option Addr} {d : Nat} {nx : Nat → Nat} (h : TSt w0 b s H n c m0 nx0 W0 w A N cA m o W d nx) (hu : Up w w') : TSt w0 b s H n c m0 nx0 W0 w' A N cA m o W d nx :=
  ⟨own_up h.row hu, (hu.block b (lt_of_blk h.top)).trans h.top, own_up h.rowW hu, h.old, h.len, h.le, h.sub, h.told, h.lt, h.go, h.out.trans (hu.out _) (Sub.refl _ _)⟩
structure InR (f : Bool) (N N2 i s : Nat) (nx : Nat → Nat) (m : List LtB) : Prop where
  no : f = false → N2 = N ∧ i ≤ m.length
  yes : f = true → N2 = N + 1
  none : f = false → ∀ y ∈ m.take i, ¬ hit s nx y
def TuPost (w : World) (b s : Nat) (H : Option Addr) (n c : Nat) (m0 : List LtB) (nx0 : Nat → Nat) (W0 : Option Addr) (e : Ending) (w' : World) : Prop :=
  ∃ (A : Option Addr) (N cA : Nat) (m o : List LtB) (W : Option Addr) (d : Nat) (nx : Nat → Nat), e = .returned (.slice A N cA) ∧ TSt w b s H n c m0 nx0 W0 w' A N cA m o W d nx ∧ ∀ y ∈ m, ¬ hit s nx y
set_option maxRecDepth 100000 in
set_option maxHeartbeats 4000000 in
theorem turns_any (b s : Nat) (H : Option Addr) (n c : Nat) (m0 : List LtB) (W0 : Option Addr) (d0 : Nat) (nx0 : Nat → Nat) (w : World) (hs : s < 8) (hb : m0.length ≤ 4096) (hx0 : nx0 s < 65536) (hk : KApart (ts m0))
    (htop : w.heap[b]? = some (.cells (rbBlk H n c W0 m0.length d0 nx0) 48 (0, 0))) (hr : w.ownsRow 0 90 3 (.slice W0 m0.length d0) m0.length (m0.flatMap ltc)) :
    Calls Try.prog 32 #[.pointer (some ⟨b, 0, none⟩), .int .u16 (s : Int)] w (TuPost w b s H n c m0 nx0 W0) := by
  have HK := Lib.hid hk
  have HS0 := Lib.hid (⟨World.ownsRow_nil _ _ _ _, htop, hr, fun _ h => .inl h, rfl, by simp, List.Sublist.refl _, by simp, hx0, fun _ _ _ h => by simpa using h, Out.refl _ _⟩ : TSt w b s H n c m0 nx0 W0 w none 0 0 m0 [] W0 d0 nx0)
  have hbl := lt_of_blk htop
  clear hk htop hr
  go_enter Try.func32, Try.ntmps32
  go_wp2_with fail
  go_loopw [5, 6] (fun av fv wr => ∃ (A : Option Addr) (N cA : Nat) (m o : List LtB) (W : Option Addr) (d : Nat) (nx : Nat → Nat) (f : Bool), av = .slice A N cA ∧ fv = .bool f ∧ Hid (TSt w b s H n c m0 nx0 W0 wr A N cA m o W d nx) ∧ Hid (f = false → ∀ y ∈ m, ¬ hit s nx y)) (fun av fv _ => 2 * (m0.length - lenV av) + booV fv)
  case atStart => exact ⟨none, 0, 0, m0, [], W0, d0, nx0, true, rfl, rfl, HS0, Lib.hid (fun e => by cases e)⟩
  case round =>
    obtain ⟨A, N, cA, m, o, W, d, nx, f, rfl, rfl, hT, hF⟩ := hrel
    cases f with
    | false =>
      have HFF := Lib.hid (hF.out rfl)
      clear hF
      go_wp2_with fail
      go_ret
      exact ⟨A, N, cA, m, o, W, d, nx, rfl, hT.out, HFF.out⟩
    | true =>
      have hN := Lib.hid hT.out.len
      have hle := hT.out.le
      go_wp2_with fail
      go_loopw [5, 6, 7] (fun av fv iv wr2 => ∃ (A2 : Option Addr) (N2 cA2 : Nat) (m2 o2 : List LtB) (W2 : Option Addr) (d2 : Nat) (nx2 : Nat → Nat) (f : Bool) (i : Nat), av = .slice A2 N2 cA2 ∧ fv = .bool f ∧ iv = .int .i64 (i : Int) ∧ i ≤ m0.length + 1 ∧ Hid (TSt w b s H n c m0 nx0 W0 wr2 A2 N2 cA2 m2 o2 W2 d2 nx2) ∧ Hid (InR f N N2 i s nx2 m2)) (fun av fv iv _ => (1 - booV fv) * (m0.length + 1 - (intOf iv).toNat))
      case atStart => exact ⟨A, N, cA, m, o, W, d, nx, false, 0, rfl, rfl, rfl, by omega, hT, Lib.hid ⟨fun _ => ⟨rfl, Nat.zero_le _⟩, (fun e => by cases e), (fun _ => by simp)⟩⟩
      case round =>
        obtain ⟨A2, N2, cA2, m2, o2, W2, d2, nx2, f, i, rfl, rfl, rfl, hi, hT2, hI⟩ := hrel
        have kw : wr.cell? ⟨b, 1, none⟩ = some (.slice W2 m2.length d2) := cell_of hT2.out.top rfl
        have hl2 := hT2.out.le
        have hN2 := Lib.hid hT2.out.len
        cases f with
        | true =>
          have hN3 := Lib.hid (hI.out.yes rfl)
          rcases Nat.lt_or_ge i m2.length with hlt | hge
          · have hd : decide ((i : Int) < (m2.length : Int)) = true := by simp; omega
            go_wp2_with fail
            go_roundw
            case measure => simp [lenV, booV]; have q1 := hN.out; have q2 := hN2.out; have q3 := hN3.out; omega
            case rel => exact ⟨A2, N2, cA2, m2, o2, W2, d2, nx2, true, rfl, rfl, hT2, Lib.hid (fun e => by cases e)⟩
          · have hd : decide ((i : Int) < (m2.length : Int)) = false := by simp; omega
            go_wp2_with fail
            go_roundw
            case measure => simp [lenV, booV]; have q1 := hN.out; have q2 := hN2.out; have q3 := hN3.out; omega
            case rel => exact ⟨A2, N2, cA2, m2, o2, W2, d2, nx2, true, rfl, rfl, hT2, Lib.hid (fun e => by cases e)⟩
        | false =>
          have hN3 := Lib.hid (hI.out.no rfl).1
          have hi2 := (hI.out.no rfl).2
          rcases Nat.lt_or_ge i m2.length with hlt | hge
          · have hd : decide ((i : Int) < (m2.length : Int)) = true := by simp; omega
            obtain ⟨y, hy⟩ : ∃ y, m2[i]? = some y := ⟨_, List.getElem?_eq_getElem hlt⟩
            obtain ⟨g, rfl, hc⟩ := row_lt_ hT2.out.rowW hy
            have k0 := hc 0 _ rfl
            rw [Nat.add_zero] at k0
            have k1 := hc 1 _ rfl
            have k2 := hc 2 _ rfl
            have HY := Lib.hid hy
            clear hc hy
            go_upto_region 9 with (fail)
            have HQ := Lib.hid (new_at wr (.cells #[.int .u16 (y.x.1 : Int), .int .u16 (y.x.2.1 : Int), .slice y.A y.x.2.2.length y.c] 90))
            have HU := Lib.hid (up_alloc wr (.cells #[.int .u16 (y.x.1 : Int), .int .u16 (y.x.2.1 : Int), .slice y.A y.x.2.2.length y.c] 90))
            generalize wr.alloc (.cells #[.int .u16 (y.x.1 : Int), .int .u16 (y.x.2.1 : Int), .slice y.A y.x.2.2.length y.c] 90) = Wr at HQ HU ⊢
            have HSZ : Hid (wr.heap.size < Wr.heap.size) := Lib.hid (lt_of_blk HQ.out)
            have HQG : Hid (w.heap.size ≤ wr.heap.size) := Lib.hid hT2.out.out.size
            generalize wr.heap.size = q at HQ HSZ HQG ⊢
            clear k0 k1 k2
            have HT := Lib.hid ((HU.out.block b (lt_of_blk hT2.out.top)).trans hT2.out.top)
            have k0 : Wr.cell? ⟨q, 0, none⟩ = some (.int .u16 (y.x.1 : Int)) := cell_of HQ.out rfl
            have k1 : Wr.cell? ⟨q, 1, none⟩ = some (.int .u16 (y.x.2.1 : Int)) := cell_of HQ.out rfl
            have k2 : Wr.cell? ⟨q, 2, none⟩ = some (.slice y.A y.x.2.2.length y.c) := cell_of HQ.out rfl
            have kx : Wr.cell? ⟨b, 2 + s, none⟩ = some (.int .u16 (nx2 s : Int)) := cell_of HT.out (rb_nx _ _ _ _ _ _ _ hs)
            by_cases h1 : y.x.1 = s
            · have t1 : ((y.x.1 : Int) == (s : Int)) = true := by rw [h1]; simp
              by_cases h2 : y.x.2.1 = nx2 s
              · have t2 : ((y.x.2.1 : Int) == (nx2 s : Int)) = true := by rw [h2]; simp
                have HH : Hid (hit s nx2 y) := Lib.hid ⟨h1, h2⟩
                clear h1 h2
                go_quiet (fail)
                have HU3 := Lib.hid (HU.out.trans (up_drewN Wr nq))
                have k2 := cell_up k2 (up_drewN Wr nq)
                clear k0 k1 kx t1 t2 HQ HT HSZ
                generalize Wr.drewN nq = W3 at k2 HU3 ⊢
                have HT3 := Lib.hid (hT2.out.up HU3.out)
                have hw1 : W3.cell? ⟨b, 1, none⟩ = some (.slice (some ⟨g, 0, none⟩) m2.length d2) := cell_of HT3.out.top rfl
                clear kw HU
                obtain ⟨l1, l2, hl, hk1⟩ := split_at HY.out
                have hsp : m2.flatMap ltc = l1.flatMap ltc ++ ltc y ++ l2.flatMap ltc := by rw [hl]; simp
                have hlen1 : (l1.flatMap ltc).length = i * 3 := by rw [rowG_length ltc 3 ltc_len, hk1]
                have hlen2 : l2.length = m2.length - (i + 1) := by have := congrArg List.length hl; simp at this; omega
                have HC1 : Hid (Cells W3 (some ⟨g, 0, none⟩) (l1.flatMap ltc)) := Lib.hid (row_part (xs := []) (zs := ltc y ++ l2.flatMap ltc) (by have := HT3.out.rowW; rw [hsp] at this; simpa using this) rfl)
                have HC2 : Hid (Cells W3 (some ⟨g, (i + 1) * 3, none⟩) (l2.flatMap ltc)) := Lib.hid (row_part (xs := l1.flatMap ltc ++ ltc y) (zs := []) (by have := HT3.out.rowW; rw [hsp] at this; simpa using this) (by rw [List.length_append, hlen1, ltc_len]; omega))
                have HLN := Lib.hid (And.intro hlen1 hlen2)
                have HL := Lib.hid hl
                have hcap : m2.length ≤ d2 ∧ d2 ≤ maxLen := by
                  rcases HT3.out.rowW.2 with ⟨h1, _⟩ | ⟨g', cap, cur, hv, _, _, h1, h2, _⟩
                  · cases h1
                  · injection hv with _ _ hv; subst hv; exact ⟨h1, h2⟩
                have HGB : Hid (∀ k, blk? (some ⟨g, 0, none⟩ : Option Addr) = some k → k < W3.heap.size ∧ ¬ blk? A2 = some k) := Lib.hid (by
                  intro k hk
                  refine ⟨(row_lt HT3.out.rowW hk).2, fun e => ?_⟩
                  rcases HT3.out.rowW.2 with ⟨h1, _⟩ | ⟨g', cap, cur, hv, _, hh, _⟩
                  · cases h1
                  · injection hv with hv
                    injection hv with hv
                    injection hv with hv
                    subst hv
                    have : g = k := by simpa [blk?] using hk
                    subst this
                    exact own_ne HT3.out.row hh (by decide) g (by rw [ownBlock_slice]; exact e) rfl)
                have hcM : d2 ≤ 9223372036854775807 := hcap.2
                have hkc : i < d2 := by omega
                clear hsp hlen1 hlen2 hl
                by_cases hcz : d2 = i + 1
                · subst hcz
                  have HL2 := Lib.hid (show l2 = [] from List.eq_nil_of_length_eq_zero (by have := HLN.out.2; omega))
                  go_upto_region 14 with (at_builtin; first | (have HM := Lib.hid (new_at W3 (.cells #[.int .u16 (s : Int), .slice y.A y.x.2.2.length y.c] 32)); have HV := Lib.hid (up_alloc W3 (.cells #[.int .u16 (s : Int), .slice y.A y.x.2.2.length y.c] 32)); clear hw1; generalize hW4 : W3.alloc (.cells #[.int .u16 (s : Int), .slice y.A y.x.2.2.length y.c] 32) = W4 at HM HV ⊢; have HT4 := Lib.hid (HT3.out.up HV.out); have HbA : Hid (¬ blk? A2 = some b) := Lib.hid fun e => own_ne HT4.out.row HT4.out.top (by decide) b (by rw [ownBlock_slice]; exact e) rfl; refine wpList_appendG rfl (.tmp 46) (.tmp 51) 52 rfl w.heap.size 32 (.agg #[.int .u16 0, .slice none 0 0]) 2 32 Try.underlying52 info32 rfl (by omega) A2 N2 cA2 (o2.flatMap (msc s)) rfl HT4.out.row (some ⟨W3.heap.size, 0, none⟩) 1 1 (msc s y) rfl rfl (fun _ => ⟨_, 0, rfl, lt_of_blk HM.out, fun j u hu => by rw [Nat.zero_add]; exact cell_of HM.out (by simpa [msc] using hu)⟩) (by have := msc_one s [y]; simpa using this) (by have := hN2.out; omega) (by have := hN2.out; omega) HT4.out.out.size ?_; intro A5 N5 c5 w5 HN5 HW5 HO5 HE5; have T5 := Lib.hid (HO5.out.blk HT4.out.top HbA.out); have hw5 : w5.cell? ⟨b, 1, none⟩ = some (.slice (some ⟨g, 0, none⟩) m2.length (i + 1)) := cell_of T5.out rfl; clear k2) | (refine wpList_appendG rfl (.tmp 53) (.tmp 59) 46 rfl w.heap.size 90 (.agg #[.int .u16 0, .int .u16 0, .slice none 0 0]) 3 32 Try.underlying46 info90 rfl (by omega) none 0 0 [] rfl (World.ownsRow_nil _ _ _ _) (some ⟨g, 0, none⟩) i (i + 1) (l1.flatMap ltc) rfl HLN.out.1 (((HC1.out.blk (fun k hk => HV.out.block k (HGB.out k hk).1))).outS HO5.out (fun k hk => (HGB.out k hk).2)) (ltc_one _) (by omega) (by omega) (Nat.le_trans HT4.out.out.size HO5.out.size) ?_; intro A6 N6 c6 w6 HN6 HW6 HO6 HE6; have T6 := Lib.hid (HO6.out.blk T5.out (by intro e; cases e)); have hw6 : w6.cell? ⟨b, 1, none⟩ = some (.slice (some ⟨g, 0, none⟩) m2.length (i + 1)) := cell_of T6.out rfl; clear hw5) | (refine wpList_appendG rfl (.tmp 62) (.tmp 69) 46 rfl w.heap.size 90 (.agg #[.int .u16 0, .int .u16 0, .slice none 0 0]) 3 32 Try.underlying46 info90 rfl (by omega) A6 N6 c6 ([] ++ l1.flatMap ltc) rfl HW6.out (some ⟨g, 0, none⟩) 0 0 (l2.flatMap ltc) rfl (by rw [HL2.out]; rfl) (by rw [HL2.out]; exact Cells.nil _ _) (ltc_one _) (by have := HN6.out; omega) (by have := HN6.out; omega) (Nat.le_trans HT4.out.out.size (Nat.le_trans HO5.out.size HO6.out.size)) ?_; intro A7 N7 c7 w7 HN7 HW7 HO7 HE7; have HA6 : Hid (∀ q, blk? A6 = some q → q = w5.heap.size) := Lib.hid (fun q hq => blk_nw HE6.out hq); have T7 := Lib.hid (HO7.out.blk T6.out (fun e => by have h1 := HA6.out b e; have h2 := lt_of_blk T5.out; omega)); have hw7 : w7.cell? ⟨b, 1, none⟩ = some (.slice (some ⟨g, 0, none⟩) m2.length (i + 1)) := cell_of T7.out rfl; have f7 : w7.frozen? ⟨b, 1, none⟩ = false := frozen_at T7.out; clear hw6))
                  have HOA : Hid (w7.ownsRow w.heap.size 32 2 (.slice A5 N5 c5) N5 (o2.flatMap (msc s) ++ msc s y)) := Lib.hid (Out.own HO7.out (Out.own HO6.out HW5.out (fun _ _ e => by cases e)) (fun z hz e => by
                    have h4 := HA6.out z e
                    have h5 := (World.ownsRow.lt HW5.out z hz).2
                    omega))
                  have HO8 := Lib.hid (setCell_out w7 b 1 (.slice A7 N7 c7))
                  have HO9 := Lib.hid (Out.own HO8.out HOA.out (own_ne HOA.out T7.out (by decide)))
                  have HW9 := Lib.hid (Out.own HO8.out HW7.out (own_ne HW7.out T7.out (by decide)))
                  have hT8 := setCell_at (j := 1) (.slice A7 N7 c7) T7.out
                  rw [rb_wait] at hT8
                  have T8 := Lib.hid hT8
                  clear hT8 hw7 f7
                  generalize w7.setCell ⟨b, 1, none⟩ (.slice A7 N7 c7) = w8 at HO8 HO9 HW9 T8 ⊢
                  have kx : w8.cell? ⟨b, 2 + s, none⟩ = some (.int .u16 (nx2 s : Int)) := cell_of T8.out (rb_nx _ _ _ _ _ _ _ hs)
                  have fx : w8.frozen? ⟨b, 2 + s, none⟩ = false := frozen_at T8.out
                  have hs8 : (s : Int) < 8 := by omega
                  go_region
                  have hwr : IntKind.u16.wrap ((nx2 s : Int) + 1) = (((nx2 s + 1) % 65536 : Nat) : Int) := by simp [IntKind.wrap_u16]
                  rw [hwr]
                  have hT9 := setCell_at (j := 2 + s) (.int .u16 (((nx2 s + 1) % 65536 : Nat) : Int)) T8.out
                  rw [rb_upd _ _ _ _ _ _ _ hs] at hT9
                  have hO9 := setCell_out w8 b (2 + s) (.int .u16 (((nx2 s + 1) % 65536 : Nat) : Int))
                  have hU10 := Up.drew (w8.setCell ⟨b, 2 + s, none⟩ (.int .u16 (((nx2 s + 1) % 65536 : Nat) : Int)))
                  have hN7 : N7 = (l1 ++ l2).length := by rw [List.length_append, HLN.out.2]; have := HN7.out; have := HN6.out; omega
                  have hN5 : N5 = (o2 ++ [y]).length := by rw [List.length_append]; have := HN5.out; have := hN2.out; simp; omega
                  have hlen : (l1 ++ l2).length + (o2 ++ [y]).length ≤ m0.length := by have := hN2.out; have := HLN.out.2; simp; omega
                  have hsub : (l1 ++ l2).Sublist m2 := by rw [HL.out]; exact List.Sublist.append_left (List.sublist_cons_self y l2) l1
                  have HTN : Hid (TSt w b s H n c m0 nx0 W0 (w8.setCell ⟨b, 2 + s, none⟩ (.int .u16 (((nx2 s + 1) % 65536 : Nat) : Int))).drew A5 N5 c5 (l1 ++ l2) (o2 ++ [y]) A7 c7 (Fg.upd nx2 s)) := Lib.hid {
                    row := by
                      have h1 := own_up (Out.own hO9 HO9.out (own_ne HO9.out T8.out (by decide))) hU10
                      simpa using h1
                    top := by rw [← hN7]; exact (hU10.block b (lt_of_blk hT9)).trans hT9
                    rowW := by
                      have h1 := own_up (Out.own hO9 HW9.out (own_ne HW9.out T8.out (by decide))) hU10
                      have h2 := own_base (base' := 0) h1 (fun _ _ => Nat.zero_le _)
                      rw [← hN7, List.flatMap_append]
                      simpa using h2
                    old := fun z hz => .inr (row_lt HW7.out hz).1
                    len := hN5
                    le := hlen
                    sub := hsub.trans HT3.out.sub
                    told := fun z hz => by
                      rcases List.mem_append.1 hz with h1 | h1
                      · exact HT3.out.told z h1
                      · rw [List.mem_singleton.1 h1]; exact HT3.out.sub.subset (List.mem_of_getElem? HY.out)
                    lt := by unfold Fg.upd; simp; omega
                    go := fun ms W' nx' hh => by
                      have h1 := HT3.out.go _ _ _ (turns_go (ksub HK.out HT3.out.sub) HL.out HH.out hh)
                      simpa using h1
                    out := by
                      have o4 := HT4.out.out
                      have o5 := o4.trans HO5.out (fun z hz => .inr (row_lt HT4.out.row hz).1)
                      have o6 := o5.trans HO6.out (fun z hz => by cases hz)
                      have o7 := o6.trans HO7.out (fun z hz => .inr (by rw [HA6.out z hz]; exact Nat.le_trans o4.size HO5.out.size))
                      have o8 := o7.trans HO8.out (fun z hz => .inl hz)
                      have o9 := o8.trans hO9 (fun z hz => .inl hz)
                      exact o9.trans (hU10.out _) (fun z hz => .inl hz) }
                  have hN51 := Lib.hid (show N5 = N + 1 by have := HN5.out; have := hN3.out; omega)
                  clear hT9 hO9 hU10 hN7 hN5 hlen hsub hwr kx fx
                  generalize (w8.setCell ⟨b, 2 + s, none⟩ (.int .u16 (((nx2 s + 1) % 65536 : Nat) : Int))).drew = w10 at HTN ⊢
                  go_wp2_with fail
                  go_roundw
                  case measure => simp [lenV, booV, intOf]; omega
                  case rel => exact ⟨A5, N5, c5, l1 ++ l2, o2 ++ [y], A7, c7, Fg.upd nx2 s, true, i + 1, rfl, rfl, by go_num, by omega, HTN, Lib.hid ⟨(fun e => by cases e), (fun _ => hN51.out), (fun e => by cases e)⟩⟩
                · go_upto_region 14 with (at_builtin; first | (have HM := Lib.hid (new_at W3 (.cells #[.int .u16 (s : Int), .slice y.A y.x.2.2.length y.c] 32)); have HV := Lib.hid (up_alloc W3 (.cells #[.int .u16 (s : Int), .slice y.A y.x.2.2.length y.c] 32)); clear hw1; generalize hW4 : W3.alloc (.cells #[.int .u16 (s : Int), .slice y.A y.x.2.2.length y.c] 32) = W4 at HM HV ⊢; have HT4 := Lib.hid (HT3.out.up HV.out); have HbA : Hid (¬ blk? A2 = some b) := Lib.hid fun e => own_ne HT4.out.row HT4.out.top (by decide) b (by rw [ownBlock_slice]; exact e) rfl; refine wpList_appendG rfl (.tmp 46) (.tmp 51) 52 rfl w.heap.size 32 (.agg #[.int .u16 0, .slice none 0 0]) 2 32 Try.underlying52 info32 rfl (by omega) A2 N2 cA2 (o2.flatMap (msc s)) rfl HT4.out.row (some ⟨W3.heap.size, 0, none⟩) 1 1 (msc s y) rfl rfl (fun _ => ⟨_, 0, rfl, lt_of_blk HM.out, fun j u hu => by rw [Nat.zero_add]; exact cell_of HM.out (by simpa [msc] using hu)⟩) (by have := msc_one s [y]; simpa using this) (by have := hN2.out; omega) (by have := hN2.out; omega) HT4.out.out.size ?_; intro A5 N5 c5 w5 HN5 HW5 HO5 HE5; have T5 := Lib.hid (HO5.out.blk HT4.out.top HbA.out); have hw5 : w5.cell? ⟨b, 1, none⟩ = some (.slice (some ⟨g, 0, none⟩) m2.length d2) := cell_of T5.out rfl; clear k2) | (refine wpList_appendG rfl (.tmp 53) (.tmp 59) 46 rfl w.heap.size 90 (.agg #[.int .u16 0, .int .u16 0, .slice none 0 0]) 3 32 Try.underlying46 info90 rfl (by omega) none 0 0 [] rfl (World.ownsRow_nil _ _ _ _) (some ⟨g, 0, none⟩) i d2 (l1.flatMap ltc) rfl HLN.out.1 (((HC1.out.blk (fun k hk => HV.out.block k (HGB.out k hk).1))).outS HO5.out (fun k hk => (HGB.out k hk).2)) (ltc_one _) (by omega) (by omega) (Nat.le_trans HT4.out.out.size HO5.out.size) ?_; intro A6 N6 c6 w6 HN6 HW6 HO6 HE6; have T6 := Lib.hid (HO6.out.blk T5.out (by intro e; cases e)); have hw6 : w6.cell? ⟨b, 1, none⟩ = some (.slice (some ⟨g, 0, none⟩) m2.length d2) := cell_of T6.out rfl; clear hw5) | (refine wpList_appendG rfl (.tmp 62) (.tmp 69) 46 rfl w.heap.size 90 (.agg #[.int .u16 0, .int .u16 0, .slice none 0 0]) 3 32 Try.underlying46 info90 rfl (by omega) A6 N6 c6 ([] ++ l1.flatMap ltc) rfl HW6.out (some ⟨g, (i + 1) * 3, none⟩) (m2.length - (i + 1)) (d2 - (i + 1)) (l2.flatMap ltc) rfl (by rw [rowG_length ltc 3 ltc_len, HLN.out.2]) (((HC2.out.blk (fun k hk => HV.out.block k (HGB.out k hk).1)).outS HO5.out (fun k hk => (HGB.out k hk).2)).outS HO6.out (fun _ _ e => by cases e)) (ltc_one _) (by have := HN6.out; omega) (by have := HN6.out; omega) (Nat.le_trans HT4.out.out.size (Nat.le_trans HO5.out.size HO6.out.size)) ?_; intro A7 N7 c7 w7 HN7 HW7 HO7 HE7; have HA6 : Hid (∀ q, blk? A6 = some q → q = w5.heap.size) := Lib.hid (fun q hq => blk_nw HE6.out hq); have T7 := Lib.hid (HO7.out.blk T6.out (fun e => by have h1 := HA6.out b e; have h2 := lt_of_blk T5.out; omega)); have hw7 : w7.cell? ⟨b, 1, none⟩ = some (.slice (some ⟨g, 0, none⟩) m2.length d2) := cell_of T7.out rfl; have f7 : w7.frozen? ⟨b, 1, none⟩ = false := frozen_at T7.out; clear hw6))
                  have HOA : Hid (w7.ownsRow w.heap.size 32 2 (.slice A5 N5 c5) N5 (o2.flatMap (msc s) ++ msc s y)) := Lib.hid (Out.own HO7.out (Out.own HO6.out HW5.out (fun _ _ e => by cases e)) (fun z hz e => by
                    have h4 := HA6.out z e
                    have h5 := (World.ownsRow.lt HW5.out z hz).2
                    omega))
                  have HO8 := Lib.hid (setCell_out w7 b 1 (.slice A7 N7 c7))
                  have HO9 := Lib.hid (Out.own HO8.out HOA.out (own_ne HOA.out T7.out (by decide)))
                  have HW9 := Lib.hid (Out.own HO8.out HW7.out (own_ne HW7.out T7.out (by decide)))
                  have hT8 := setCell_at (j := 1) (.slice A7 N7 c7) T7.out
                  rw [rb_wait] at hT8
                  have T8 := Lib.hid hT8
                  clear hT8 hw7 f7
                  generalize w7.setCell ⟨b, 1, none⟩ (.slice A7 N7 c7) = w8 at HO8 HO9 HW9 T8 ⊢
                  have kx : w8.cell? ⟨b, 2 + s, none⟩ = some (.int .u16 (nx2 s : Int)) := cell_of T8.out (rb_nx _ _ _ _ _ _ _ hs)
                  have fx : w8.frozen? ⟨b, 2 + s, none⟩ = false := frozen_at T8.out
                  have hs8 : (s : Int) < 8 := by omega
                  go_region
                  have hwr : IntKind.u16.wrap ((nx2 s : Int) + 1) = (((nx2 s + 1) % 65536 : Nat) : Int) := by simp [IntKind.wrap_u16]
                  rw [hwr]
                  have hT9 := setCell_at (j := 2 + s) (.int .u16 (((nx2 s + 1) % 65536 : Nat) : Int)) T8.out
                  rw [rb_upd _ _ _ _ _ _ _ hs] at hT9
                  have hO9 := setCell_out w8 b (2 + s) (.int .u16 (((nx2 s + 1) % 65536 : Nat) : Int))
                  have hU10 := Up.drew (w8.setCell ⟨b, 2 + s, none⟩ (.int .u16 (((nx2 s + 1) % 65536 : Nat) : Int)))
                  have hN7 : N7 = (l1 ++ l2).length := by rw [List.length_append, HLN.out.2]; have := HN7.out; have := HN6.out; omega
                  have hN5 : N5 = (o2 ++ [y]).length := by rw [List.length_append]; have := HN5.out; have := hN2.out; simp; omega
                  have hlen : (l1 ++ l2).length + (o2 ++ [y]).length ≤ m0.length := by have := hN2.out; have := HLN.out.2; simp; omega
                  have hsub : (l1 ++ l2).Sublist m2 := by rw [HL.out]; exact List.Sublist.append_left (List.sublist_cons_self y l2) l1
                  have HTN : Hid (TSt w b s H n c m0 nx0 W0 (w8.setCell ⟨b, 2 + s, none⟩ (.int .u16 (((nx2 s + 1) % 65536 : Nat) : Int))).drew A5 N5 c5 (l1 ++ l2) (o2 ++ [y]) A7 c7 (Fg.upd nx2 s)) := Lib.hid {
                    row := by
                      have h1 := own_up (Out.own hO9 HO9.out (own_ne HO9.out T8.out (by decide))) hU10
                      simpa using h1
                    top := by rw [← hN7]; exact (hU10.block b (lt_of_blk hT9)).trans hT9
                    rowW := by
                      have h1 := own_up (Out.own hO9 HW9.out (own_ne HW9.out T8.out (by decide))) hU10
                      have h2 := own_base (base' := 0) h1 (fun _ _ => Nat.zero_le _)
                      rw [← hN7, List.flatMap_append]
                      simpa using h2
                    old := fun z hz => .inr (row_lt HW7.out hz).1
                    len := hN5
                    le := hlen
                    sub := hsub.trans HT3.out.sub
                    told := fun z hz => by
                      rcases List.mem_append.1 hz with h1 | h1
                      · exact HT3.out.told z h1
                      · rw [List.mem_singleton.1 h1]; exact HT3.out.sub.subset (List.mem_of_getElem? HY.out)
                    lt := by unfold Fg.upd; simp; omega
                    go := fun ms W' nx' hh => by
                      have h1 := HT3.out.go _ _ _ (turns_go (ksub HK.out HT3.out.sub) HL.out HH.out hh)
                      simpa using h1
                    out := by
                      have o4 := HT4.out.out
                      have o5 := o4.trans HO5.out (fun z hz => .inr (row_lt HT4.out.row hz).1)
                      have o6 := o5.trans HO6.out (fun z hz => by cases hz)
                      have o7 := o6.trans HO7.out (fun z hz => .inr (by rw [HA6.out z hz]; exact Nat.le_trans o4.size HO5.out.size))
                      have o8 := o7.trans HO8.out (fun z hz => .inl hz)
                      have o9 := o8.trans hO9 (fun z hz => .inl hz)
                      exact o9.trans (hU10.out _) (fun z hz => .inl hz) }
                  have hN51 := Lib.hid (show N5 = N + 1 by have := HN5.out; have := hN3.out; omega)
                  clear hT9 hO9 hU10 hN7 hN5 hlen hsub hwr kx fx
                  generalize (w8.setCell ⟨b, 2 + s, none⟩ (.int .u16 (((nx2 s + 1) % 65536 : Nat) : Int))).drew = w10 at HTN ⊢
                  go_wp2_with fail
                  go_roundw
                  case measure => simp [lenV, booV, intOf]; omega
                  case rel => exact ⟨A5, N5, c5, l1 ++ l2, o2 ++ [y], A7, c7, Fg.upd nx2 s, true, i + 1, rfl, rfl, by go_num, by omega, HTN, Lib.hid ⟨(fun e => by cases e), (fun _ => hN51.out), (fun e => by cases e)⟩⟩
              · have t2 : ((y.x.2.1 : Int) == (nx2 s : Int)) = false := by rw [beq_eq_false_iff_ne]; omega
                have HA2 : Hid (∀ z ∈ m2.take (i + 1), ¬ hit s nx2 z) := Lib.hid (take_succ_all HY.out (hI.out.none rfl) (fun e => h2 e.2))
                clear h1 h2
                go_quiet (fail)
                have HT3 := Lib.hid (hT2.out.up (HU.out.trans (up_drewN Wr nq)))
                go_wp2_with fail
                go_roundw
                case measure => simp [lenV, booV, intOf]; omega
                case rel => exact ⟨A2, N2, cA2, m2, o2, _, _, nx2, false, i + 1, rfl, rfl, by go_num, by omega, HT3, Lib.hid ⟨fun _ => ⟨hN3.out, hlt⟩, (fun e => by cases e), (fun _ => HA2.out)⟩⟩
            · have t1 : ((y.x.1 : Int) == (s : Int)) = false := by rw [beq_eq_false_iff_ne]; omega
              have HA2 : Hid (∀ z ∈ m2.take (i + 1), ¬ hit s nx2 z) := Lib.hid (take_succ_all HY.out (hI.out.none rfl) (fun e => h1 e.1))
              clear h1
              go_quiet (fail)
              have HT3 := Lib.hid (hT2.out.up (HU.out.trans (up_drewN Wr nq)))
              go_wp2_with fail
              go_roundw
              case measure => simp [lenV, booV, intOf]; omega
              case rel => exact ⟨A2, N2, cA2, m2, o2, _, _, nx2, false, i + 1, rfl, rfl, by go_num, by omega, HT3, Lib.hid ⟨fun _ => ⟨hN3.out, hlt⟩, (fun e => by cases e), (fun _ => HA2.out)⟩⟩
          · have hd : decide ((i : Int) < (m2.length : Int)) = false := by simp; omega
            have HNO : Hid (∀ y ∈ m2, ¬ hit s nx2 y) := Lib.hid (fun y hy => hI.out.none rfl y (by rw [List.take_of_length_le (by omega)]; exact hy))
            go_wp2_with fail
            go_roundw
            case measure => simp [lenV, booV]; have q1 := hN.out; have q2 := hN2.out; have q3 := hN3.out; omega
            case rel => exact ⟨A2, N2, cA2, m2, o2, W2, d2, nx2, false, rfl, rfl, hT2, Lib.hid (fun _ => HNO.out)⟩
end Go.Proofs.Ytgcabidhpnaoiaa
