import Derived.Test.YtgcabidhpnaoiaaFgR3
namespace Go.Proofs.Ytgcabidhpnaoiaa
open Go Go.RowKit Fg
set_option linter.unusedVariables false
set_option linter.unusedSimpArgs false
theorem blk_nw {A : Option Addr} {s q : Nat} (h : blk? A = blk? none ∨ blk? A = some s) (hq : blk? A = some q) : q = s := by
  rcases h with e | e
  · rw [e] at hq; cases hq
  · rw [e] at hq; exact (Option.some.inj hq).symm
theorem rb_held (H H' : Option Addr) (n c n' c' : Nat) (W : Option Addr) (m d : Nat) (nx : Nat → Nat) : (rbBlk H n c W m d nx).setIfInBounds 0 (.slice H' n' c') = rbBlk H' n' c' W m d nx := by simp [rbBlk]
theorem own_base {w : World} {base base' s n : Nat} {e : TypeId} {v : Value} {xs : List Value} (h : w.ownsRow base e s v n xs) (hb : ∀ g, v.ownBlock = some g → base' ≤ g) : w.ownsRow base' e s v n xs := by
  refine ⟨h.1, ?_⟩
  rcases h.2 with h2 | ⟨g, cap, cur, rfl, _, h3⟩
  · exact .inl h2
  · exact .inr ⟨g, cap, cur, rfl, hb g rfl, h3⟩
set_option maxRecDepth 100000 in
set_option maxHeartbeats 4000000 in
theorem out_any (b t n : Nat) (H : Option Addr) (c : Nat) (l : List PcB) (W : Option Addr) (m d : Nat) (nx : Nat → Nat) (w : World) (hb : l.length ≤ 512) (hw : Whole (ps l) t n) (hbd : ∀ x ∈ l, x.p.tsn < 4294967296) (ha : Apart (ps l))
    (htop : w.heap[b]? = some (.cells (rbBlk H l.length c W m d nx) 48 (0, 0))) (hr : w.ownsRow 0 51 7 (.slice H l.length c) l.length (l.flatMap pcc))
    (hby : ∀ x ∈ l, OwnI .u8 5 0 w x.A x.p.bs.length x.c x.p.bs ∧ x.p.bs.length ≤ 256) :
    Calls Try.prog 31 #[.pointer (some ⟨b, 0, none⟩), .int .u32 (t : Int), .int .i64 (n : Int)] w fun e w' => ∃ (A' : Option Addr) (N' c' : Nat) (H' : Option Addr) (cH : Nat), e = .returned (.slice A' N' c') ∧ Hid (OwnI .u8 5 w.heap.size w' A' N' c' (bytesOf (ps l) t n)) ∧
      Hid (w'.heap[b]? = some (.cells (rbBlk H' (left l t n).length cH W m d nx) 48 (0, 0))) ∧ Hid (w'.ownsRow w.heap.size 51 7 (.slice H' (left l t n).length cH) (left l t n).length ((left l t n).flatMap pcc)) ∧ Hid (Out (fun k => k = b) w w') := by
  have HW := Lib.hid hw
  have HBD := Lib.hid hbd
  have HA := Lib.hid ha
  have HBY := Lib.hid hby
  have HT := Lib.hid htop
  have HR := Lib.hid hr
  have hn0 := hw.pos
  have hn5 := hw.le
  have ht := hw.lt
  have hbl := lt_of_blk htop
  clear hw hbd ha hby htop hr
  go_enter Try.func31, Try.ntmps31
  go_wp2_with fail
  go_loopw [7, 8] (fun av iv wr => ∃ (i : Nat) (A' : Option Addr) (N' c' : Nat) (H' : Option Addr) (cH : Nat), iv = .int .i64 (i : Int) ∧ av = .slice A' N' c' ∧ i ≤ n ∧ N' ≤ 256 * i ∧ Hid (OwnI .u8 5 w.heap.size wr A' N' c' (bytesOf (ps l) t i)) ∧
      Hid (wr.heap[b]? = some (.cells (rbBlk H' (left l t i).length cH W m d nx) 48 (0, 0))) ∧ Hid (wr.ownsRow 0 51 7 (.slice H' (left l t i).length cH) (left l t i).length ((left l t i).flatMap pcc)) ∧ Hid (∀ q, blk? H' = some q → i = 0 ∨ w.heap.size ≤ q) ∧ Hid (Out (fun k => k = b) w wr)) (fun _ iv _ => n - (intOf iv).toNat)
  case atStart => exact ⟨0, none, 0, 0, H, c, rfl, rfl, by omega, by omega, Lib.hid (ownI_nil _ _ _ _), by rw [left_zero]; exact HT, by rw [left_zero]; exact HR, Lib.hid (fun _ _ => .inl rfl), Lib.hid (Out.refl _ _)⟩
  case round =>
    obtain ⟨i, A', N', c', H', cH, rfl, rfl, hin, hN, hA, hT, hR, hF, hO⟩ := hrel
    by_cases hlt : i < n
    · obtain ⟨k, x, hk, hx, hxt, hxl⟩ := left_at HW.out hlt
      obtain ⟨l1, l2, hl, hk1⟩ := split_at hx
      have hll : (left l t i).length ≤ 512 := Nat.le_trans (left_sub l t i).length_le hb
      have hkl : k < (left l t i).length := (List.getElem?_eq_some_iff.1 hx).1
      obtain ⟨g, rfl, hc⟩ := row_pc hR.out hx
      have hcap : (left l t i).length ≤ cH ∧ cH ≤ maxLen := by
        rcases hR.out.2 with ⟨h1, _⟩ | ⟨g', cap, cur, hv, _, _, h1, h2, _⟩
        · cases h1
        · injection hv with _ _ hv; subst hv; exact ⟨h1, h2⟩
      have HL := Lib.hid hl
      have HX := Lib.hid hx
      have HXT := Lib.hid hxt
      have HXL := Lib.hid hxl
      have HLL := Lib.hid (left_succ HA.out ht (by omega) HBD.out hxt hl)
      have HBS := Lib.hid (bytes_succ HA.out hxl hxt)
      have k6 : wr.cell? ⟨g, k * 7 + 6, none⟩ = some (.slice x.A x.p.bs.length x.c) := hc 6 _ rfl
      have h0 : wr.cell? ⟨b, 0, none⟩ = some (.slice (some ⟨g, 0, none⟩) (left l t i).length cH) := cell_of hT.out rfl
      have hxb : OwnI .u8 5 0 wr x.A x.p.bs.length x.c x.p.bs := Out.own hO.out (HBY.out x hxl).1 (own_ne (HBY.out x hxl).1 HT.out (by decide))
      have HXC := Lib.hid hxb.cells
      have hx256 := (HBY.out x hxl).2
      have hI0 : decide ((i : Int) < (n : Int)) = true := by simp; omega
      clear hc hl hx hxt hxl hxb
      have e1 : ((t : Int) + (i : Int)) % 4294967296 = ((add t i : Nat) : Int) := by unfold add; omega
      generalize hM : (left l t i).length = M at hll hkl hcap h0 hR hT ⊢
      have HM := Lib.hid hM
      go_wp2_with fail
      rw [e1]
      refine (piece_any b (add t i) _ cH (left l t i) wr (by omega) (by rw [HM.out]; exact h0) (by rw [HM.out]; exact hR.out)).mono ?_
      rintro e w2 ⟨rfl, rfl⟩
      rw [hk]
      unfold ixV
      clear e1 hk
      have hsp : (left l t i).flatMap pcc = l1.flatMap pcc ++ pcc x ++ l2.flatMap pcc := by rw [HL.out]; simp
      have hlen1 : (l1.flatMap pcc).length = k * 7 := by rw [rowG_length pcc 7 pcc_len, hk1]
      have hlen2 : l2.length = M - (k + 1) := by have := congrArg List.length HL.out; rw [HM.out] at this; simp at this; omega
      have HC1 : Hid (Cells w2 (some ⟨g, 0, none⟩) (l1.flatMap pcc)) := Lib.hid (row_part (xs := []) (zs := pcc x ++ l2.flatMap pcc) (by have := hR.out; rw [hsp] at this; simpa using this) rfl)
      have HC2 : Hid (Cells w2 (some ⟨g, (k + 1) * 7, none⟩) (l2.flatMap pcc)) := Lib.hid (row_part (xs := l1.flatMap pcc ++ pcc x) (zs := []) (by have := hR.out; rw [hsp] at this; simpa using this) (by rw [List.length_append, hlen1, pcc_len]; omega))
      have HLN := Lib.hid (And.intro hlen1 hlen2)
      have hgA : ∀ q, blk? (some ⟨g, 0, none⟩ : Option Addr) = some q → ¬ blk? A' = some q := by
        intro q hq
        rcases hR.out.2 with ⟨h1, _⟩ | ⟨g', cap, cur, hv, _, hh, _⟩
        · cases h1
        · injection hv with hv
          injection hv with hv
          injection hv with hv
          subst hv
          have : g = q := by simpa [blk?] using hq
          subst this
          intro e
          exact own_ne hA.out hh (by decide) g (by rw [ownBlock_slice]; exact e) rfl
      have HGA := Lib.hid hgA
      have HbA : Hid (¬ blk? A' = some b) := Lib.hid fun e => own_ne hA.out hT.out (by decide) b (by rw [ownBlock_slice]; exact e) rfl
      have HCAP := Lib.hid hcap
      clear hsp hlen1 hlen2 hgA
      have hM5 : M ≤ 512 := hll
      have hcM : cH ≤ 9223372036854775807 := hcap.2
      have hkc : k < cH := by omega
      by_cases hcz : cH = k + 1
      · subst hcz
        have HL2 := Lib.hid (show l2 = [] from List.eq_nil_of_length_eq_zero (by have := HLN.out.2; omega))
        go_wp2_with (at_builtin; first | (refine wpList_appendG rfl (.tmp 22) (.tmp 30) 30 rfl w.heap.size 5 (.int .u8 0) 1 1 Try.underlying30 info5 rfl (by omega) A' N' c' (ints .u8 (bytesOf (ps l) t i)) rfl hA.out x.A x.p.bs.length x.c (ints .u8 x.p.bs) rfl (by simp [ints]) HXC.out (ints_one _ _) (by omega) (by omega) hO.out.size ?_; intro A3 N3 c3 w3 HN3 HW3 HO3 HE3; have h3 : w3.cell? ⟨b, 0, none⟩ = some (.slice (some ⟨g, 0, none⟩) M (k + 1)) := cell_out h0 HO3.out HbA.out; clear h0 k6) | (refine wpList_appendG rfl (.tmp 32) (.tmp 38) 35 rfl w.heap.size 51 (.agg #[.int .u32 0, .int .u16 0, .int .u16 0, .bool false, .bool false, .bool false, .slice none 0 0]) 7 40 Try.underlying35 info51 rfl (by omega) none 0 0 [] rfl (World.ownsRow_nil _ _ _ _) (some ⟨g, 0, none⟩) k (k + 1) (l1.flatMap pcc) rfl HLN.out.1 (HC1.out.outS HO3.out HGA.out) (pcc_one _) (by omega) (by omega) (Nat.le_trans hO.out.size HO3.out.size) ?_; intro A4 N4 c4 w4 HN4 HW4 HO4 HE4; have h4 : w4.cell? ⟨b, 0, none⟩ = some (.slice (some ⟨g, 0, none⟩) M (k + 1)) := cell_out h3 HO4.out (by intro e; cases e); clear h3) | (refine wpList_appendG rfl (.tmp 41) (.tmp 48) 35 rfl w.heap.size 51 (.agg #[.int .u32 0, .int .u16 0, .int .u16 0, .bool false, .bool false, .bool false, .slice none 0 0]) 7 40 Try.underlying35 info51 rfl (by omega) A4 N4 c4 ([] ++ l1.flatMap pcc) rfl HW4.out (some ⟨g, 0, none⟩) 0 0 (l2.flatMap pcc) rfl (by rw [HL2.out]; rfl) (by rw [HL2.out]; exact Cells.nil _ _) (pcc_one _) (by have := HN4.out; omega) (by have := HN4.out; omega) (Nat.le_trans hO.out.size (Nat.le_trans HO3.out.size HO4.out.size)) ?_; intro A5 N5 c5 w5 HN5 HW5 HO5 HE5; have hA4 : ∀ q, blk? A4 = some q → q = w3.heap.size := fun q hq => blk_nw HE4.out hq; have HA4 := Lib.hid hA4; have T5 := Lib.hid (HO5.out.blk (HO4.out.blk (HO3.out.blk hT.out HbA.out) (by intro e; cases e)) (fun e => by have h1 := hA4 b e; have h2 := lt_of_blk (HO3.out.blk hT.out HbA.out); omega)); have h5 : w5.cell? ⟨b, 0, none⟩ = some (.slice (some ⟨g, 0, none⟩) M (k + 1)) := cell_of T5.out rfl; have f5 : w5.frozen? ⟨b, 0, none⟩ = false := frozen_at T5.out; clear h4 hA4))
        go_roundw
        case measure => simp [intOf]; omega
        case rel =>
          have hN5 : N5 = (left l t (i + 1)).length := by rw [HLL.out, List.length_append, HLN.out.2]; have := HN5.out; have := HN4.out; omega
          refine ⟨i + 1, A3, N3, c3, A5, c5, by go_num, rfl, by omega, by have := HN3.out; omega, Lib.hid ?_, Lib.hid ?_, Lib.hid ?_, Lib.hid ?_, Lib.hid ?_⟩
          · have h1 : OwnI .u8 5 w.heap.size w3 A3 N3 c3 (bytesOf (ps l) t (i + 1)) := by rw [HBS.out]; unfold OwnI; rw [ints_append]; exact HW3.out
            have h2 := Out.own HO4.out h1 (fun _ _ e => by cases e)
            have h3 := Out.own HO5.out h2 (fun q hq e => by
              have h4 := HA4.out q e
              have h5 := (World.ownsRow.lt h1 q hq).2
              omega)
            exact Out.own (setCell_out w5 b 0 (.slice A5 N5 c5)) h3 (own_ne h3 T5.out (by decide))
          · have h1 := setCell_at (j := 0) (.slice A5 N5 c5) T5.out
            rw [rb_held] at h1
            rw [← hN5]
            exact h1
          · have h1 := Out.own (setCell_out w5 b 0 (.slice A5 N5 c5)) HW5.out (own_ne HW5.out T5.out (by decide))
            have h2 := own_base (base' := 0) h1 (fun _ _ => Nat.zero_le _)
            rw [← hN5, HLL.out, List.flatMap_append]
            simpa using h2
          · exact fun q hq => .inr (row_lt HW5.out hq).1
          · have o3 := hO.out.trans HO3.out (fun q hq => .inr (row_lt hA.out hq).1)
            have o4 := o3.trans HO4.out (fun q hq => by cases hq)
            have o5 := o4.trans HO5.out (fun q hq => .inr (by rw [HA4.out q hq]; exact Nat.le_trans hO.out.size HO3.out.size))
            exact o5.trans (setCell_out w5 b 0 _) (fun q hq => .inl hq)
      · go_wp2_with (at_builtin; first | (refine wpList_appendG rfl (.tmp 22) (.tmp 30) 30 rfl w.heap.size 5 (.int .u8 0) 1 1 Try.underlying30 info5 rfl (by omega) A' N' c' (ints .u8 (bytesOf (ps l) t i)) rfl hA.out x.A x.p.bs.length x.c (ints .u8 x.p.bs) rfl (by simp [ints]) HXC.out (ints_one _ _) (by omega) (by omega) hO.out.size ?_; intro A3 N3 c3 w3 HN3 HW3 HO3 HE3; have h3 : w3.cell? ⟨b, 0, none⟩ = some (.slice (some ⟨g, 0, none⟩) M cH) := cell_out h0 HO3.out HbA.out; clear h0 k6) | (refine wpList_appendG rfl (.tmp 32) (.tmp 38) 35 rfl w.heap.size 51 (.agg #[.int .u32 0, .int .u16 0, .int .u16 0, .bool false, .bool false, .bool false, .slice none 0 0]) 7 40 Try.underlying35 info51 rfl (by omega) none 0 0 [] rfl (World.ownsRow_nil _ _ _ _) (some ⟨g, 0, none⟩) k cH (l1.flatMap pcc) rfl HLN.out.1 (HC1.out.outS HO3.out HGA.out) (pcc_one _) (by omega) (by omega) (Nat.le_trans hO.out.size HO3.out.size) ?_; intro A4 N4 c4 w4 HN4 HW4 HO4 HE4; have h4 : w4.cell? ⟨b, 0, none⟩ = some (.slice (some ⟨g, 0, none⟩) M cH) := cell_out h3 HO4.out (by intro e; cases e); clear h3) | (refine wpList_appendG rfl (.tmp 41) (.tmp 48) 35 rfl w.heap.size 51 (.agg #[.int .u32 0, .int .u16 0, .int .u16 0, .bool false, .bool false, .bool false, .slice none 0 0]) 7 40 Try.underlying35 info51 rfl (by omega) A4 N4 c4 ([] ++ l1.flatMap pcc) rfl HW4.out (some ⟨g, (k + 1) * 7, none⟩) (M - (k + 1)) (cH - (k + 1)) (l2.flatMap pcc) rfl (by rw [rowG_length pcc 7 pcc_len, HLN.out.2]) ((HC2.out.outS HO3.out HGA.out).outS HO4.out (fun _ _ e => by cases e)) (pcc_one _) (by have := HN4.out; omega) (by have := HN4.out; omega) (Nat.le_trans hO.out.size (Nat.le_trans HO3.out.size HO4.out.size)) ?_; intro A5 N5 c5 w5 HN5 HW5 HO5 HE5; have hA4 : ∀ q, blk? A4 = some q → q = w3.heap.size := fun q hq => blk_nw HE4.out hq; have HA4 := Lib.hid hA4; have T5 := Lib.hid (HO5.out.blk (HO4.out.blk (HO3.out.blk hT.out HbA.out) (by intro e; cases e)) (fun e => by have h1 := hA4 b e; have h2 := lt_of_blk (HO3.out.blk hT.out HbA.out); omega)); have h5 : w5.cell? ⟨b, 0, none⟩ = some (.slice (some ⟨g, 0, none⟩) M cH) := cell_of T5.out rfl; have f5 : w5.frozen? ⟨b, 0, none⟩ = false := frozen_at T5.out; clear h4 hA4))
        go_roundw
        case measure => simp [intOf]; omega
        case rel =>
          have hN5 : N5 = (left l t (i + 1)).length := by rw [HLL.out, List.length_append, HLN.out.2]; have := HN5.out; have := HN4.out; omega
          refine ⟨i + 1, A3, N3, c3, A5, c5, by go_num, rfl, by omega, by have := HN3.out; omega, Lib.hid ?_, Lib.hid ?_, Lib.hid ?_, Lib.hid ?_, Lib.hid ?_⟩
          · have h1 : OwnI .u8 5 w.heap.size w3 A3 N3 c3 (bytesOf (ps l) t (i + 1)) := by rw [HBS.out]; unfold OwnI; rw [ints_append]; exact HW3.out
            have h2 := Out.own HO4.out h1 (fun _ _ e => by cases e)
            have h3 := Out.own HO5.out h2 (fun q hq e => by
              have h4 := HA4.out q e
              have h5 := (World.ownsRow.lt h1 q hq).2
              omega)
            exact Out.own (setCell_out w5 b 0 (.slice A5 N5 c5)) h3 (own_ne h3 T5.out (by decide))
          · have h1 := setCell_at (j := 0) (.slice A5 N5 c5) T5.out
            rw [rb_held] at h1
            rw [← hN5]
            exact h1
          · have h1 := Out.own (setCell_out w5 b 0 (.slice A5 N5 c5)) HW5.out (own_ne HW5.out T5.out (by decide))
            have h2 := own_base (base' := 0) h1 (fun _ _ => Nat.zero_le _)
            rw [← hN5, HLL.out, List.flatMap_append]
            simpa using h2
          · exact fun q hq => .inr (row_lt HW5.out hq).1
          · have o3 := hO.out.trans HO3.out (fun q hq => .inr (row_lt hA.out hq).1)
            have o4 := o3.trans HO4.out (fun q hq => by cases hq)
            have o5 := o4.trans HO5.out (fun q hq => .inr (by rw [HA4.out q hq]; exact Nat.le_trans hO.out.size HO3.out.size))
            exact o5.trans (setCell_out w5 b 0 _) (fun q hq => .inl hq)
    · obtain rfl : i = n := by omega
      have hI0 : decide ((i : Int) < (i : Int)) = false := by simp
      go_wp2_with fail
      go_ret
      exact ⟨A', N', c', H', cH, rfl, hA, hT, Lib.hid (own_base hR.out (fun q hq => (hF.out q (by rw [ownBlock_slice] at hq; exact hq)).resolve_left (by omega))), hO⟩
end Go.Proofs.Ytgcabidhpnaoiaa
