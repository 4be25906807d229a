import Derived.Test.YtfbjhialjepodaaNtRef2
namespace Go.Proofs.Ytfbjhialjepodaa
open Go Go.RowKit
set_option linter.unusedVariables false
set_option maxRecDepth 100000 in
set_option maxHeartbeats 1000000 in
theorem cut_ok (S : Nat → Prop) (p : Addr) (st : Nt.St) (a b q : Nat) (d : Bool) (w : World) (h : IsRf S w p st) (ha : (a : Int) < st.hosts) (hb : (b : Int) < st.hosts) (hne : a ≠ b) (hq : q < 2) :
    Calls Try.prog 27 #[.pointer (some p), .int .i64 (a : Int), .int .i64 (b : Int), .int .i64 (q : Int), .bool d] w fun e w' => ∃ S', e = .returned (.int .i64 0) ∧ IsRf S' w' p { st with down := fun x y z => if x = a ∧ y = b ∧ z = q then d else st.down x y z } ∧ Sub S' S w ∧ Out S w w' := by
  obtain ⟨g, A, c, l, rfl, hh, hway, hlen, hblk, hrow, hfr, hlt, hSg, hA, hF, hpw⟩ := h
  have h0 := cell_of hblk (refBlk_0 _ _ _ _ _)
  have ha8 : a < 8 := by omega
  have hb8 : b < 8 := by omega
  have hcell := cell_of hblk (refBlk_dn st.hosts A l.length c st.down ha8 hb8 hq)
  have hfro := frozen_at (j := 2 + a * 16 + b * 2 + q) hblk
  have HA := Lib.hid hA
  have HF := Lib.hid hF
  have HPW := Lib.hid hpw
  have HLT := Lib.hid hlt
  have HFR := Lib.hid hfr
  have HROW := Lib.hid hrow
  have HBLK := Lib.hid hblk
  have HWAY := Lib.hid hway
  clear hA hF hpw hlt hfr hrow hblk hway
  obtain ⟨hosts, hho⟩ : ∃ t, t = st.hosts := ⟨_, rfl⟩
  rw [← hho] at h0 ha hb hh
  have HHO := Lib.hid hho
  clear hho
  have t1 : (decide (0 ≤ (a : Int) ∧ (a : Int) < hosts)) = true := decide_eq_true ⟨by omega, ha⟩
  have t2 : (decide (0 ≤ (b : Int) ∧ (b : Int) < hosts)) = true := decide_eq_true ⟨by omega, hb⟩
  go_enter Try.func27, Try.ntmps27
  go_wp2_with fail
  refine (host g a hosts w h0).mono ?_
  rintro e w1 ⟨rfl, rfl⟩
  rw [t1]
  go_wp2_with fail
  refine (host g b hosts _ h0).mono ?_
  rintro e w2 ⟨rfl, rfl⟩
  rw [t2]
  clear t1 t2
  go_wp2_with fail
  all_goals try
    exfalso
    have hx : (((a : Int) == b) = true ∨ (q : Int) < 0) ∨ 1 < (q : Int) := by assumption
    rcases hx with (hx | hx) | hx
    · have := eq_of_beq hx
      exact hne (by omega)
    · omega
    · omega
  all_goals
    go_ret
    have ho := setCell_out w2 g (2 + a * 16 + b * 2 + q) (.bool d)
    have hn : ∀ k, S k → k ≠ g → (w2.setCell ⟨g, 2 + a * 16 + b * 2 + q, none⟩ (.bool d)).heap[k]? = w2.heap[k]? := fun k hk hn => ho.block k (HLT.out k hk) hn
    refine ⟨S, rfl, ⟨g, A, c, l, rfl, by rw [← HHO.out]; exact hh, HWAY.out, hlen, ?_, own_blk HROW.out (fun k hk => ?_), fun x hx => ⟨own_blk (HFR.out x hx).1 (fun k hk => ?_), (HFR.out x hx).2⟩, fun k hk => Nat.lt_of_lt_of_le (HLT.out k hk) ho.size, hSg, HA.out, HF.out, HPW.out⟩, Sub.refl _ _, ho.mono (fun k hk => by rw [hk]; exact hSg)⟩
    · have := setCell_at (j := 2 + a * 16 + b * 2 + q) (.bool d) HBLK.out
      rwa [refBlk_cut _ _ _ _ _ ha8 hb8 hq] at this
    · have := HA.out k (by rwa [ownBlock_slice] at hk)
      exact hn k this.1 this.2
    · have := HF.out x hx k (by rwa [ownBlock_slice] at hk)
      exact hn k this.1 this.2.1
set_option maxRecDepth 100000 in
set_option maxHeartbeats 1000000 in
theorem cut_bad (g : Nat) (hosts f t q : Int) (d : Bool) (w : World) (h0 : w.cell? ⟨g, 0, none⟩ = some (.int .i64 hosts)) (hn : ¬ ((0 ≤ f ∧ f < hosts) ∧ (0 ≤ t ∧ t < hosts) ∧ f ≠ t ∧ 0 ≤ q ∧ q < 2)) :
    Calls Try.prog 27 #[.pointer (some ⟨g, 0, none⟩), .int .i64 f, .int .i64 t, .int .i64 q, .bool d] w fun e w' => e = .returned (.int .i64 1) ∧ w' = w := by
  have HN := Lib.hid hn
  clear hn
  by_cases h1 : 0 ≤ f ∧ f < hosts
  · have t1 : (decide (0 ≤ f ∧ f < hosts)) = true := decide_eq_true h1
    by_cases h2 : 0 ≤ t ∧ t < hosts
    · have t2 : (decide (0 ≤ t ∧ t < hosts)) = true := decide_eq_true h2
      have HN2 := Lib.hid (show f = t ∨ q < 0 ∨ 1 < q by have := HN.out; omega)
      obtain ⟨h1a, h1b⟩ := h1
      obtain ⟨h2a, h2b⟩ := h2
      rcases HN2.out with h3 | h3 | h3
      · subst h3
        go_enter Try.func27, Try.ntmps27
        go_wp2_with fail
        refine (host g f hosts w h0).mono ?_
        rintro e w1 ⟨rfl, rfl⟩
        rw [t1]
        go_wp2_with fail
        refine (host g f hosts _ h0).mono ?_
        rintro e w2 ⟨rfl, rfl⟩
        rw [t1]
        go_wp2_with fail
        go_ret
        exact ⟨rfl, rfl⟩
      · go_enter Try.func27, Try.ntmps27
        go_wp2_with fail
        refine (host g f hosts w h0).mono ?_
        rintro e w1 ⟨rfl, rfl⟩
        rw [t1]
        go_wp2_with fail
        refine (host g t hosts _ h0).mono ?_
        rintro e w2 ⟨rfl, rfl⟩
        rw [t2]
        go_wp2_with fail
        all_goals first
          | (exfalso
             have hx : (((f == t) = false ∧ 0 ≤ q) ∧ q ≤ 1) := by assumption
             omega)
          | (go_ret; exact ⟨rfl, rfl⟩)
      · go_enter Try.func27, Try.ntmps27
        go_wp2_with fail
        refine (host g f hosts w h0).mono ?_
        rintro e w1 ⟨rfl, rfl⟩
        rw [t1]
        go_wp2_with fail
        refine (host g t hosts _ h0).mono ?_
        rintro e w2 ⟨rfl, rfl⟩
        rw [t2]
        go_wp2_with fail
        all_goals first
          | (exfalso
             have hx : (((f == t) = false ∧ 0 ≤ q) ∧ q ≤ 1) := by assumption
             omega)
          | (go_ret; exact ⟨rfl, rfl⟩)
    · have t2 : (decide (0 ≤ t ∧ t < hosts)) = false := decide_eq_false h2
      clear h2
      go_enter Try.func27, Try.ntmps27
      go_wp2_with fail
      refine (host g f hosts w h0).mono ?_
      rintro e w1 ⟨rfl, rfl⟩
      rw [t1]
      go_wp2_with fail
      refine (host g t hosts _ h0).mono ?_
      rintro e w2 ⟨rfl, rfl⟩
      rw [t2]
      go_wp2_with fail
      go_ret
      exact ⟨rfl, rfl⟩
  · have t1 : (decide (0 ≤ f ∧ f < hosts)) = false := decide_eq_false h1
    clear h1
    go_enter Try.func27, Try.ntmps27
    go_wp2_with fail
    refine (host g f hosts w h0).mono ?_
    rintro e w1 ⟨rfl, rfl⟩
    rw [t1]
    go_wp2_with fail
    go_ret
    exact ⟨rfl, rfl⟩
theorem rf_cut (S : Nat → Prop) (p : Addr) (st : Nt.St) (f t q : Int) (d : Bool) (w : World) (h : IsRf S w p st) :
    Calls Try.prog 27 #[.pointer (some p), .int .i64 f, .int .i64 t, .int .i64 q, .bool d] w fun e w' => ∃ S', e = .returned (.int .i64 (Nt.cutE st f t q)) ∧ IsRf S' w' p (Nt.cutS st f t q d) ∧ Sub S' S w ∧ Out S w w' := by
  unfold Nt.cutS Nt.cutE
  by_cases hv : (0 ≤ f ∧ f < st.hosts) ∧ (0 ≤ t ∧ t < st.hosts) ∧ f ≠ t ∧ 0 ≤ q ∧ q < 2
  · simp only [if_pos hv]
    obtain ⟨⟨f0, f1⟩, ⟨t0, t1⟩, hne, q0, q1⟩ := hv
    obtain ⟨a, rfl⟩ : ∃ a : Nat, f = a := ⟨f.toNat, by omega⟩
    obtain ⟨b, rfl⟩ : ∃ b : Nat, t = b := ⟨t.toNat, by omega⟩
    obtain ⟨c, rfl⟩ : ∃ c : Nat, q = c := ⟨q.toNat, by omega⟩
    simpa using cut_ok S p st a b c d w h f1 t1 (by omega) (by omega)
  · simp only [if_neg hv]
    have h' := h
    obtain ⟨g, A, c, l, rfl, hh, hway, hlen, hblk, _⟩ := h
    refine (cut_bad g st.hosts f t q d w (cell_of hblk (refBlk_0 _ _ _ _ _)) hv).mono fun e w' ⟨he, hw⟩ => ⟨S, he, ?_, Sub.refl _ _, by rw [hw]; exact Out.refl _ _⟩
    rw [hw]
    simpa using h'
end Go.Proofs.Ytfbjhialjepodaa
