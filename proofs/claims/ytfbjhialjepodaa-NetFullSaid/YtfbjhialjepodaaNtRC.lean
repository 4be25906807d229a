import Derived.Test.YtfbjhialjepodaaNtErrR
namespace Go.Proofs.Ytfbjhialjepodaa
open Go Go.RowKit
set_option linter.unusedVariables false
/-- A net of the reference, in the words of Rw. -/
def IsR (S : Nat → Prop) (w : World) (p : Addr) (st : Nt.St) : Prop := ∃ (b : Nat) (A : Option Addr) (c : Nat) (l : List FrB), p = ⟨b, 0, none⟩ ∧ (1 ≤ st.hosts ∧ st.hosts ≤ 8) ∧ st.way = l.map (·.f) ∧
  w.heap[b]? = some (.cells (refHd st.down st.hosts A l.length c) 34 (0, 0)) ∧ S b ∧ Rw S (fun k => k = b) w A c l ∧ ∀ k, S k → k < w.heap.size
theorem isR_iff {S : Nat → Prop} {w : World} {p : Addr} {st : Nt.St} : IsR S w p st ↔ IsRf S w p st := by
  constructor
  · rintro ⟨b, A, c, l, h1, h2, h3, h4, h5, h6, h7⟩
    exact ⟨b, A, c, l, h1, h2, h3, h6.len, h4, h6.row, h6.fr, h7, h5, h6.inA, h6.inF, h6.pw⟩
  · rintro ⟨b, A, c, l, h1, h2, h3, h4, h5, h6, h7, h8, h9, h10, h11, h12⟩
    exact ⟨b, A, c, l, h1, h2, h3, h5, h9, ⟨h4, h6, h7, h10, h11, h12⟩, h8⟩
theorem isR_lt {S : Nat → Prop} {w : World} {p : Addr} {st : Nt.St} (h : IsR S w p st) : ∀ k, S k → k < w.heap.size := isRf_lt (isR_iff.1 h)
theorem isR_keep {S : Nat → Prop} {w w' : World} {p : Addr} {st : Nt.St} (h : IsR S w p st) (hk : ∀ k, S k → w'.heap[k]? = w.heap[k]?) : IsR S w' p st := isR_iff.2 (isRf_keep (isR_iff.1 h) hk)
theorem isR_up {S : Nat → Prop} {w w' : World} {p : Addr} {st : Nt.St} (h : IsR S w p st) (hu : Up w w') : IsR S w' p st := isR_keep h (fun k hk => hu.block k (isR_lt h k hk))
theorem isR_app {S : Nat → Prop} {w w0 w' : World} {b c : Nat} {A : Option Addr} {l : List FrB} {st : Nt.St} {f : Nt.Fr} (hh : 1 ≤ st.hosts ∧ st.hosts ≤ 8) (hway : st.way = l.map (·.f)) (hsb : S b)
    (hrw : Rw S (fun k => k = b) w A c l) (hlt : ∀ k, S k → k < w.heap.size) (hu : Up w w0) (hW : WApp b 34 (refHd st.down st.hosts) A l f (Fresh w0.heap.size) w0 2 w') (hl : l.length < 1024) (hf : Byt f.bytes) (hf4 : f.bytes.length ≤ 4096) :
    ∃ S', IsR S' w' ⟨b, 0, none⟩ { st with way := st.way ++ [f] } ∧ Sub S' S w ∧ Out S w w' := by
  obtain ⟨A', c', x, hx, hb', hr', hs', ho', hlt'⟩ := rw_app hrw hu hW (fun k hk => by rw [hk]; exact hsb) rfl hlt hl hf hf4
  exact ⟨Sx S A' x, ⟨b, A', c', l ++ [x], rfl, hh, by simp [hway, hx], hb', .inl hsb, hr', hlt'⟩, hs', ho'.mono (fun k hk => by
    rcases hk with hk | hk
    · rw [hk]; exact hsb
    · exact (hrw.inA k hk).1)⟩
theorem r_send (S : Nat → Prop) (p : Addr) (st : Nt.St) (f t : Int × Int) (A : Option Addr) (n c : Nat) (bs : List Int) (w : World) (h : IsR S w p st) (hin : InB w A n c bs) (hn : n ≤ 140737488351232) :
    Calls Try.prog 21 #[.pointer (some p), adV f, adV t, .slice A n c] w fun e w' => ∃ S', e = .returned (.int .i64 (Nt.sendE st f t bs)) ∧ IsR S' w' p (Nt.sendS st f t bs) ∧ Sub S' S w ∧ Out S w w' := by
  have h' := h
  obtain ⟨b, A0, c0, l, rfl, hh, hway, hb, hsb, hrw, hlt⟩ := h
  have kc : w.cell? ⟨b, 0, none⟩ = some (.int .i64 st.hosts) := cell_of hb (refBlk_0 _ _ _ _ _)
  have hbl : bs.length = n := hin.len
  have hwl : st.way.length = l.length := by rw [hway, List.length_map]
  obtain ⟨f1, f2⟩ := f
  obtain ⟨t1, t2⟩ := t
  by_cases hok : (0 ≤ f1 ∧ f1 < st.hosts) ∧ (0 ≤ t1 ∧ t1 < st.hosts) ∧ f1 ≠ t1 ∧ 0 ≤ f2 ∧ f2 ≤ 1 ∧ 0 ≤ t2 ∧ t2 ≤ 1
  · have hok2 : Nt.okA st (f1, f2) ∧ Nt.okA st (t1, t2) ∧ ((f1, f2) : Int × Int).1 ≠ ((t1, t2) : Int × Int).1 := by
      unfold Nt.okA
      simp only
      omega
    by_cases hn4 : 4096 < n
    · have e1 : Nt.sendE st (f1, f2) (t1, t2) bs = 4 := by unfold Nt.sendE; rw [if_pos hok2, if_pos (by omega)]
      have e2 : Nt.sendS st (f1, f2) (t1, t2) bs = st := if_neg (by rw [e1]; rintro ⟨h, _⟩; cases h)
      rw [e1, e2]
      exact (send_r_large b st.hosts f1 f2 t1 t2 A n c w kc hok.1 hok.2.1 hok.2.2.1 hok.2.2.2.1 hok.2.2.2.2.1 hok.2.2.2.2.2.1 hok.2.2.2.2.2.2 hn4).mono fun e w' ⟨he, hu⟩ => ⟨S, he, isR_up h' hu, Sub.refl _ _, hu.out S⟩
    · have e1 : Nt.sendE st (f1, f2) (t1, t2) bs = 0 := by unfold Nt.sendE; rw [if_pos hok2, if_neg (by omega)]
      rw [e1]
      obtain ⟨⟨f0, fl⟩, ⟨t0, tl⟩, hne, g0, g1, k0, k1⟩ := hok
      obtain ⟨fa, rfl⟩ : ∃ fa : Nat, f1 = fa := ⟨f1.toNat, by omega⟩
      obtain ⟨ta, rfl⟩ : ∃ ta : Nat, t1 = ta := ⟨t1.toNat, by omega⟩
      obtain ⟨fq, rfl⟩ : ∃ fq : Nat, f2 = fq := ⟨f2.toNat, by omega⟩
      refine (send_r b fa ta fq st.hosts t2 A0 A n c0 c l st.down bs w hb hrw.row hrw.len (fun q hq e => (hrw.inA q hq).2 e) hin fl tl (by omega) (by omega) k0 k1 hh.2 (by omega)).mono fun e w' ⟨he, w0, hu, hp⟩ => ?_
      cases hc : comeB (st.down fa ta fq) l.length with
      | false =>
        rw [hc] at hp
        have hw : w' = w0 := hp
        subst hw
        have e2 : Nt.sendS st ((fa : Int), (fq : Int)) ((ta : Int), t2) bs = st := if_neg (fun hh => by
          have : comeB (st.down fa ta fq) l.length = true := decide_eq_true ⟨hh.2.1, by rw [← hwl]; exact hh.2.2⟩
          rw [hc] at this; cases this)
        rw [e2]
        exact ⟨S, he, isR_up h' hu, Sub.refl _ _, hu.out S⟩
      | true =>
        rw [hc] at hp
        have hd : st.down fa ta fq = false ∧ l.length < 1024 := of_decide_eq_true hc
        rw [Nt.sendS_up e1 hd.1 (by rw [hwl]; exact hd.2)]
        obtain ⟨S', h1, h2, h3⟩ := isR_app hh hway hsb hrw hlt hu hp hd.2 hin.byt (by show bs.length ≤ 4096; omega)
        exact ⟨S', he, h1, h2, h3⟩
  · have hno : ¬ (Nt.okA st (f1, f2) ∧ Nt.okA st (t1, t2) ∧ ((f1, f2) : Int × Int).1 ≠ ((t1, t2) : Int × Int).1) := by
      unfold Nt.okA
      simp only
      omega
    have e1 : Nt.sendE st (f1, f2) (t1, t2) bs = 1 := if_neg hno
    have e2 : Nt.sendS st (f1, f2) (t1, t2) bs = st := if_neg (by rw [e1]; rintro ⟨h, _⟩; cases h)
    rw [e1, e2]
    exact (send_r_bad b st.hosts f1 f2 t1 t2 A n c w kc hok).mono fun e w' ⟨he, hu⟩ => ⟨S, he, isR_up h' hu, Sub.refl _ _, hu.out S⟩
theorem r_twin (S : Nat → Prop) (p : Addr) (st : Nt.St) (k : Int) (w : World) (h : IsR S w p st) :
    Calls Try.prog 24 #[.pointer (some p), .int .i64 k] w fun e w' => ∃ S', e = .returned (.int .i64 (Nt.twinE st k)) ∧ IsR S' w' p (Nt.twinS st k) ∧ Sub S' S w ∧ Out S w w' := by
  have h' := h
  obtain ⟨b, A0, c0, l, rfl, hh, hway, hb, hsb, hrw, hlt⟩ := h
  have kb : w.cell? ⟨b, 1, none⟩ = some (.slice A0 l.length c0) := cell_of hb (refBlk_1 _ _ _ _ _)
  have hwl : st.way.length = l.length := by rw [hway, List.length_map]
  by_cases hk : Nt.has st k
  · obtain ⟨j, rfl, hj⟩ := has_nat hk
    rw [hwl] at hj
    by_cases hf : 1024 ≤ l.length
    · have e1 : Nt.twinE st (j : Int) = 10 := by unfold Nt.twinE; rw [if_pos hk, if_pos (by omega)]
      have e2 : Nt.twinS st (j : Int) = st := if_neg (by rw [e1]; decide)
      rw [e1, e2]
      exact (twin_r_full b l.length c0 j A0 w kb hrw.len hj hf).mono fun e w' ⟨he, hw⟩ => ⟨S, he, by rw [hw]; exact h', Sub.refl _ _, by rw [hw]; exact Out.refl _ _⟩
    · have e1 : Nt.twinE st (j : Int) = 0 := by unfold Nt.twinE; rw [if_pos hk, if_neg (by omega)]
      have e2 : Nt.twinS st (j : Int) = { st with way := st.way ++ [Nt.fr st (j : Int)] } := if_pos e1
      rw [e1, e2]
      obtain ⟨l1, x, l2, rfl, hl1⟩ := part_at hj
      obtain ⟨hfr, -, -⟩ := part_fr hway hl1
      rw [hfr]
      obtain ⟨g, rfl⟩ := row_at hrw.row (by omega)
      have hx := hrw.fr x (by simp)
      refine (twin_r b g c0 j st.hosts st.down (l1 ++ x :: l2) x w hb hrw.row (by omega) (by rw [List.getElem?_append_right (by omega)]; simp [hl1]) (fun q hq e => (hrw.inA q hq).2 e) hx).mono fun e w' ⟨he, hp⟩ => ?_
      obtain ⟨S', h1, h2, h3⟩ := isR_app hh hway hsb hrw hlt (Up.refl w) hp (by omega) hx.2.1 hx.2.2
      exact ⟨S', he, h1, h2, h3⟩
  · have e1 : Nt.twinE st k = 8 := if_neg hk
    have e2 : Nt.twinS st k = st := if_neg (by rw [e1]; decide)
    rw [e1, e2]
    exact (twin_r_no b l.length c0 A0 k w kb hrw.len (by rw [← hwl]; exact hk)).mono fun e w' ⟨he, hw⟩ => ⟨S, he, by rw [hw]; exact h', Sub.refl _ _, by rw [hw]; exact Out.refl _ _⟩
theorem r_takeNo (S : Nat → Prop) (p : Addr) (st : Nt.St) (k : Int) (w : World) (h : IsR S w p st) (hk : ¬ Nt.has st k) :
    Calls Try.prog 22 #[.pointer (some p), .int .i64 k] w fun e w' => ∃ S', e = .returned (.tuple #[frV default (.slice none 0 0), .int .i64 8]) ∧ IsR S' w' p st ∧ Sub S' S w ∧ Out S w w' := by
  have h' := h
  obtain ⟨b, A0, c0, l, rfl, hh, hway, hb, hsb, hrw, hlt⟩ := h
  have hwl : st.way.length = l.length := by rw [hway, List.length_map]
  exact (take_r_no b l.length c0 A0 k w (cell_of hb (refBlk_1 _ _ _ _ _)) hrw.len (by rw [← hwl]; exact hk)).mono fun e w' ⟨he, hu⟩ => ⟨S, he, isR_up h' hu, Sub.refl _ _, hu.out S⟩
/-- Take of the reference, in the words of TkPost. -/
theorem take_tk {S : Nat → Prop} {w : World} {b c0 j g : Nat} {st : Nt.St} {l1 l2 : List FrB} {x : FrB} (hb : w.heap[b]? = some (.cells (refHd st.down st.hosts (some ⟨g, 0, none⟩) (l1 ++ x :: l2).length c0) 34 (0, 0)))
    (hrw : Rw S (fun k => k = b) w (some ⟨g, 0, none⟩) c0 (l1 ++ x :: l2)) (hlt : ∀ k, S k → k < w.heap.size) (hl1 : l1.length = j) :
    Calls Try.prog 22 #[.pointer (some ⟨b, 0, none⟩), .int .i64 (j : Int)] w fun e w1 => ∃ A1 c, e = .returned (.tuple #[frV x.f (.slice x.A x.f.bytes.length x.c), .int .i64 0]) ∧ TkPost b 34 (refHd st.down st.hosts) (l1 ++ l2) x (some ⟨g, 0, none⟩) (fun q => q = b) w A1 c w1 := by
  have hgb : g ≠ b := (hrw.inA g rfl).2
  have hap := hrw.apart
  have hlen : (l1 ++ x :: l2).length = j + 1 + l2.length := by simp; omega
  have hlen2 := hrw.len
  have hx := hrw.fr x (by simp)
  have hrow := hrw.row
  rw [hlen] at hb hrow
  refine (take_ok g b c0 j x l1 l2 st.hosts st.down w hl1 (by omega) hb hrow hgb).mono fun e w' ⟨A', N, c', he, hb', hr', hN, ho'⟩ => ?_
  subst hN
  have hl2 : (l1 ++ l2).length = l1.length + l2.length := by simp
  have hA' : ∀ q, blk? A' = some q → w.heap.size ≤ q := fun q hq => (World.ownsRow.lt hr' q (by rw [ownBlock_slice]; exact hq)).1
  refine ⟨A', c', he, by rw [hl2]; exact hb', ?_, fun q hq => ⟨fun e => ?_, fun e => ?_⟩, fun e => (hap b e).1.2.1 rfl, frIn_blk hx (fun k hk => ho'.block k (hlt k (hap k hk).1.1) (fun e => (hap k hk).1.2.1 e)), ho', fun q hq => .inr (hA' q hq)⟩
  · rw [hl2]
    exact ⟨hr'.1, hr'.2.imp id fun ⟨g, cap, cur, h1, h2, h3⟩ => ⟨g, cap, cur, h1, Nat.zero_le _, h3⟩⟩
  · have := hA' q hq
    have := lt_of_blk hb
    omega
  · have := hA' q hq
    have := hlt q (hap q e).1.1
    omega
theorem r_take (S : Nat → Prop) (p : Addr) (st : Nt.St) (k : Int) (w : World) (h : IsR S w p st) (hk : Nt.has st k) :
    Calls Try.prog 22 #[.pointer (some p), .int .i64 k] w fun e w' => ∃ S' A c, e = .returned (.tuple #[frV (Nt.fr st k) (.slice A (Nt.fr st k).bytes.length c), .int .i64 0]) ∧ InB w' A (Nt.fr st k).bytes.length c (Nt.fr st k).bytes ∧ (∀ b, blk? A = some b → ¬ S' b) ∧ IsR S' w' p (Nt.takeS st k) ∧ Sub S' S w ∧ Out S w w' := by
  obtain ⟨b, A0, c0, l, rfl, hh, hway, hb, hsb, hrw, hlt⟩ := h
  have hwl : st.way.length = l.length := by rw [hway, List.length_map]
  obtain ⟨j, rfl, hj⟩ := has_nat hk
  rw [hwl] at hj
  obtain ⟨l1, x, l2, rfl, hl1⟩ := part_at hj
  obtain ⟨hfr, her, -⟩ := part_fr hway hl1
  obtain ⟨g, rfl⟩ := row_at hrw.row (by omega)
  have hap := hrw.apart
  rw [hfr]
  refine (take_tk hb hrw hlt hl1).mono fun e w' ⟨A', c', he, hb', hr', hA', hxb, hfx, ho', hQ⟩ => ?_
  have hnew : ∀ k, blk? A' = some k → k = g ∨ w.heap.size ≤ k := fun k hk => (hQ k hk).imp (fun h => by cases h; rfl) id
  have hlt' : ∀ k, blk? A' = some k → k < w'.heap.size := fun k hk => (World.ownsRow.lt hr' k (by rw [ownBlock_slice]; exact hk)).2
  refine ⟨fun k => (S k ∧ blk? x.A ≠ some k) ∨ blk? A' = some k, x.A, x.c, he, own_inB hfx.1 hfx.2.1, fun k hk hs => ?_, ⟨b, A', c', l1 ++ l2, rfl, hh, ?_, hb', .inl ⟨hsb, hxb⟩, ?_, fun k hk => ?_⟩, fun k hk => ?_, ho'.mono (fun k hk => by rw [hk]; exact hsb)⟩
  · rcases hs with hs | hs
    · exact hs.2 hk
    · exact (hA' k hs).2 hk
  · unfold Nt.takeS
    simp only [Int.toNat_natCast]
    exact her
  · refine hrw.erase hr' (fun k hs hX _ => ho'.block k (hlt k hs) hX) (fun k hk => ⟨(hA' k hk).1, .inr hk, fun y hy e => ?_⟩) (fun y hy k hk => ?_)
    · have hy' : y ∈ l1 ++ x :: l2 := by
        rcases List.mem_append.1 hy with h1 | h1
        · exact List.mem_append_left _ h1
        · exact List.mem_append_right _ (List.mem_cons_of_mem _ h1)
      have h2 := hrw.inF y hy' k e
      rcases hnew k hk with h3 | h3
      · exact h2.2.2 (by rw [h3]; rfl)
      · have := hlt k h2.1; omega
    · have hy' : y ∈ l1 ++ x :: l2 := by
        rcases List.mem_append.1 hy with h1 | h1
        · exact List.mem_append_left _ h1
        · exact List.mem_append_right _ (List.mem_cons_of_mem _ h1)
      exact .inl ⟨(hrw.inF y hy' k hk).1, fun e => (hap k e).2 y hy hk⟩
  · rcases hk with hk | hk
    · exact Nat.lt_of_lt_of_le (hlt k hk.1) ho'.size
    · exact hlt' k hk
  · rcases hk with hk | hk
    · exact .inl hk.1
    · rcases hnew k hk with h3 | h3
      · exact .inl (by rw [h3]; exact (hrw.inA g rfl).1)
      · exact .inr h3
theorem r_last (S : Nat → Prop) (p : Addr) (st : Nt.St) (k : Int) (w : World) (h : IsR S w p st) :
    Calls Try.prog 25 #[.pointer (some p), .int .i64 k] w fun e w' => ∃ S', e = .returned (.int .i64 (Nt.lastE st k)) ∧ IsR S' w' p (Nt.lastS st k) ∧ Sub S' S w ∧ Out S w w' := by
  have h' := h
  obtain ⟨b, A0, c0, l, rfl, hh, hway, hb, hsb, hrw, hlt⟩ := h
  have hwl : st.way.length = l.length := by rw [hway, List.length_map]
  by_cases hk : Nt.has st k
  · have e1 : Nt.lastE st k = 0 := if_pos hk
    have e2 : Nt.lastS st k = { st with way := st.way.eraseIdx k.toNat ++ [Nt.fr st k] } := if_pos hk
    rw [e1, e2]
    obtain ⟨j, rfl, hj⟩ := has_nat hk
    rw [hwl] at hj
    obtain ⟨l1, x, l2, rfl, hl1⟩ := part_at hj
    obtain ⟨hfr, her, -⟩ := part_fr hway hl1
    obtain ⟨g, rfl⟩ := row_at hrw.row (by omega)
    have hlen2 := hrw.len
    refine (last_r b (j : Int) st.hosts st.down (l1 ++ l2) x (some ⟨g, 0, none⟩) _ w (by simp at hlen2 ⊢; omega) (take_tk hb hrw hlt hl1)).mono fun e w' ⟨he, w0, A1, c1, ht, hW⟩ => ?_
    obtain ⟨S', A', c', hb', hr', hs', hss, ho', hlt'⟩ := rw_last hrw (fun k hk => by rw [hk]; exact hsb) rfl hlt (fun k hk => .inl hk) ht hW
    refine ⟨S', he, ⟨b, A', c', l1 ++ l2 ++ [x], rfl, hh, ?_, hb', hss b hsb, hr', hlt'⟩, hs', ho'.mono (fun k hk => ?_)⟩
    · simp only [Int.toNat_natCast, her, hfr]
      simp
    · rcases hk with hk | hk
      · rw [hk]; exact hsb
      · exact (hrw.inA k hk).1
  · have e1 : Nt.lastE st k = 8 := if_neg hk
    have e2 : Nt.lastS st k = st := if_neg hk
    rw [e1, e2]
    exact (last_r_no b l.length c0 A0 k w (cell_of hb (refBlk_1 _ _ _ _ _)) hrw.len (by rw [← hwl]; exact hk)).mono fun e w' ⟨he, hu⟩ => ⟨S, he, isR_up h' hu, Sub.refl _ _, hu.out S⟩
theorem r_turn (S : Nat → Prop) (p : Addr) (st : Nt.St) (k q bits : Int) (w : World) (h : IsR S w p st) (hb0 : 0 ≤ bits) (hb1 : bits < 256) :
    Calls Try.prog 26 #[.pointer (some p), .int .i64 k, .int .i64 q, .int .u8 bits] w fun e w' => ∃ S', e = .returned (.int .i64 (Nt.turnE st k q bits)) ∧ IsR S' w' p (Nt.turnS st k q bits) ∧ Sub S' S w ∧ Out S w w' := by
  have h' := h
  obtain ⟨b, A0, c0, l, rfl, hh, hway, hb, hsb, hrw, hlt⟩ := h
  have hwl : st.way.length = l.length := by rw [hway, List.length_map]
  have kb : w.cell? ⟨b, 1, none⟩ = some (.slice A0 l.length c0) := cell_of hb (refBlk_1 _ _ _ _ _)
  have same : ∀ {r : Int}, Nt.turnE st k q bits = r → r ≠ 0 → Calls Try.prog 26 #[.pointer (some ⟨b, 0, none⟩), .int .i64 k, .int .i64 q, .int .u8 bits] w (fun e w' => e = .returned (.int .i64 r) ∧ w' = w) → Calls Try.prog 26 #[.pointer (some ⟨b, 0, none⟩), .int .i64 k, .int .i64 q, .int .u8 bits] w fun e w' => ∃ S', e = .returned (.int .i64 (Nt.turnE st k q bits)) ∧ IsR S' w' ⟨b, 0, none⟩ (Nt.turnS st k q bits) ∧ Sub S' S w ∧ Out S w w' := fun {r} he hr hc => hc.mono fun e w' ⟨h1, h2⟩ => by
    have e2 : Nt.turnS st k q bits = st := if_neg (by rw [he]; exact hr)
    rw [he, e2, h2]
    exact ⟨S, h1, h', Sub.refl _ _, Out.refl _ _⟩
  by_cases hk : Nt.has st k
  · obtain ⟨j, rfl, hj⟩ := has_nat hk
    rw [hwl] at hj
    obtain ⟨l1, x, l2, rfl, hl1⟩ := part_at hj
    obtain ⟨hfr, -, hset⟩ := part_fr hway hl1
    obtain ⟨g, rfl⟩ := row_at hrw.row (by omega)
    obtain ⟨k4, k5, f5⟩ := turn_cells hrw hl1
    have hx := hrw.fr x (by simp)
    have hE : Nt.turnE st (j : Int) q bits = if bits ≠ 0 ∧ 0 ≤ q ∧ q < x.f.bytes.length then (if x.f.tn then 7 else 0) else 1 := by unfold Nt.turnE; rw [if_pos hk, hfr]
    by_cases hz : bits = 0
    · subst hz
      exact same (by rw [hE, if_neg (by omega)]) (by decide) (turn_r_b0 g b c0 _ j _ _ x.A q w hrw.len hj kb k4)
    · by_cases hq0 : q < 0
      · exact same (by rw [hE, if_neg (by omega)]) (by decide) (turn_r_q0 g b c0 _ j _ _ x.A q bits w hrw.len hj kb k4 hz hq0)
      · obtain ⟨r, rfl⟩ : ∃ r : Nat, q = r := ⟨q.toNat, by omega⟩
        by_cases hqn : x.f.bytes.length ≤ r
        · exact same (by rw [hE, if_neg (by omega)]) (by decide) (turn_r_qn g b c0 _ j _ _ x.A r bits w hrw.len hj kb k4 hz hqn)
        · cases htn : x.f.tn with
          | true =>
            rw [htn] at k5
            exact same (by rw [hE, if_pos (by omega), if_pos htn]) (by decide) (turn_r_tn g b c0 _ j _ _ x.A r bits w hrw.len hj kb k4 k5 hz (by omega) hx.2.2)
          | false =>
            rw [htn] at k5
            have e1 : Nt.turnE st (j : Int) (r : Int) bits = 0 := by rw [hE, if_pos (by omega), if_neg (by simp [htn])]
            have e2 : Nt.turnS st (j : Int) (r : Int) bits = { st with way := st.way.set j (Nt.turnF x.f (r : Int) bits) } := by unfold Nt.turnS; rw [if_pos e1, hfr, Int.toNat_natCast]
            rw [e1, e2]
            obtain ⟨bn, rfl⟩ : ∃ bn : Nat, bits = bn := ⟨bits.toNat, by omega⟩
            obtain ⟨xg, vn, hxA, kx, fx, hv, hvn⟩ := turn_byte (q := r) hx (by omega)
            rw [hxA] at k4
            have hgx : g ≠ xg := fun e => (hrw.inF x (by simp) xg (by rw [hxA]; rfl)).2.2 (by rw [e]; rfl)
            have hgX := (hrw.inA g rfl)
            have hxX := hrw.inF x (by simp) xg (by rw [hxA]; rfl)
            refine (turn_r g b xg c0 _ j _ _ vn bn r w hrw.len hj (by omega) hx.2.2 kb k4 k5 f5 kx fx hvn ⟨by omega, by omega⟩ hgx (fun e => hxX.2.1 e.symm)).mono fun e w' ⟨he, w1, hu1, hw⟩ => ?_
            have hrw1 : Rw S (fun k => k = b) w1 (some ⟨g, 0, none⟩) c0 (l1 ++ x :: l2) := hrw.keep (fun k hs _ => hu1.block k (hlt k hs))
            have hO : Out (fun j => j = g ∨ j = xg) w1 w' := by
              rw [hw]
              exact ((setCell_out w1 xg r _).mono fun k hk => .inr hk).trans ((setCell_out _ g (j * 6 + 5) _).mono fun k hk => .inl hk) (Sub.refl _ _)
            have hT := hrw1.turn (q := r) (bn := bn) hl1 hxA hv hvn (by omega)
            have hl3 : (l1 ++ ⟨Nt.turnF x.f (r : Int) (bn : Int), x.A, x.c⟩ :: l2).length = (l1 ++ x :: l2).length := by simp
            refine ⟨S, he, ⟨b, some ⟨g, 0, none⟩, c0, l1 ++ ⟨Nt.turnF x.f (r : Int) (bn : Int), x.A, x.c⟩ :: l2, rfl, hh, ?_, ?_, hsb, by rw [hw]; exact hT, fun k hk => Nat.lt_of_lt_of_le (hlt k hk) (Nat.le_trans hu1.size hO.size)⟩, Sub.refl _ _, (hu1.out S).trans (hO.mono (fun k hk => ?_)) (Sub.refl _ _)⟩
            · simp only [hset, List.map_append, List.map_cons]
            · rw [hl3]
              exact hO.blk ((hu1.out No).blk hb (fun h => h)) (fun e => by
                rcases e with e | e
                · exact hgX.2 e.symm
                · exact hxX.2.1 e.symm)
            · rcases hk with rfl | rfl
              · exact hgX.1
              · exact hxX.1
  · have e1 : Nt.turnE st k q bits = 8 := if_neg hk
    exact same e1 (by decide) (turn_r_no b c0 l.length A0 k q bits w hrw.len (by rw [← hwl]; exact hk) kb)
theorem rcR : RC IsR where
  lt := isR_lt
  keep := isR_keep
  way := fun h => isRf_way (isR_iff.1 h)
  new := fun h w h1 h2 => isR_iff.2 (isRf_new h w h1 h2)
  send := fun S p st f t A n c bs w h hin _ _ _ _ hn => r_send S p st f t A n c bs w h hin hn
  take := r_take
  takeNo := fun S p st k w h _ hk => r_takeNo S p st k w h hk
  twin := fun S p st k w h _ => r_twin S p st k w h
  last := fun S p st k w h _ => r_last S p st k w h
  turn := fun S p st k q bits w h _ _ h0 h1 => r_turn S p st k q bits w h h0 h1
  cut := fun S p st f t q d w h _ _ _ => (rf_cut S p st f t q d w (isR_iff.1 h)).mono fun e w' ⟨S', h1, h2, h3⟩ => ⟨S', h1, isR_iff.2 h2, h3⟩
end Go.Proofs.Ytfbjhialjepodaa
