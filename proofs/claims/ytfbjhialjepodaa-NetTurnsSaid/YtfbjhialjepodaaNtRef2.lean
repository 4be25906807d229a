import Derived.Test.YtfbjhialjepodaaNtRef
namespace Go.Proofs.Ytfbjhialjepodaa
open Go Go.RowKit
set_option linter.unusedVariables false
theorem own_blk {w w' : World} {base size n : Nat} {e : TypeId} {v : Value} {xs : List Value} (h : w.ownsRow base e size v n xs) (hk : ∀ g, v.ownBlock = some g → w'.heap[g]? = w.heap[g]?) : w'.ownsRow base e size v n xs := by
  refine ⟨h.1, ?_⟩
  rcases h.2 with h2 | ⟨g, cap, cur, hv, hg, hh, r⟩
  · exact .inl h2
  · subst hv
    exact .inr ⟨g, cap, cur, rfl, hg, by rw [hk g rfl]; exact hh, r⟩
theorem isRf_keep {S : Nat → Prop} {w w' : World} {p : Addr} {st : Nt.St} (h : IsRf S w p st) (hk : ∀ k, S k → w'.heap[k]? = w.heap[k]?) : IsRf S w' p st := by
  obtain ⟨b, A, c, l, h1, h2, h3, h4, h5, h6, h7, h8, h9, h10, h11, h12⟩ := h
  refine ⟨b, A, c, l, h1, h2, h3, h4, (hk b h9).trans h5, own_blk h6 (fun g hg => hk g (h10 g (by rwa [ownBlock_slice] at hg)).1), fun x hx => ⟨own_blk (h7 x hx).1 (fun g hg => hk g (h11 x hx g (by rwa [ownBlock_slice] at hg)).1), (h7 x hx).2⟩, fun k hs => ?_, h9, h10, h11, h12⟩
  have h0 := h8 k hs
  have e := hk k hs
  rw [Array.getElem?_eq_getElem h0] at e
  exact (Array.getElem?_eq_some_iff.1 e).1
theorem isRf_new (h : Int) (w : World) (h1 : 1 ≤ h) (h2 : h ≤ 8) : IsRf (fun k => k = w.heap.size) (w.alloc (.cells (refCells h) 34)) ⟨w.heap.size, 0, none⟩ (Nt.new h) := by
  refine ⟨w.heap.size, none, 0, [], rfl, ⟨h1, h2⟩, rfl, Nat.zero_le _, ?_, World.ownsRow_nil _ _ _ _, (fun x hx => by cases hx), fun k e => ?_, rfl, (fun k hk => by cases hk), (fun x hx => by cases hx), List.Pairwise.nil⟩
  · rw [refCells_eq]; exact new_at _ _
  · have := lt_of_blk (new_at w (.cells (refCells h) 34)); omega
theorem row_cell {w : World} {g n c base : Nat} {e : TypeId} {s : Nat} {xs : List Value} (h : w.ownsRow base e s (.slice (some ⟨g, 0, none⟩) n c) n xs) {j : Nat} {v : Value} (hj : xs[j]? = some v) : w.cell? ⟨g, j, none⟩ = some v := by
  rcases h.2 with ⟨h1, _⟩ | ⟨g', cap, cur, hv, _, hh, _, _, hsz, ht⟩
  · cases h1
  · injection hv with hv
    injection hv with hv
    injection hv with hv
    subst hv
    refine cell_of hh ?_
    rw [← ht, List.getElem?_take] at hj
    split at hj
    · simpa using hj
    · cases hj
theorem row_at {w : World} {A : Option Addr} {n c base : Nat} {e : TypeId} {s : Nat} {xs : List Value} (h : w.ownsRow base e s (.slice A n c) n xs) (hn : 0 < n) : ∃ g, A = some ⟨g, 0, none⟩ := by
  rcases h.2 with ⟨h1, h2⟩ | ⟨g', cap, cur, hv, _⟩
  · omega
  · injection hv with hv
    exact ⟨g', hv⟩
theorem isRf_way {S : Nat → Prop} {w : World} {p : Addr} {st : Nt.St} (h : IsRf S w p st) : ∃ b A c, p = ⟨b, 0, none⟩ ∧ w.cell? ⟨b, 1, none⟩ = some (.slice A st.way.length c) ∧ Rows w A st.way := by
  obtain ⟨b, A, c, l, h1, h2, h3, h4, h5, h6, h7, h8, h9, h10, h11, h12⟩ := h
  have hl : st.way.length = l.length := by rw [h3, List.length_map]
  refine ⟨b, A, c, h1, by rw [hl]; exact cell_of h5 (refBlk_1 _ _ _ _ _), fun i hi => ?_⟩
  have hi2 : i < l.length := by omega
  obtain ⟨g, rfl⟩ := row_at h6 (by omega)
  obtain ⟨x, hx⟩ : ∃ x, l[i]? = some x := ⟨l[i], by simp [hi2]⟩
  have hf : st.way.getD i default = x.f := by rw [h3, List.getD_eq_getElem?_getD, List.getElem?_map, hx]; rfl
  rw [hf]
  have hc : ∀ (j : Nat) (v : Value), (frc x)[j]? = some v → w.cell? ⟨g, i * 6 + j, none⟩ = some v := fun j v hv => row_cell h6 (rowc_at hx hv)
  have hm := h7 x (List.mem_of_getElem? hx)
  refine ⟨g, 0, x.A, x.c, rfl, ?_, own_inB hm.1 hm.2.1⟩
  simp only [Nat.zero_add]
  exact ⟨hc 0 _ rfl, hc 1 _ rfl, hc 2 _ rfl, hc 3 _ rfl, hc 4 _ rfl, hc 5 _ rfl⟩
set_option maxRecDepth 100000 in
theorem host (b : Nat) (h hosts : Int) (w : World) (hc : w.cell? ⟨b, 0, none⟩ = some (.int .i64 hosts)) :
    Calls Try.prog 35 #[.pointer (some ⟨b, 0, none⟩), .int .i64 h] w fun e w' => e = .returned (.bool (decide (0 ≤ h ∧ h < hosts))) ∧ w' = w := by
  by_cases h0 : 0 ≤ h
  · go_enter Try.func35, Try.ntmps35
    go_wp2_with fail
    go_ret
    exact ⟨by simp [h0], rfl⟩
  · go_enter Try.func35, Try.ntmps35
    go_wp2_with fail
    go_ret
    exact ⟨by simp; omega, rfl⟩
set_option maxRecDepth 100000 in
set_option maxHeartbeats 1000000 in
theorem own (f : Nt.Fr) (A : Option Addr) (n c : Nat) (w : World) (h : InB w A n c f.bytes) (hn : n ≤ 4096) :
    Calls Try.prog 36 #[frV f (.slice A n c)] w fun e w' => ∃ A' c', e = .returned (frV f (.slice A' n c')) ∧ OwnI .u8 5 w.heap.size w' A' n c' f.bytes ∧ Up w w' := by
  have HI := Lib.hid h
  clear h
  unfold frV
  go_enter Try.func36, Try.ntmps36
  go_upto_region 1 with (fail)
  have hF := (up_alloc (w.alloc (.cells #[.int .i64 f.fh, .int .i64 f.fp, .int .i64 f.th, .int .i64 f.tp, .slice A n c, .bool f.tn] 46)) (.cells #[.int .i64 0, .int .i64 0, .int .i64 0, .int .i64 0, .slice none 0 0, .bool false] 46)).block w.heap.size (lt_of_blk (new_at w (.cells #[.int .i64 f.fh, .int .i64 f.fp, .int .i64 f.th, .int .i64 f.tp, .slice A n c, .bool f.tn] 46)))
  rw [new_at w (.cells #[.int .i64 f.fh, .int .i64 f.fp, .int .i64 f.th, .int .i64 f.tp, .slice A n c, .bool f.tn] 46)] at hF
  have hZ := new_at (w.alloc (.cells #[.int .i64 f.fh, .int .i64 f.fp, .int .i64 f.th, .int .i64 f.tp, .slice A n c, .bool f.tn] 46)) (.cells #[.int .i64 0, .int .i64 0, .int .i64 0, .int .i64 0, .slice none 0 0, .bool false] 46)
  have hs1 : (w.alloc (.cells #[.int .i64 f.fh, .int .i64 f.fp, .int .i64 f.th, .int .i64 f.tp, .slice A n c, .bool f.tn] 46)).heap.size = w.heap.size + 1 := by simp
  rw [hs1] at hZ
  have HU := Lib.hid ((up_alloc w (.cells #[.int .i64 f.fh, .int .i64 f.fp, .int .i64 f.th, .int .i64 f.tp, .slice A n c, .bool f.tn] 46)).trans (up_alloc _ (.cells #[.int .i64 0, .int .i64 0, .int .i64 0, .int .i64 0, .slice none 0 0, .bool false] 46)))
  clear hs1
  have HB := Lib.hid (Nat.le_refl w.heap.size)
  generalize ((w.alloc (.cells #[.int .i64 f.fh, .int .i64 f.fp, .int .i64 f.th, .int .i64 f.tp, .slice A n c, .bool f.tn] 46)).alloc (.cells #[.int .i64 0, .int .i64 0, .int .i64 0, .int .i64 0, .slice none 0 0, .bool false] 46)) = W at hF hZ HU ⊢
  obtain ⟨bx, hbx⟩ : ∃ bx, bx = w.heap.size := ⟨_, rfl⟩
  rw [← hbx] at hF hZ ⊢
  have HBX := Lib.hid hbx
  have c4 := cell_up (cell_of hF (j := 4) rfl) (up_alloc W (.cells #[] 5))
  have HF := Lib.hid hF
  have HZ := Lib.hid hZ
  clear hF hZ hbx
  go_wp2_with (at_builtin; refine wpList_appendI rfl (.tmp 3) (.tmp 5) 38 rfl .u8 W.heap.size 5 1 Try.underlying38 info5t (some ⟨W.heap.size, 0, none⟩) 0 0 [] rfl (ownI_new _ _ _) A n c f.bytes rfl HI.out.len ((HI.out.up HU.out).cells.alloc _) (by omega) (by omega) (by simp) ((Below.refl _ _).alloc (Nat.le_refl _) _) ?_; intro A3 N3 c3 w3 HN3 HW3 HU3 hsz3; have HF3 := Lib.hid ((HU3.out.block bx (lt_of_blk HF.out)).trans HF.out); have HZ3 := Lib.hid ((HU3.out.block (bx + 1) (lt_of_blk HZ.out)).trans HZ.out); have f0 : w3.cell? ⟨bx, 0, none⟩ = some (.int .i64 f.fh) := cell_of HF3.out (j := 0) rfl; have e0 : w3.cell? ⟨bx + 1, 0, none⟩ = some (.int .i64 0) := cell_of HZ3.out (j := 0) rfl; have g0 : w3.frozen? ⟨bx + 1, 0, none⟩ = false := frozen_at (j := 0) HZ3.out; have f1 : w3.cell? ⟨bx, 1, none⟩ = some (.int .i64 f.fp) := cell_of HF3.out (j := 1) rfl; have e1 : w3.cell? ⟨bx + 1, 1, none⟩ = some (.int .i64 0) := cell_of HZ3.out (j := 1) rfl; have g1 : w3.frozen? ⟨bx + 1, 1, none⟩ = false := frozen_at (j := 1) HZ3.out; have f2 : w3.cell? ⟨bx, 2, none⟩ = some (.int .i64 f.th) := cell_of HF3.out (j := 2) rfl; have e2 : w3.cell? ⟨bx + 1, 2, none⟩ = some (.int .i64 0) := cell_of HZ3.out (j := 2) rfl; have g2 : w3.frozen? ⟨bx + 1, 2, none⟩ = false := frozen_at (j := 2) HZ3.out; have f3 : w3.cell? ⟨bx, 3, none⟩ = some (.int .i64 f.tp) := cell_of HF3.out (j := 3) rfl; have e3 : w3.cell? ⟨bx + 1, 3, none⟩ = some (.int .i64 0) := cell_of HZ3.out (j := 3) rfl; have g3 : w3.frozen? ⟨bx + 1, 3, none⟩ = false := frozen_at (j := 3) HZ3.out; have f4 : w3.cell? ⟨bx, 4, none⟩ = some (.slice A n c) := cell_of HF3.out (j := 4) rfl; have e4 : w3.cell? ⟨bx + 1, 4, none⟩ = some (.slice none 0 0) := cell_of HZ3.out (j := 4) rfl; have g4 : w3.frozen? ⟨bx + 1, 4, none⟩ = false := frozen_at (j := 4) HZ3.out; have f5 : w3.cell? ⟨bx, 5, none⟩ = some (.bool f.tn) := cell_of HF3.out (j := 5) rfl; have e5 : w3.cell? ⟨bx + 1, 5, none⟩ = some (.bool false) := cell_of HZ3.out (j := 5) rfl; have g5 : w3.frozen? ⟨bx + 1, 5, none⟩ = false := frozen_at (j := 5) HZ3.out; have z4 : w3.frozen? ⟨bx, 4, none⟩ = false := frozen_at (j := 4) HF3.out; clear c4)
  have h4 : (w3.setCell ⟨bx, 4, none⟩ (.slice A3 N3 c3)).heap[bx + 1]? = _ := (heap_setCell_other w3 ⟨bx, 4, none⟩ (bx + 1) (.slice A3 N3 c3) (by simp)).trans HZ3.out
  have h5 := setCell_at (j := 0) (.int .i64 f.fh) h4
  have h6 := setCell_at (j := 1) (.int .i64 f.fp) h5
  have h7 := setCell_at (j := 2) (.int .i64 f.th) h6
  have h8 := setCell_at (j := 3) (.int .i64 f.tp) h7
  have h9 := setCell_at (j := 4) (.slice A3 N3 c3) h8
  have h10 := setCell_at (j := 5) (.bool f.tn) h9
  have hN : N3 = n := by have := HN3.out; omega
  subst hN
  have hb3 : w.heap.size ≤ bx := by rw [HBX.out]; exact Nat.le_refl _
  have hown := HW3.out
  have hlt := lt_of_blk HF.out
  have hlz := lt_of_blk HZ.out
  have hO : Out (fun k => k = bx ∨ k = bx + 1) w3 ((((((((w3.setCell ⟨bx, 4, none⟩ (.slice A3 N3 c3)).setCell ⟨bx + 1, 0, none⟩ (.int .i64 f.fh)).setCell ⟨bx + 1, 1, none⟩ (.int .i64 f.fp)).setCell ⟨bx + 1, 2, none⟩ (.int .i64 f.th)).setCell ⟨bx + 1, 3, none⟩ (.int .i64 f.tp)).setCell ⟨bx + 1, 4, none⟩ (.slice A3 N3 c3)).setCell ⟨bx + 1, 5, none⟩ (.bool f.tn))) := by
    have st : ∀ (W : World) (b' j : Nat) (v : Value), (b' = bx ∨ b' = bx + 1) → Out (fun k => k = bx ∨ k = bx + 1) W (W.setCell ⟨b', j, none⟩ v) := fun W b' j v hb => (setCell_out W b' j v).mono (fun k hk => by rw [hk]; exact hb)
    exact (((((((st _ _ _ _ (.inl rfl)).trans (st _ _ _ _ (.inr rfl)) (Sub.refl _ _)).trans (st _ _ _ _ (.inr rfl)) (Sub.refl _ _)).trans (st _ _ _ _ (.inr rfl)) (Sub.refl _ _)).trans (st _ _ _ _ (.inr rfl)) (Sub.refl _ _)).trans (st _ _ _ _ (.inr rfl)) (Sub.refl _ _)).trans (st _ _ _ _ (.inr rfl)) (Sub.refl _ _))
  refine bodyPost_ret (v := frV f (.slice A3 N3 c3)) (results_cell_row rfl _ _ _ 46 _ (0, 0) _ rfl h10 Try.underlying46 rfl rfl) rfl ⟨A3, c3, rfl, ?_, ?_⟩
  · refine OwnI.mono (Out.own hO (show OwnI .u8 5 W.heap.size w3 A3 N3 c3 f.bytes from hown) (fun g hg hs => ?_)) HU.out.size
    have := (World.ownsRow.lt hown g hg).1
    omega
  · have hU3 : Up w w3 := HU.out.trans HU3.out
    exact Below.out hU3 hO (fun k hk => by rcases hk with hk | hk <;> omega) hU3.size
end Go.Proofs.Ytfbjhialjepodaa
