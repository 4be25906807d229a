import Derived.Test.YtfbjhialjepodaaNtRef4
namespace Go.Proofs.Ytfbjhialjepodaa
open Go Go.RowKit
set_option linter.unusedVariables false
theorem results_row_tmp {P : Program} {fn : Func} {p u : Tmp} {ty : TypeId} (h : fn.results = #[.cell p ty, .tmp u]) (tmps : Array Value) (w : World) (g : Nat) (t : TypeId) (cs : Array Value) (fr : Nat × Nat) (d : TypeDesc)
    (hp : tmps.getD p undef = .pointer (some ⟨g, 0, none⟩)) (hg : w.heap[g]? = some (.cells cs t fr))
    (hu : P.underlying ty = some d) (hd : (match d with | .struct _ | .array _ _ => true | _ => false) = true) (hi : (P.info? ty).map (·.size) = some cs.size) :
    (results fn tmps).run P w = .ok (.tuple #[.agg cs, tmps.getD u undef]) w := by
  have hp' : tmps[p]?.getD undef = .pointer (some ⟨g, 0, none⟩) := by simpa using hp
  simp [results, h, hp', asAddr, run_loadVar_row w g t ty cs fr d hg hu hd hi, Result.andThen]
theorem own_mono46 {w : World} {base : Nat} {v : Value} {n : Nat} {l1 l2 : List FrB} (h : w.ownsRow base 46 6 v n (([] ++ rowc l1) ++ rowc l2)) : w.ownsRow base 46 6 v n (rowc (l1 ++ l2)) := by
  rw [rowc_append]; exact h
theorem blk_new {A : Option Addr} {s q : Nat} (h : A.map (·.block) = (none : Option Addr).map (·.block) ∨ A.map (·.block) = some s) (hq : A.map (·.block) = some q) : q = s := by
  rcases h with h | h
  · rw [h] at hq; cases hq
  · rw [h] at hq; injection hq with hq; exact hq.symm
set_option maxRecDepth 100000 in
set_option maxHeartbeats 1000000 in
theorem take_ok (g b c k : Nat) (x : FrB) (l1 l2 : List FrB) (h : Int) (dn : Int → Int → Int → Bool) (w : World) (hk : l1.length = k) (hlen : l1.length + l2.length + 1 ≤ 1024) (hb : w.heap[b]? = some (.cells (refBlk h (some ⟨g, 0, none⟩) (k + 1 + l2.length) c dn) 34 (0, 0))) (hrow : w.ownsRow 0 46 6 (.slice (some ⟨g, 0, none⟩) (k + 1 + l2.length) c) (k + 1 + l2.length) (rowc (l1 ++ x :: l2))) (hgb : g ≠ b) :
    Calls Try.prog 22 #[.pointer (some ⟨b, 0, none⟩), .int .i64 (k : Int)] w fun e w' => ∃ A' N c', e = .returned (.tuple #[frV x.f (.slice x.A x.f.bytes.length x.c), .int .i64 0]) ∧ w'.heap[b]? = some (.cells (refBlk h A' (l1.length + l2.length) c' dn) 34 (0, 0)) ∧ w'.ownsRow w.heap.size 46 6 (.slice A' N c') N (rowc (l1 ++ l2)) ∧ N = l1.length + l2.length ∧ Out (fun k => k = b) w w' := by
  obtain ⟨n, hn⟩ : ∃ n, n = k + 1 + l2.length := ⟨_, rfl⟩
  rw [← hn] at hb hrow
  have hcap : n ≤ c ∧ c ≤ maxLen := by
    rcases hrow.2 with ⟨h1, _⟩ | ⟨g', cap, cur, hv, _, _, h1, h2, _⟩
    · cases h1
    · injection hv with _ _ hv; subst hv; exact ⟨h1, h2⟩
  obtain ⟨hc1, hc2⟩ := hcap
  have hkn : k < n := by omega
  have hn4 : n ≤ 1024 := by omega
  have hx : (l1 ++ x :: l2)[k]? = some x := by rw [List.getElem?_append_right (by omega)]; simp [hk]
  have HB := Lib.hid hb
  have HROW := Lib.hid hrow
  have HN := Lib.hid hn
  have HX := Lib.hid hx
  clear hb hrow hx hn
  go_enter Try.func22, Try.ntmps22
  go_upto_region 1 with (fail)
  have hu1 := up_alloc w (.cells #[.int .i64 0, .int .i64 0, .int .i64 0, .int .i64 0, .slice none 0 0, .bool false] 46)
  have z1 := Lib.hid (new_at w (.cells #[.int .i64 0, .int .i64 0, .int .i64 0, .int .i64 0, .slice none 0 0, .bool false] 46))
  have b1 := Lib.hid ((hu1.block b (lt_of_blk HB.out)).trans HB.out)
  have r1 := Lib.hid (own_up HROW.out hu1)
  have HU1 := Lib.hid hu1
  have hrs : w.heap.size < (w.alloc (.cells #[.int .i64 0, .int .i64 0, .int .i64 0, .int .i64 0, .slice none 0 0, .bool false] 46)).heap.size := lt_of_blk z1.out
  have hbs := lt_of_blk HB.out
  clear hu1
  generalize (w.alloc (.cells #[.int .i64 0, .int .i64 0, .int .i64 0, .int .i64 0, .slice none 0 0, .bool false] 46)) = W at z1 b1 r1 HU1 hrs ⊢
  obtain ⟨rs, hrs0⟩ : ∃ rs, rs = w.heap.size := ⟨_, rfl⟩
  rw [← hrs0] at z1 hrs ⊢
  have HRS := Lib.hid hrs0
  clear hrs0
  have hcell : ∀ (j : Nat) (v : Value), (frc x)[j]? = some v → W.cell? ⟨g, k * 6 + j, none⟩ = some v := fun j v hv => row_cell r1.out (rowc_at HX.out hv)
  have k0 : W.cell? ⟨g, k * 6, none⟩ = some (.int .i64 x.f.fh) := hcell 0 _ rfl
  have k1 : W.cell? ⟨g, k * 6 + 1, none⟩ = some (.int .i64 x.f.fp) := hcell 1 _ rfl
  have k2 : W.cell? ⟨g, k * 6 + 2, none⟩ = some (.int .i64 x.f.th) := hcell 2 _ rfl
  have k3 : W.cell? ⟨g, k * 6 + 3, none⟩ = some (.int .i64 x.f.tp) := hcell 3 _ rfl
  have k4 : W.cell? ⟨g, k * 6 + 4, none⟩ = some (.slice x.A x.f.bytes.length x.c) := hcell 4 _ rfl
  have k5 : W.cell? ⟨g, k * 6 + 5, none⟩ = some (.bool x.f.tn) := hcell 5 _ rfl
  have kb : W.cell? ⟨b, 1, none⟩ = some (.slice (some ⟨g, 0, none⟩) n c) := cell_of b1.out (refBlk_1 _ _ _ _ _)
  clear hcell
  go_upto_region 5 with (fail)
  clear k0 k1 k2 k3 k4 k5 kb
  have hu2 := up_alloc W (.cells #[.int .i64 x.f.fh, .int .i64 x.f.fp, .int .i64 x.f.th, .int .i64 x.f.tp, .slice x.A x.f.bytes.length x.c, .bool x.f.tn] 46)
  have x2 := Lib.hid (new_at W (.cells #[.int .i64 x.f.fh, .int .i64 x.f.fp, .int .i64 x.f.th, .int .i64 x.f.tp, .slice x.A x.f.bytes.length x.c, .bool x.f.tn] 46))
  have b2 := Lib.hid ((hu2.block b (lt_of_blk b1.out)).trans b1.out)
  have z2 := Lib.hid ((hu2.block rs (lt_of_blk z1.out)).trans z1.out)
  have r2 := Lib.hid (own_up r1.out hu2)
  have HU2 := Lib.hid (HU1.out.trans hu2)
  have hxs := lt_of_blk x2.out
  clear hu2 HU1 b1 z1 r1
  generalize (W.alloc (.cells #[.int .i64 x.f.fh, .int .i64 x.f.fp, .int .i64 x.f.th, .int .i64 x.f.tp, .slice x.A x.f.bytes.length x.c, .bool x.f.tn] 46)) = W2 at x2 b2 z2 r2 HU2 hxs ⊢
  obtain ⟨xb, hxb0⟩ : ∃ xb, xb = W.heap.size := ⟨_, rfl⟩
  rw [← hxb0] at x2 hrs hxs ⊢
  have HXB := Lib.hid hxb0
  clear hxb0
  have kb : W2.cell? ⟨b, 1, none⟩ = some (.slice (some ⟨g, 0, none⟩) n c) := cell_of b2.out (refBlk_1 _ _ _ _ _)
  have hc1' : ∀ j u, (rowc l1)[j]? = some u → ∃ g' o, (some ⟨g, 0, none⟩ : Option Addr) = some ⟨g', o, none⟩ ∧ W2.cell? ⟨g', o + j, none⟩ = some u := fun j u hu => ⟨g, 0, rfl, by
    rw [Nat.zero_add]
    exact row_cell r2.out (by rw [rowc_append, List.getElem?_append_left (List.getElem?_eq_some_iff.1 hu).1]; exact hu)⟩
  have HC1 := Lib.hid hc1'
  clear hc1'
  have hc2' : ∀ j u, (rowc l2)[j]? = some u → W2.cell? ⟨g, (k + 1) * 6 + j, none⟩ = some u := fun j u hu => row_cell r2.out (by
    have e : l1 ++ x :: l2 = (l1 ++ [x]) ++ l2 := by simp
    have el : (rowc (l1 ++ [x])).length = (k + 1) * 6 := by rw [rowc_length]; simp [hk]
    rw [e, rowc_append, List.getElem?_append_right (by omega), el]
    rw [show (k + 1) * 6 + j - (k + 1) * 6 = j by omega]
    exact hu)
  have HC2 := Lib.hid hc2'
  clear hc2'
  by_cases hcz : c = k + 1
  · subst hcz
    have HL2 := Lib.hid (show l2 = [] from List.eq_nil_of_length_eq_zero (by have := HN.out; omega))
    go_wp2_with (at_builtin; first | (refine wpList_appendF rfl (.tmp 27) (.tmp 33) rfl w.heap.size none 0 0 [] rfl (World.ownsRow_nil _ _ _ _) (some ⟨g, 0, none⟩) k (k + 1) l1 rfl hk HC1.out (by omega) HU2.out.size ?_; intro A3 N3 c3 w3 HN3 HW3 HO3 HE3; have kb3 : w3.cell? ⟨b, 1, none⟩ = some (.slice (some ⟨g, 0, none⟩) n (k + 1)) := cell_out kb HO3.out (by intro e; cases e); clear kb) | (refine wpList_appendF rfl (.tmp 36) (.tmp 43) rfl w.heap.size A3 N3 c3 (rowc l1) rfl HW3.out (some ⟨g, 0, none⟩) 0 0 l2 rfl (by rw [HL2.out]; rfl) (fun j u hu => absurd hu (by rw [HL2.out]; simp [rowc])) (by have := HN3.out; omega) (Nat.le_trans HU2.out.size HO3.out.size) ?_; intro A4 N4 c4 w4 HN4 HW4 HO4 HE4; have hA3 : ∀ q, A3.map (·.block) = some q → q = W2.heap.size := fun q hq => blk_new HE3.out hq; have b4 := Lib.hid (HO4.out.blk (HO3.out.blk b2.out (by intro e; cases e)) (fun e => by have := hA3 b e; have := lt_of_blk b2.out; omega)); have x4 := Lib.hid (HO4.out.blk (HO3.out.blk x2.out (by intro e; cases e)) (fun e => by have := hA3 xb e; have := lt_of_blk x2.out; omega)); have z4 := Lib.hid (HO4.out.blk (HO3.out.blk z2.out (by intro e; cases e)) (fun e => by have := hA3 rs e; have := lt_of_blk z2.out; omega)); have nxb : ¬ xb = b := (by have := HRS.out; omega); have nrb : ¬ rs = b := (by have := HRS.out; omega); have f0 : w4.cell? ⟨xb, 0, none⟩ = some (.int .i64 x.f.fh) := cell_of x4.out (j := 0) rfl; have e0 : w4.cell? ⟨rs, 0, none⟩ = some (.int .i64 0) := cell_of z4.out (j := 0) rfl; have g0 : w4.frozen? ⟨rs, 0, none⟩ = false := frozen_at (j := 0) z4.out; have f1 : w4.cell? ⟨xb, 1, none⟩ = some (.int .i64 x.f.fp) := cell_of x4.out (j := 1) rfl; have e1 : w4.cell? ⟨rs, 1, none⟩ = some (.int .i64 0) := cell_of z4.out (j := 1) rfl; have g1 : w4.frozen? ⟨rs, 1, none⟩ = false := frozen_at (j := 1) z4.out; have f2 : w4.cell? ⟨xb, 2, none⟩ = some (.int .i64 x.f.th) := cell_of x4.out (j := 2) rfl; have e2 : w4.cell? ⟨rs, 2, none⟩ = some (.int .i64 0) := cell_of z4.out (j := 2) rfl; have g2 : w4.frozen? ⟨rs, 2, none⟩ = false := frozen_at (j := 2) z4.out; have f3 : w4.cell? ⟨xb, 3, none⟩ = some (.int .i64 x.f.tp) := cell_of x4.out (j := 3) rfl; have e3 : w4.cell? ⟨rs, 3, none⟩ = some (.int .i64 0) := cell_of z4.out (j := 3) rfl; have g3 : w4.frozen? ⟨rs, 3, none⟩ = false := frozen_at (j := 3) z4.out; have f4 : w4.cell? ⟨xb, 4, none⟩ = some (.slice x.A x.f.bytes.length x.c) := cell_of x4.out (j := 4) rfl; have e4 : w4.cell? ⟨rs, 4, none⟩ = some (.slice none 0 0) := cell_of z4.out (j := 4) rfl; have g4 : w4.frozen? ⟨rs, 4, none⟩ = false := frozen_at (j := 4) z4.out; have f5 : w4.cell? ⟨xb, 5, none⟩ = some (.bool x.f.tn) := cell_of x4.out (j := 5) rfl; have e5 : w4.cell? ⟨rs, 5, none⟩ = some (.bool false) := cell_of z4.out (j := 5) rfl; have g5 : w4.frozen? ⟨rs, 5, none⟩ = false := frozen_at (j := 5) z4.out; have kb4 : w4.cell? ⟨b, 1, none⟩ = some (.slice (some ⟨g, 0, none⟩) n (k + 1)) := cell_of b4.out (refBlk_1 _ _ _ _ _); have kf4 : w4.frozen? ⟨b, 1, none⟩ = false := frozen_at (j := 1) b4.out; clear kb3))
    have h4 : (w4.setCell ⟨b, 1, none⟩ (.slice A4 N4 c4)).heap[rs]? = _ := (heap_setCell_other w4 ⟨b, 1, none⟩ rs (.slice A4 N4 c4) (by simpa using nrb)).trans z4.out
    have h5 := setCell_at (j := 1) (.slice A4 N4 c4) b4.out
    rw [refBlk_way] at h5
    have p0 := setCell_at (j := 0) (.int .i64 x.f.fh) h4
    have p1 := setCell_at (j := 1) (.int .i64 x.f.fp) p0
    have p2 := setCell_at (j := 2) (.int .i64 x.f.th) p1
    have p3 := setCell_at (j := 3) (.int .i64 x.f.tp) p2
    have p4 := setCell_at (j := 4) (.slice x.A x.f.bytes.length x.c) p3
    have p5 := setCell_at (j := 5) (.bool x.f.tn) p4
    have hN4 : N4 = l1.length + l2.length := by have := HN4.out; have := HN3.out; have := HN.out; omega
    have hO : Out (fun j => j = rs) (w4.setCell ⟨b, 1, none⟩ (.slice A4 N4 c4)) ((((((((w4.setCell ⟨b, 1, none⟩ (.slice A4 N4 c4)).setCell ⟨rs, 0, none⟩ (.int .i64 x.f.fh)).setCell ⟨rs, 1, none⟩ (.int .i64 x.f.fp)).setCell ⟨rs, 2, none⟩ (.int .i64 x.f.th)).setCell ⟨rs, 3, none⟩ (.int .i64 x.f.tp)).setCell ⟨rs, 4, none⟩ (.slice x.A x.f.bytes.length x.c)).setCell ⟨rs, 5, none⟩ (.bool x.f.tn))) :=
      ((((((setCell_out _ _ _ _).trans (setCell_out _ _ _ _) (Sub.refl _ _)).trans (setCell_out _ _ _ _) (Sub.refl _ _)).trans (setCell_out _ _ _ _) (Sub.refl _ _)).trans (setCell_out _ _ _ _) (Sub.refl _ _)).trans (setCell_out _ _ _ _) (Sub.refl _ _))
    have hO2 : Out (fun j => j = b ∨ j = rs) w4 _ := ((setCell_out w4 b 1 (.slice A4 N4 c4)).mono (fun k hk => .inl hk)).trans (hO.mono (fun k hk => .inr hk)) (Sub.refl _ _)
    have hlb := lt_of_blk h5
    refine bodyPost_ret (results_row_tmp (fn := Try.f22) (p := 4) (u := 5) (ty := 46) rfl _ _ rs 46 _ (0, 0) _ rfl p5 Try.underlying46 rfl rfl) rfl ⟨rfl, A4, N4, c4, ?_, ?_, ?_, ?_⟩
    · rw [hO.blk h5 (fun e => nrb e.symm), ← hk, hN4]
    · refine own_mono46 (Out.own hO2 HW4.out (fun q hq hs => ?_)) 
      have h1 := (World.ownsRow.lt HW4.out q hq).1
      rw [ownBlock_slice] at hq
      rcases hs with hs | hs
      · omega
      · rcases HE4.out with h | h
        · rw [h] at hq
          have := hA3 q hq
          have := lt_of_blk z2.out
          omega
        · rw [h] at hq
          injection hq with hq
          have := lt_of_blk z2.out
          have := HO3.out.size
          omega
    · rw [← hk]; exact hN4
    · have o2 : Out (fun j => j = b) w W2 := (show Up w W2 from HU2.out).out _
      have o3 := o2.trans HO3.out (fun q hq => by cases hq)
      have o4 := o3.trans HO4.out (fun q hq => .inr (by have := hA3 q hq; have := HU2.out.size; omega))
      exact o4.trans hO2 (fun q hq => by
        rcases hq with h | h
        · exact .inl h
        · exact .inr (by have := HRS.out; omega))
  · go_wp2_with (at_builtin; first | (refine wpList_appendF rfl (.tmp 27) (.tmp 33) rfl w.heap.size none 0 0 [] rfl (World.ownsRow_nil _ _ _ _) (some ⟨g, 0, none⟩) k c l1 rfl hk HC1.out (by omega) HU2.out.size ?_; intro A3 N3 c3 w3 HN3 HW3 HO3 HE3; have kb3 : w3.cell? ⟨b, 1, none⟩ = some (.slice (some ⟨g, 0, none⟩) n c) := cell_out kb HO3.out (by intro e; cases e); clear kb) | (refine wpList_appendF rfl (.tmp 36) (.tmp 43) rfl w.heap.size A3 N3 c3 (rowc l1) rfl HW3.out (some ⟨g, (k + 1) * 6, none⟩) (n - (k + 1)) (c - (k + 1)) l2 rfl (by have := HN.out; omega) (fun j u hu => ⟨g, _, rfl, cell_out (HC2.out j u hu) HO3.out (by intro e; cases e)⟩) (by have := HN3.out; omega) (Nat.le_trans HU2.out.size HO3.out.size) ?_; intro A4 N4 c4 w4 HN4 HW4 HO4 HE4; have hA3 : ∀ q, A3.map (·.block) = some q → q = W2.heap.size := fun q hq => blk_new HE3.out hq; have b4 := Lib.hid (HO4.out.blk (HO3.out.blk b2.out (by intro e; cases e)) (fun e => by have := hA3 b e; have := lt_of_blk b2.out; omega)); have x4 := Lib.hid (HO4.out.blk (HO3.out.blk x2.out (by intro e; cases e)) (fun e => by have := hA3 xb e; have := lt_of_blk x2.out; omega)); have z4 := Lib.hid (HO4.out.blk (HO3.out.blk z2.out (by intro e; cases e)) (fun e => by have := hA3 rs e; have := lt_of_blk z2.out; omega)); have nxb : ¬ xb = b := (by have := HRS.out; omega); have nrb : ¬ rs = b := (by have := HRS.out; omega); have f0 : w4.cell? ⟨xb, 0, none⟩ = some (.int .i64 x.f.fh) := cell_of x4.out (j := 0) rfl; have e0 : w4.cell? ⟨rs, 0, none⟩ = some (.int .i64 0) := cell_of z4.out (j := 0) rfl; have g0 : w4.frozen? ⟨rs, 0, none⟩ = false := frozen_at (j := 0) z4.out; have f1 : w4.cell? ⟨xb, 1, none⟩ = some (.int .i64 x.f.fp) := cell_of x4.out (j := 1) rfl; have e1 : w4.cell? ⟨rs, 1, none⟩ = some (.int .i64 0) := cell_of z4.out (j := 1) rfl; have g1 : w4.frozen? ⟨rs, 1, none⟩ = false := frozen_at (j := 1) z4.out; have f2 : w4.cell? ⟨xb, 2, none⟩ = some (.int .i64 x.f.th) := cell_of x4.out (j := 2) rfl; have e2 : w4.cell? ⟨rs, 2, none⟩ = some (.int .i64 0) := cell_of z4.out (j := 2) rfl; have g2 : w4.frozen? ⟨rs, 2, none⟩ = false := frozen_at (j := 2) z4.out; have f3 : w4.cell? ⟨xb, 3, none⟩ = some (.int .i64 x.f.tp) := cell_of x4.out (j := 3) rfl; have e3 : w4.cell? ⟨rs, 3, none⟩ = some (.int .i64 0) := cell_of z4.out (j := 3) rfl; have g3 : w4.frozen? ⟨rs, 3, none⟩ = false := frozen_at (j := 3) z4.out; have f4 : w4.cell? ⟨xb, 4, none⟩ = some (.slice x.A x.f.bytes.length x.c) := cell_of x4.out (j := 4) rfl; have e4 : w4.cell? ⟨rs, 4, none⟩ = some (.slice none 0 0) := cell_of z4.out (j := 4) rfl; have g4 : w4.frozen? ⟨rs, 4, none⟩ = false := frozen_at (j := 4) z4.out; have f5 : w4.cell? ⟨xb, 5, none⟩ = some (.bool x.f.tn) := cell_of x4.out (j := 5) rfl; have e5 : w4.cell? ⟨rs, 5, none⟩ = some (.bool false) := cell_of z4.out (j := 5) rfl; have g5 : w4.frozen? ⟨rs, 5, none⟩ = false := frozen_at (j := 5) z4.out; have kb4 : w4.cell? ⟨b, 1, none⟩ = some (.slice (some ⟨g, 0, none⟩) n c) := cell_of b4.out (refBlk_1 _ _ _ _ _); have kf4 : w4.frozen? ⟨b, 1, none⟩ = false := frozen_at (j := 1) b4.out; clear kb3))
    have h4 : (w4.setCell ⟨b, 1, none⟩ (.slice A4 N4 c4)).heap[rs]? = _ := (heap_setCell_other w4 ⟨b, 1, none⟩ rs (.slice A4 N4 c4) (by simpa using nrb)).trans z4.out
    have h5 := setCell_at (j := 1) (.slice A4 N4 c4) b4.out
    rw [refBlk_way] at h5
    have p0 := setCell_at (j := 0) (.int .i64 x.f.fh) h4
    have p1 := setCell_at (j := 1) (.int .i64 x.f.fp) p0
    have p2 := setCell_at (j := 2) (.int .i64 x.f.th) p1
    have p3 := setCell_at (j := 3) (.int .i64 x.f.tp) p2
    have p4 := setCell_at (j := 4) (.slice x.A x.f.bytes.length x.c) p3
    have p5 := setCell_at (j := 5) (.bool x.f.tn) p4
    have hN4 : N4 = l1.length + l2.length := by have := HN4.out; have := HN3.out; have := HN.out; omega
    have hO : Out (fun j => j = rs) (w4.setCell ⟨b, 1, none⟩ (.slice A4 N4 c4)) ((((((((w4.setCell ⟨b, 1, none⟩ (.slice A4 N4 c4)).setCell ⟨rs, 0, none⟩ (.int .i64 x.f.fh)).setCell ⟨rs, 1, none⟩ (.int .i64 x.f.fp)).setCell ⟨rs, 2, none⟩ (.int .i64 x.f.th)).setCell ⟨rs, 3, none⟩ (.int .i64 x.f.tp)).setCell ⟨rs, 4, none⟩ (.slice x.A x.f.bytes.length x.c)).setCell ⟨rs, 5, none⟩ (.bool x.f.tn))) :=
      ((((((setCell_out _ _ _ _).trans (setCell_out _ _ _ _) (Sub.refl _ _)).trans (setCell_out _ _ _ _) (Sub.refl _ _)).trans (setCell_out _ _ _ _) (Sub.refl _ _)).trans (setCell_out _ _ _ _) (Sub.refl _ _)).trans (setCell_out _ _ _ _) (Sub.refl _ _))
    have hO2 : Out (fun j => j = b ∨ j = rs) w4 _ := ((setCell_out w4 b 1 (.slice A4 N4 c4)).mono (fun k hk => .inl hk)).trans (hO.mono (fun k hk => .inr hk)) (Sub.refl _ _)
    have hlb := lt_of_blk h5
    refine bodyPost_ret (results_row_tmp (fn := Try.f22) (p := 4) (u := 5) (ty := 46) rfl _ _ rs 46 _ (0, 0) _ rfl p5 Try.underlying46 rfl rfl) rfl ⟨rfl, A4, N4, c4, ?_, ?_, ?_, ?_⟩
    · rw [hO.blk h5 (fun e => nrb e.symm), ← hk, hN4]
    · refine own_mono46 (Out.own hO2 HW4.out (fun q hq hs => ?_)) 
      have h1 := (World.ownsRow.lt HW4.out q hq).1
      rw [ownBlock_slice] at hq
      rcases hs with hs | hs
      · omega
      · rcases HE4.out with h | h
        · rw [h] at hq
          have := hA3 q hq
          have := lt_of_blk z2.out
          omega
        · rw [h] at hq
          injection hq with hq
          have := lt_of_blk z2.out
          have := HO3.out.size
          omega
    · rw [← hk]; exact hN4
    · have o2 : Out (fun j => j = b) w W2 := (show Up w W2 from HU2.out).out _
      have o3 := o2.trans HO3.out (fun q hq => by cases hq)
      have o4 := o3.trans HO4.out (fun q hq => .inr (by have := hA3 q hq; have := HU2.out.size; omega))
      exact o4.trans hO2 (fun q hq => by
        rcases hq with h | h
        · exact .inl h
        · exact .inr (by have := HRS.out; omega))
end Go.Proofs.Ytfbjhialjepodaa
