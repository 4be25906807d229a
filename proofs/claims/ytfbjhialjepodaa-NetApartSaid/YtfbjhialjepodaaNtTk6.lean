import Derived.Test.YtfbjhialjepodaaNtDel
namespace Go.Proofs.Ytfbjhialjepodaa
open Go Go.RowKit
set_option linter.unusedVariables false
/-- Behind a Take of the program. -/
def TakePost (b m g c k : Nat) (h : Int) (x : FrB) (l1 l2 : List FrB) (w : World) (e : Ending) (w' : World) : Prop :=
  e = .returned (.tuple #[frV x.f (.slice x.A x.f.bytes.length x.c), .int .i64 0]) ∧ w'.heap[b]? = some (.cells (netBlk m h (some ⟨g, 0, none⟩) (k + l2.length) c) 61 (0, 0)) ∧
  w'.ownsRow 0 46 6 (.slice (some ⟨g, 0, none⟩) (k + l2.length) c) (k + l2.length) (rowc (l1 ++ l2)) ∧ Out (fun q => q = b ∨ q = g) w w'
set_option maxRecDepth 100000 in
set_option maxHeartbeats 1000000 in
theorem take_p (g b m c k n : Nat) (x : FrB) (l1 l2 : List FrB) (h : Int) (w : World) (hk : l1.length = k) (hn : n = k + 1 + l2.length) (hn4 : n ≤ 1024) (hb : w.heap[b]? = some (.cells (netBlk m h (some ⟨g, 0, none⟩) n c) 61 (0, 0))) (hrow : w.ownsRow 0 46 6 (.slice (some ⟨g, 0, none⟩) n c) n (rowc (l1 ++ x :: l2))) (hgb : g ≠ b) :
    Calls Try.prog 16 #[.pointer (some ⟨b, 0, none⟩), .int .i64 (k : Int)] w (TakePost b m g c k h x l1 l2 w) := by
  have hkn : k < n := by omega
  have hx : (l1 ++ x :: l2)[k]? = some x := by rw [List.getElem?_append_right (by omega)]; simp [hk]
  have HB := Lib.hid hb
  have HROW := Lib.hid hrow
  have HN := Lib.hid hn
  have HK := Lib.hid hk
  have HX := Lib.hid hx
  have HGB := Lib.hid hgb
  have hgs : g < w.heap.size := (World.ownsRow.lt hrow g rfl).2
  clear hb hrow hx hn hk hgb
  go_enter Try.func16, Try.ntmps16
  go_upto_region 1 with (fail)
  have hu1 := up_alloc w (.cells #[.int .i64 0, .int .i64 0, .int .i64 0, .int .i64 0, .slice none 0 0, .bool false] 46)
  have z1 := Lib.hid (new_at w (.cells #[.int .i64 0, .int .i64 0, .int .i64 0, .int .i64 0, .slice none 0 0, .bool false] 46))
  have b1 := Lib.hid ((hu1.block b (lt_of_blk HB.out)).trans HB.out)
  have r1 := Lib.hid (own_up HROW.out hu1)
  have HU1 := Lib.hid hu1
  have hrs : w.heap.size < (w.alloc (.cells #[.int .i64 0, .int .i64 0, .int .i64 0, .int .i64 0, .slice none 0 0, .bool false] 46)).heap.size := lt_of_blk z1.out
  have hbs := lt_of_blk HB.out
  clear hu1
  generalize (w.alloc (.cells #[.int .i64 0, .int .i64 0, .int .i64 0, .int .i64 0, .slice none 0 0, .bool false] 46)) = W at z1 b1 r1 HU1 hrs ⊢
  obtain ⟨rs, hrs0⟩ : ∃ rs, rs = w.heap.size := ⟨_, rfl⟩
  rw [← hrs0] at z1 hrs ⊢
  have HRS := Lib.hid hrs0
  clear hrs0
  have kb : W.cell? ⟨b, 1, none⟩ = some (.slice (some ⟨g, 0, none⟩) n c) := cell_of b1.out rfl
  go_wp2_with fail
  refine (find_in b n c k _ W kb hn4 hkn).mono ?_
  rintro e w1 ⟨rfl, rfl⟩
  have hcell : ∀ (j : Nat) (v : Value), (frc x)[j]? = some v → w1.cell? ⟨g, k * 6 + j, none⟩ = some v := fun j v hv => row_cell r1.out (rowc_at HX.out hv)
  have k0 : w1.cell? ⟨g, k * 6, none⟩ = some (.int .i64 x.f.fh) := hcell 0 _ rfl
  have k1 : w1.cell? ⟨g, k * 6 + 1, none⟩ = some (.int .i64 x.f.fp) := hcell 1 _ rfl
  have k2 : w1.cell? ⟨g, k * 6 + 2, none⟩ = some (.int .i64 x.f.th) := hcell 2 _ rfl
  have k3 : w1.cell? ⟨g, k * 6 + 3, none⟩ = some (.int .i64 x.f.tp) := hcell 3 _ rfl
  have k4 : w1.cell? ⟨g, k * 6 + 4, none⟩ = some (.slice x.A x.f.bytes.length x.c) := hcell 4 _ rfl
  have k5 : w1.cell? ⟨g, k * 6 + 5, none⟩ = some (.bool x.f.tn) := hcell 5 _ rfl
  clear hcell
  go_upto_region 5 with (fail)
  clear k0 k1 k2 k3 k4 k5 kb
  have hu2 := up_alloc w1 (.cells #[.int .i64 x.f.fh, .int .i64 x.f.fp, .int .i64 x.f.th, .int .i64 x.f.tp, .slice x.A x.f.bytes.length x.c, .bool x.f.tn] 46)
  have x2 := Lib.hid (new_at w1 (.cells #[.int .i64 x.f.fh, .int .i64 x.f.fp, .int .i64 x.f.th, .int .i64 x.f.tp, .slice x.A x.f.bytes.length x.c, .bool x.f.tn] 46))
  have b2 := Lib.hid ((hu2.block b (lt_of_blk b1.out)).trans b1.out)
  have z2 := Lib.hid ((hu2.block rs (lt_of_blk z1.out)).trans z1.out)
  have r2 := Lib.hid (own_up r1.out hu2)
  have HU2 := Lib.hid (HU1.out.trans hu2)
  have hxs := lt_of_blk x2.out
  clear hu2 HU1 b1 z1 r1
  generalize (w1.alloc (.cells #[.int .i64 x.f.fh, .int .i64 x.f.fp, .int .i64 x.f.th, .int .i64 x.f.tp, .slice x.A x.f.bytes.length x.c, .bool x.f.tn] 46)) = W2 at x2 b2 z2 r2 HU2 hxs ⊢
  obtain ⟨xb, hxb0⟩ : ∃ xb, xb = w1.heap.size := ⟨_, rfl⟩
  rw [← hxb0] at x2 hrs hxs ⊢
  have HXB := Lib.hid hxb0
  clear hxb0
  have kb : W2.cell? ⟨b, 1, none⟩ = some (.slice (some ⟨g, 0, none⟩) n c) := cell_of b2.out rfl
  go_wp2_with fail
  refine (del_ok g c k n x l1 l2 W2 HK.out HN.out hn4 r2.out).mono ?_
  rintro e w3 ⟨rfl, hr3, ho3⟩
  generalize hn0 : k + l2.length = n0 at hr3 ⊢
  have HN0 := Lib.hid hn0
  have HR3 := Lib.hid hr3
  have HO3 := Lib.hid ho3
  clear hn0 hr3 ho3 kb
  have b3 := Lib.hid (HO3.out.blk b2.out (fun e => HGB.out e.symm))
  have x3 := Lib.hid (HO3.out.blk x2.out (fun e => by have := HRS.out; omega))
  have z3 := Lib.hid (HO3.out.blk z2.out (fun e => by have := HRS.out; omega))
  have nxb : ¬ xb = b := by have := HRS.out; omega
  have nrb : ¬ rs = b := by have := HRS.out; omega
  have f0 : w3.cell? ⟨xb, 0, none⟩ = some (.int .i64 x.f.fh) := cell_of x3.out (j := 0) rfl
  have e0 : w3.cell? ⟨rs, 0, none⟩ = some (.int .i64 0) := cell_of z3.out (j := 0) rfl
  have g0 : w3.frozen? ⟨rs, 0, none⟩ = false := frozen_at (j := 0) z3.out
  have f1 : w3.cell? ⟨xb, 1, none⟩ = some (.int .i64 x.f.fp) := cell_of x3.out (j := 1) rfl
  have e1 : w3.cell? ⟨rs, 1, none⟩ = some (.int .i64 0) := cell_of z3.out (j := 1) rfl
  have g1 : w3.frozen? ⟨rs, 1, none⟩ = false := frozen_at (j := 1) z3.out
  have f2 : w3.cell? ⟨xb, 2, none⟩ = some (.int .i64 x.f.th) := cell_of x3.out (j := 2) rfl
  have e2 : w3.cell? ⟨rs, 2, none⟩ = some (.int .i64 0) := cell_of z3.out (j := 2) rfl
  have g2 : w3.frozen? ⟨rs, 2, none⟩ = false := frozen_at (j := 2) z3.out
  have f3 : w3.cell? ⟨xb, 3, none⟩ = some (.int .i64 x.f.tp) := cell_of x3.out (j := 3) rfl
  have e3 : w3.cell? ⟨rs, 3, none⟩ = some (.int .i64 0) := cell_of z3.out (j := 3) rfl
  have g3 : w3.frozen? ⟨rs, 3, none⟩ = false := frozen_at (j := 3) z3.out
  have f4 : w3.cell? ⟨xb, 4, none⟩ = some (.slice x.A x.f.bytes.length x.c) := cell_of x3.out (j := 4) rfl
  have e4 : w3.cell? ⟨rs, 4, none⟩ = some (.slice none 0 0) := cell_of z3.out (j := 4) rfl
  have g4 : w3.frozen? ⟨rs, 4, none⟩ = false := frozen_at (j := 4) z3.out
  have f5 : w3.cell? ⟨xb, 5, none⟩ = some (.bool x.f.tn) := cell_of x3.out (j := 5) rfl
  have e5 : w3.cell? ⟨rs, 5, none⟩ = some (.bool false) := cell_of z3.out (j := 5) rfl
  have g5 : w3.frozen? ⟨rs, 5, none⟩ = false := frozen_at (j := 5) z3.out
  have kb4 : w3.cell? ⟨b, 1, none⟩ = some (.slice (some ⟨g, 0, none⟩) n c) := cell_of b3.out rfl
  have kf4 : w3.frozen? ⟨b, 1, none⟩ = false := frozen_at (j := 1) b3.out
  go_wp2_with fail
  have h4 : (w3.setCell ⟨b, 1, none⟩ (.slice (some ⟨g, 0, none⟩) n0 c)).heap[rs]? = _ := (heap_setCell_other w3 ⟨b, 1, none⟩ rs (.slice (some ⟨g, 0, none⟩) n0 c) (by simpa using nrb)).trans z3.out
  have h5 := setCell_at (j := 1) (.slice (some ⟨g, 0, none⟩) n0 c) b3.out
  rw [netBlk_way] at h5
  have p0 := setCell_at (j := 0) (.int .i64 x.f.fh) h4
  have p1 := setCell_at (j := 1) (.int .i64 x.f.fp) p0
  have p2 := setCell_at (j := 2) (.int .i64 x.f.th) p1
  have p3 := setCell_at (j := 3) (.int .i64 x.f.tp) p2
  have p4 := setCell_at (j := 4) (.slice x.A x.f.bytes.length x.c) p3
  have p5 := setCell_at (j := 5) (.bool x.f.tn) p4
  have hO : Out (fun j => j = rs) (w3.setCell ⟨b, 1, none⟩ (.slice (some ⟨g, 0, none⟩) n0 c)) ((((((((w3.setCell ⟨b, 1, none⟩ (.slice (some ⟨g, 0, none⟩) n0 c)).setCell ⟨rs, 0, none⟩ (.int .i64 x.f.fh)).setCell ⟨rs, 1, none⟩ (.int .i64 x.f.fp)).setCell ⟨rs, 2, none⟩ (.int .i64 x.f.th)).setCell ⟨rs, 3, none⟩ (.int .i64 x.f.tp)).setCell ⟨rs, 4, none⟩ (.slice x.A x.f.bytes.length x.c)).setCell ⟨rs, 5, none⟩ (.bool x.f.tn))) :=
    ((((((setCell_out _ _ _ _).trans (setCell_out _ _ _ _) (Sub.refl _ _)).trans (setCell_out _ _ _ _) (Sub.refl _ _)).trans (setCell_out _ _ _ _) (Sub.refl _ _)).trans (setCell_out _ _ _ _) (Sub.refl _ _)).trans (setCell_out _ _ _ _) (Sub.refl _ _))
  have hO2 : Out (fun j => j = b ∨ j = rs) w3 _ := ((setCell_out w3 b 1 (.slice (some ⟨g, 0, none⟩) n0 c)).mono (fun k hk => .inl hk)).trans (hO.mono (fun k hk => .inr hk)) (Sub.refl _ _)
  refine bodyPost_ret (results_row_tmp (fn := Try.f16) (p := 4) (u := 5) (ty := 46) rfl _ _ rs 46 _ (0, 0) _ rfl p5 Try.underlying46 rfl rfl) rfl ⟨rfl, ?_, ?_, ?_⟩
  · rw [HN0.out]; exact hO.blk h5 (fun e => nrb e.symm)
  · rw [HN0.out]
    refine Out.own hO2 HR3.out (fun q hq hs => ?_)
    have hq : q = g := by cases hq; rfl
    rcases hs with hs | hs
    · exact HGB.out (by omega)
    · have := HRS.out; omega
  · have o2 : Out (fun j => j = b ∨ j = g) w W2 := (show Up w W2 from HU2.out).out _
    have o3 := o2.trans HO3.out (fun q hq => .inl (.inr hq))
    exact o3.trans hO2 (fun q hq => by
      rcases hq with h | h
      · exact .inl (.inl h)
      · exact .inr (by have := HRS.out; omega))
end Go.Proofs.Ytfbjhialjepodaa
