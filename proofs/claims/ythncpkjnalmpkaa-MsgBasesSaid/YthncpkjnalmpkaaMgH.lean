import Derived.Test.YthncpkjnalmpkaaMgG
import Derived.Deep.CutBlock
import Derived.Deep.DeepCutAuto
namespace Go.Proofs.Ythncpkjnalmpkaa
open Go Go.RowKit Mg
set_option linter.unusedVariables false
set_option linter.unusedSimpArgs false
/-! raised, raise. -/
theorem or_mflag (s : Nat → Bool) (i : Nat) (hi : i < 4) : bits .or .u8 (valF s) (bitF i) = valF (updF s i true) := by
  have e : ∀ (a b c d : Bool) (j : Fin 4), bits .or .u8 ((if a = true then 128 else 0) + (if b = true then 64 else 0) + (if c = true then 32 else 0) + (if d = true then 16 else 0)) (bitF j) = (if (if 0 = j.val then true else a) = true then 128 else 0) + (if (if 1 = j.val then true else b) = true then 64 else 0) + (if (if 2 = j.val then true else c) = true then 32 else 0) + (if (if 3 = j.val then true else d) = true then 16 else 0) := by decide
  exact e (s 0) (s 1) (s 2) (s 3) ⟨i, hi⟩
set_option maxRecDepth 100000 in
set_option maxHeartbeats 4000000 in
theorem raised_any (x : MsB) (w : World) : Calls Try.prog 51 #[msV x] w fun e w' => e = .returned (.int .u8 (msFl x.pure)) ∧ Up w w' := by
  have HU := Lib.hid (up_alloc w (msO x))
  have HC := Lib.hid (new_at w (msO x))
  unfold msV
  go_enter Try.func51, Try.ntmps51
  go_upto_region 1 with (fail)
  change Code.wp _ _ _ _ (w.alloc (msO x))
  generalize w.alloc (msO x) = wa at HC HU ⊢
  generalize w.heap.size = pb at HC ⊢
  go_wp2_with (go_at_call 56; refine (mflags_any pb _).mono ?_; rintro e wb ⟨E, rfl, HM, HI, HUb⟩; obtain ⟨clk, hm, hfl⟩ := HM.out; have hrange := run_range_map (P := Try.prog) wb 84 5 86 wa.heap.size (ensF pb E) clk (by kernel_rfl) hm)
  obtain ⟨w0, hw0⟩ : ∃ w0, wb.alloc (.mapIter (some wa.heap.size) clk #[] clk) = w0 := ⟨_, rfl⟩
  have hrg0 : RgF w0 wa.heap.size wb.heap.size pb E #[] := by
    rw [← hw0]
    exact ⟨⟨clk, clk, clk, new_at wb _, blk_up hm (up_alloc wb _), hfl.lt, Nat.le_refl _, Nat.le_refl _⟩, hfl.nb, hfl.i⟩
  have HU0 := Lib.hid (show Up wa w0 by rw [← hw0]; exact HUb.out.trans (up_alloc wb _))
  have hrb := HUb.out.size
  have hpb := lt_of_blk HC.out
  have HNB := Lib.hid hfl.nb
  have HEI := Lib.hid hfl.i
  rw [hw0]
  clear hrange hw0 hm hfl HM
  obtain ⟨M, HMM⟩ : ∃ M, Hid (wa.heap.size = M) := ⟨_, Lib.hid rfl⟩
  rw [HMM.out] at hrg0 hrb hpb ⊢
  obtain ⟨r, HRR⟩ : ∃ r, Hid (wb.heap.size = r) := ⟨_, Lib.hid rfl⟩
  rw [HRR.out] at hrg0 hrb ⊢
  have HHI := HI
  go_loopw [3] (fun v wr => ∃ seen, v = .int .u8 (valF (fun i => cameF E seen i && flF x i)) ∧ RgF wr M r pb E seen ∧ Out (fun k => k = r) w0 wr) (fun _ wr => wr.rangeLeft M r)
  case atStart => exact ⟨#[], by rw [show (fun i => cameF E #[] i && flF x i) = (fun _ => false) by funext i; rw [came_none]; rfl]; rfl, hrg0, Out.refl _ _⟩
  case round =>
    obtain ⟨seen, rfl, hrg, ho⟩ := hrel
    have hblk : wr.heap[pb]? = some (msO x) := ho.blk (blk_up HC.out HU0.out) (by omega)
    rcases hrg.next with ⟨hall, hnx⟩ | ⟨y, hy, hs, w2, hnx, hrg2, ho2, hen, hlt2⟩
    · have hfin : valF (fun i => cameF E seen i && flF x i) = msFl x.pure := by
        rw [← valF_flF]
        exact valF_congr fun i hi => by rw [came_all hall (HHI.out i hi)]; rfl
      rw [hfin]
      go_wp2_with fail
      go_ret
      refine ⟨rfl, HU.out.trans ?_⟩
      exact Below.out HU0.out ho (fun k hk => by have := HMM.out; omega) HU0.out.size
    · have hb2 : w2.heap[pb]? = some (msO x) := ho2.blk hblk (by omega)
      have hc := cell_flF hb2 (HEI.out y hy)
      have hor := or_mflag (fun i => cameF E seen i && flF x i) y.1 (HEI.out y hy)
      have hcp := fun i => came_push (seen := seen) HNB.out hy i
      have ho3 : Out (fun k => k = r) w0 w2 := ho.trans ho2 (Sub.refl _ _)
      cases hf : flF x y.1
      case false =>
        rw [hf] at hc
        go_wp2_with fail
        refine ⟨⟨seen.push y.2, ?_, hrg2, ho3⟩, hlt2⟩
        rw [valF_congr fun i hi => ?_]
        show (cameF E seen i && flF x i) = (cameF E (seen.push y.2) i && flF x i)
        rw [hcp i]
        by_cases e : i = y.1
        · rw [e, hf]; simp
        · rw [decide_eq_false e, Bool.or_false]
      case true =>
        rw [hf] at hc
        go_wp2_with fail
        refine ⟨⟨seen.push y.2, ?_, hrg2, ho3⟩, hlt2⟩
        rw [valF_congr fun i hi => ?_]
        show updF (fun i => cameF E seen i && flF x i) y.1 true i = (cameF E (seen.push y.2) i && flF x i)
        rw [hcp i]
        unfold updF
        by_cases e : i = y.1
        · rw [if_pos e, e, hf]; simp
        · rw [if_neg e, decide_eq_false e, Bool.or_false]
/-- A flag of a number. -/
def bitB (n : Int) (i : Nat) : Bool := decide (n / bitF i % 2 = 1)
theorem and_mflag (n : Int) (h0 : 0 ≤ n) (h1 : n < 256) (i : Nat) (hi : i < 4) : (bits .and .u8 n (bitF i) == 0) = !bitB n i := by
  have e : ∀ (j : Fin 4) (k : Fin 256), (bits .and .u8 ((k.val : Nat) : Int) (bitF j) == 0) = !bitB ((k.val : Nat) : Int) j := by decide +kernel
  have := e ⟨i, hi⟩ ⟨n.toNat, by omega⟩
  simp only at this
  rwa [show ((n.toNat : Nat) : Int) = n by omega] at this
set_option maxRecDepth 100000 in
set_option maxHeartbeats 4000000 in
theorem raise_any (x : MsB) (g : Nat) (n : Int) (w : World) (hg : w.heap[g]? = some (msO x)) (h0 : 0 ≤ n) (h1 : n < 256) : Calls Try.prog 38 #[.pointer (some ⟨g, 0, none⟩), .int .u8 n] w fun e w' => e = .returned (.tuple #[]) ∧ Hid (w'.heap[g]? = some (msO (withF x (bitB n)))) ∧ Hid (Out (fun k => k = g) w w') := by
  have HG := Lib.hid hg
  have hglt := lt_of_blk hg
  clear hg
  go_enter Try.func38, Try.ntmps38
  go_wp2_with (go_at_call 56; refine (mflags_any g _).mono ?_; rintro e wb ⟨E, rfl, HM, HI, HUb⟩; obtain ⟨clk, hm, hfl⟩ := HM.out; have hrange := run_range_map (P := Try.prog) wb 84 5 86 w.heap.size (ensF g E) clk (by kernel_rfl) hm)
  obtain ⟨w0, hw0⟩ : ∃ w0, wb.alloc (.mapIter (some w.heap.size) clk #[] clk) = w0 := ⟨_, rfl⟩
  have hrg0 : RgF w0 w.heap.size wb.heap.size g E #[] := by
    rw [← hw0]
    exact ⟨⟨clk, clk, clk, new_at wb _, blk_up hm (up_alloc wb _), hfl.lt, Nat.le_refl _, Nat.le_refl _⟩, hfl.nb, hfl.i⟩
  have HU0 := Lib.hid (show Up w w0 by rw [← hw0]; exact HUb.out.trans (up_alloc wb _))
  have HW0 := Lib.hid (show wb.heap.size < w0.heap.size by rw [← hw0]; exact lt_of_blk (new_at wb _))
  have hrb := HUb.out.size
  have HNB := Lib.hid hfl.nb
  have HEI := Lib.hid hfl.i
  rw [hw0]
  clear hrange hw0 hm hfl HM
  obtain ⟨M, HMM⟩ : ∃ M, Hid (w.heap.size = M) := ⟨_, Lib.hid rfl⟩
  rw [HMM.out] at hrg0 hrb hglt ⊢
  obtain ⟨r, HRR⟩ : ∃ r, Hid (wb.heap.size = r) := ⟨_, Lib.hid rfl⟩
  rw [HRR.out] at hrg0 hrb HW0 ⊢
  have HHI := HI
  go_loopw [] (fun wr => ∃ seen, Hid (wr.heap[g]? = some (msO (withF x (fun i => if cameF E seen i = true then bitB n i else flF x i)))) ∧ RgF wr M r g E seen ∧ Out (fun k => k = g ∨ k = r) w0 wr) (fun wr => wr.rangeLeft M r)
  case atStart =>
    refine ⟨#[], Lib.hid ?_, hrg0, Out.refl _ _⟩
    have : withF x (fun i => if cameF E #[] i = true then bitB n i else flF x i) = x := by
      rw [withF_congr (t := flF x) fun i _ => by rw [came_none]; rfl]
      rfl
    rw [this]
    exact blk_up HG.out HU0.out
  case round =>
    obtain ⟨seen, hblk, hrg, ho⟩ := hrel
    rcases hrg.next with ⟨hall, hnx⟩ | ⟨y, hy, hs, w2, hnx, hrg2, ho2, hen, hlt2⟩
    · go_wp2_with fail
      go_end0
      refine ⟨rfl, Lib.hid ?_, Lib.hid ?_⟩
      · rw [← withF_congr (x := x) (s := fun i => if cameF E seen i = true then bitB n i else flF x i) fun i hi => by rw [came_all hall (HHI.out i hi)]; rfl]
        exact hblk.out
      · exact (HU0.out.out _).trans ho (fun k hk => by rcases hk with h | h; exact .inl h; right; have := HMM.out; omega)
    · have hi := HEI.out y hy
      have hb2 := ho2.blk hblk.out (by omega)
      have hc := cell_flF hb2 hi
      have hfz := frozen_at (j := y.1) hb2
      have han := and_mflag n h0 h1 y.1 hi
      go_wp2_with fail
      have hbit : (bits BinOp.and IntKind.u8 n (bitF y.1) != 0) = bitB n y.1 := by
        rw [bne, han, Bool.not_not]
      rw [hbit]
      have hset := set_flF x hi _ (bitB n y.1) hb2
      have ho4 := setCell_out w2 g y.1 (.bool (bitB n y.1))
      have hrg3 := hrg2.out ho4 (by omega) (by omega)
      refine ⟨⟨seen.push y.2, Lib.hid ?_, hrg3, ?_⟩, ?_⟩
      · rw [hset]
        rw [withF_congr fun i hi => ?_]
        rw [came_push HNB.out hy i]
        unfold updF
        by_cases e : i = y.1
        · rw [if_pos e, e]; simp
        · rw [if_neg e, decide_eq_false e, Bool.or_false]
      · exact (ho.trans ho2 (fun k hk => .inl (.inr hk))).trans ho4 (fun k hk => .inl (.inl hk))
      · rw [hrg3.left, ← hrg2.left]; exact hlt2
end Go.Proofs.Ythncpkjnalmpkaa
