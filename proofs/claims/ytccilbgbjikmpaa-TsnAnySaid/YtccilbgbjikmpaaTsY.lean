import Derived.Test.YtccilbgbjikmpaaTsF
namespace Go.Proofs.Ytccilbgbjikmpaa
open Go Go.RowKit
set_option linter.unusedVariables false
set_option linter.unusedSimpArgs false
/-! The law TsnAny. -/
/-- Block g is these numbers, all of it. -/
def Blk (w : World) (g : Nat) (T : List Int) : Prop := w.heap[g]? = some (.cells (ints .u32 T).toArray 22 (0, 0))
theorem Blk.store {w : World} {g j : Nat} {T : List Int} (h : Blk w g T) (x : Int) : Blk (w.setCell ⟨g, j, none⟩ (.int .u32 x)) g (T.set j x) := by
  unfold Blk at *
  rw [setCell_at _ h]
  congr 2
  apply Array.toList_inj.1
  simp [ints]
theorem Blk.cell {w : World} {g j : Nat} {T : List Int} {x : Int} (h : Blk w g T) (hx : T[j]? = some x) : w.cell? ⟨g, j, none⟩ = some (.int .u32 x) := cell_of h (by simp [ints, hx])
theorem Blk.free {w : World} {g : Nat} {T : List Int} (h : Blk w g T) (j : Nat) : w.frozen? ⟨g, j, none⟩ = false := frozen_at h
theorem make_u32 (n : Nat) (hn : n ≤ 1000000) (W : World) : (Instr.makeSlice 24 (.int .i64 (n : Int)) (.int .i64 (n : Int))).run Try.prog W =
    .ok (.slice (some ⟨W.heap.size, 0, none⟩) n n) (W.alloc (.cells (ints .u32 (List.replicate n 0)).toArray 22)) := by
  obtain ⟨i0, hi, hz0, hz1, hz2⟩ := info_parts info22
  have h := run_make (P := Try.prog) W 24 22 i0 (.int .u32 0) Try.underlying24 hi hz0 .i64 .i64 n n (by omega) (Int.le_refl _) (by rw [hz2]; omega) (by omega)
  have e : madeCells (Value.int .u32 0).cells (n * 1) = (ints .u32 (List.replicate n 0)).toArray := by
    apply Array.toList_inj.1
    show (madeCells #[Value.int .u32 0] (n * 1)).toList = _
    rw [toList_madeCells_one]; simp [ints]
  rw [hz1] at h
  simp only [Int.toNat_natCast] at h
  rw [e] at h
  exact h
/-- The first i numbers from F on, and noughts. -/
def fillT (F k i : Nat) : List Int := (List.range' F i).map key ++ List.replicate (k - i) 0
theorem fill_step {F k i : Nat} (h : i < k) : (fillT F k i).set i (key (F + i)) = fillT F k (i + 1) := by
  unfold fillT
  rw [List.set_append_right _ _ (by simp), List.length_map, List.length_range', Nat.sub_self, show k - i = (k - (i + 1)) + 1 by omega, List.replicate_succ, List.set_cons_zero, List.range'_concat, List.map_append]
  simp
theorem fill_at {F k i : Nat} (h : i < k) : (fillT F k i)[i]? = some 0 := by
  unfold fillT
  rw [List.getElem?_append_right (by simp), List.length_map, List.length_range', Nat.sub_self, List.getElem?_replicate, if_pos (by omega)]
theorem fill_end (F k : Nat) : fillT F k k = (List.range' F k).map key := by unfold fillT; simp
/-- Two changed. -/
theorem swap_key {X : List Nat} {i j : Nat} (hi : i < X.length) (hj : j < X.length) : ((X.map key).set i (key X[j])).set j (key X[i]) = (((X.set i X[j]).set j X[i])).map key := by
  rw [List.map_set, List.map_set]
/-- The numbers in whichever order; block g is theirs. -/
def OrdAt (w : World) (F k g : Nat) (wr : World) : Prop := ∃ X : List Nat, X.Perm (List.range' F k) ∧ Blk wr g (X.map key) ∧ Up w wr
/-- Which came of the first i. -/
def CameAt (w : World) (F k l : Nat) (X : List Nat) (pb g B i : Nat) (wr : World) : Prop := ∃ C A R, IsT B wr pb C A [] ∧ Ts.Inv F R C A ∧ (∀ y, y ∈ R ↔ y ∈ X.take i ∧ y ≠ F + l) ∧ Blk wr g (X.map key) ∧ Up w wr ∧ B ≤ wr.heap.size ∧ g < B
theorem mem_take_succ {X : List Nat} {i y x : Nat} (h : X[i]? = some x) : y ∈ X.take (i + 1) ↔ y ∈ X.take i ∨ y = x := by
  rw [take_snoc' h, List.mem_append, List.mem_singleton]
theorem not_take {X : List Nat} (hn : X.Nodup) {i x : Nat} (h : X[i]? = some x) : x ∉ X.take i := by
  intro hm
  obtain ⟨j, hj, e⟩ := List.getElem_of_mem hm
  obtain ⟨hi, e2⟩ := List.getElem?_eq_some_iff.1 h
  rw [List.length_take] at hj
  rw [List.getElem_take] at e
  have := (List.pairwise_iff_getElem.1 hn) j i (by omega) hi (by omega)
  rw [e, e2] at this
  exact this rfl
theorem key_ne {F x l i : Nat} (hi : i < 256) (hl : l < 256) (hx : F ≤ x ∧ x < F + i) : (key x != key (F + l)) = (x != F + l) := by
  by_cases e : x = F + l
  · subst e; simp
  · have h1 : (x != F + l) = true := by rw [bne_iff_ne]; exact e
    rw [h1, bne_iff_ne]
    intro h
    unfold key at h
    omega
theorem key_pred {C Y : Nat} (h : C + 1 = Y) : IntKind.u32.wrap (key Y - 1) = key C := by rw [IntKind.wrap_u32']; unfold key; omega
theorem came_none {F k l C : Nat} {R A : List Nat} (hi : Ts.Inv F R C A) (hR : ∀ y, y ∈ R ↔ (F ≤ y ∧ y < F + k) ∧ y ≠ F + l) (h : k ≤ l) : C + 1 = F + k ∧ A = [] := by
  have hc := hi.fix (Y := F + k) (by omega) (fun x h1 h2 => (hR x).2 ⟨⟨h1, h2⟩, by omega⟩) (fun hx => by have := (hR _).1 hx; omega)
  refine ⟨hc, List.eq_nil_iff_forall_not_mem.2 fun x hx => ?_⟩
  have h1 := (hi.up x).1 hx
  have h2 := (hR x).1 h1.1
  omega
theorem came_miss {F k l C : Nat} {R A : List Nat} (hi : Ts.Inv F R C A) (ho : Ts.Ok C A) (hR : ∀ y, y ∈ R ↔ (F ≤ y ∧ y < F + k) ∧ y ≠ F + l) (h : l < k) : C + 1 = F + l ∧ A.length = k - 1 - l := by
  have hc := hi.fix (Y := F + l) (by omega) (fun x h1 h2 => (hR x).2 ⟨⟨h1, by omega⟩, by omega⟩) (fun hx => by have := (hR _).1 hx; omega)
  refine ⟨hc, ?_⟩
  have hm : ∀ x, x ∈ A ↔ x ∈ List.range' (F + l + 1) (k - 1 - l) := fun x => by
    rw [hi.up, hR, List.mem_range'_1]
    omega
  have := ((List.perm_ext_iff_of_nodup ho.nd List.nodup_range').2 hm).length_eq
  simpa using this
set_option maxRecDepth 100000 in
set_option maxHeartbeats 4000000 in
theorem law_any (f : Int) (k : Nat) (A : Option Addr) (m c : Nat) (xs : List Int) (l : Nat) (w : World) (hf : 0 ≤ f ∧ f < 4294967296) (hk : k < 256) (hl : l < 256) (hin : InB w A m c xs) (hm : m ≤ 140737488355328) :
    Calls Try.prog 3 #[.int .u32 f, .int .u8 (k : Int), .slice A m c, .int .u8 (l : Int)] w (RetB true w) := by
  obtain ⟨hf0, hf1⟩ := hf
  obtain ⟨F, hF⟩ : ∃ F : Nat, F = f.toNat + 4294967296 := ⟨_, rfl⟩
  have HF := Lib.hid hF
  have hfx : ∀ j : Nat, IntKind.u32.wrap (f + (j : Int)) = key (F + j) := fun j => by rw [IntKind.wrap_u32']; unfold key; omega
  have HFX := Lib.hid hfx
  have HIN := Lib.hid hin
  have hcap := hin.cap
  have hmk := make_u32 k (by omega)
  clear hF hfx hin
  go_enter Try.func3, Try.ntmps3
  go_wp2_with fail
  clear hmk
  obtain ⟨g, hg⟩ : ∃ g, g = w.heap.size := ⟨_, rfl⟩
  have hb0 : Blk (w.alloc (.cells (ints .u32 (List.replicate k 0)).toArray 22)) g (fillT F k 0) := by
    unfold Blk fillT
    rw [hg]
    simpa using new_at w _
  have HB0 := Lib.hid hb0
  have HU0 := Lib.hid (up_alloc w (.cells (ints .u32 (List.replicate k 0)).toArray 22))
  have HG := Lib.hid hg
  rw [← hg]
  clear hb0 hg
  generalize w.alloc (.cells (ints .u32 (List.replicate k 0)).toArray 22) = w1 at HB0 HU0 ⊢
  go_loopw [11] (fun s wr => ∃ i : Nat, i ≤ k ∧ s = .int .i64 (i : Int) ∧ Hid (Blk wr g (fillT F k i)) ∧ Hid (Up w wr)) (fun s _ => k - (intOf s).toNat)
  case atStart => exact ⟨0, Nat.zero_le _, rfl, HB0, HU0⟩
  case round =>
    obtain ⟨i, hi, rfl, hB, hU⟩ := hrel
    by_cases hlt : i < k
    · have hik : (i : Int) < (k : Int) := by omega
      have hfi := HFX.out i
      have hce := hB.out.cell (fill_at hlt)
      have hfr := hB.out.free i
      have hst := hB.out.store (j := i) (key (F + i))
      rw [fill_step hlt] at hst
      have hou := hU.out.out_ (setCell_out wr g i (.int .u32 (key (F + i)))) (fun q hq => by rw [hq, HG.out]; exact Nat.le_refl _)
      have HST := Lib.hid hst
      have HOU := Lib.hid hou
      clear hst hou
      generalize key (F + i) = y at hfi HST HOU ⊢
      go_wp2_with fail
      go_roundw
      case rel => exact ⟨i + 1, by omega, by go_num, HST, HOU⟩
      case measure => simp [intOf]; omega
    · obtain rfl : i = k := by omega
      have HO := Lib.hid (show OrdAt w F i g wr from ⟨_, List.Perm.refl _, by have := hB.out; rwa [fill_end] at this, hU.out⟩)
      clear hB hU HB0 HU0 w1
      go_wp2_with fail
      go_loopw [12] (fun s wy => ∃ j : Nat, j ≤ i ∧ j ≤ m ∧ s = .int .i64 (j : Int) ∧ Hid (OrdAt w F i g wy)) (fun s _ => i - (intOf s).toNat)
      case atStart => exact ⟨0, Nat.zero_le _, Nat.zero_le _, rfl, HO⟩
      case round =>
        obtain ⟨j, hj, hjm, rfl, hO⟩ := hrel
        by_cases h2 : j < m ∧ j < i
        · obtain ⟨h1, h2⟩ := h2
          have hjm1 : (j : Int) < (m : Int) := by omega
          have hji1 : (j : Int) < (i : Int) := by omega
          obtain ⟨X, hp, hB, hU⟩ := hO.out
          have hXl : X.length = i := by rw [hp.length_eq]; simp
          have hjx : j < xs.length := by rw [HIN.out.len]; exact h1
          obtain ⟨go, o, rfl, _, hc⟩ := HIN.out.cells (by intro e; rw [ints, List.map_eq_nil_iff] at e; rw [e] at hjx; simp at hjx)
          obtain ⟨b, hbe⟩ : ∃ b, b = xs[j] := ⟨_, rfl⟩
          have hbb := HIN.out.byt b (by rw [hbe]; exact List.getElem_mem hjx)
          have q0 := cell_up (hc j (.int .u8 b) (by rw [hbe]; simp [ints, hjx])) hU
          obtain ⟨r, hr⟩ : ∃ r : Nat, b % (i : Int) = (r : Int) := ⟨(b % (i : Int)).toNat, by have := Int.emod_nonneg b (show (i : Int) ≠ 0 by omega); omega⟩
          have hri : r < i := by have := Int.emod_lt_of_pos b (show (0 : Int) < (i : Int) by omega); omega
          have hri1 : (r : Int) < (i : Int) := by omega
          have hi0 : ((i : Int) == 0) = false := by simp; omega
          have hjX : j < X.length := by omega
          have hrX : r < X.length := by omega
          have cj := hB.cell (j := j) (x := key X[j]) (by rw [List.getElem?_map, List.getElem?_eq_getElem hjX]; rfl)
          have cr := hB.cell (j := r) (x := key X[r]) (by rw [List.getElem?_map, List.getElem?_eq_getElem hrX]; rfl)
          have fj := hB.free j
          have hs1 := hB.store (j := j) (key X[r])
          have ho1 := hU.out_ (setCell_out wr g j (.int .u32 (key X[r]))) (fun q hq => by rw [hq, HG.out]; exact Nat.le_refl _)
          have hsw := swap_key hjX hrX
          have hpp : ((X.set j X[r]).set r X[j]).Perm (List.range' F i) := (List.set_set_perm hjX hrX).trans hp
          obtain ⟨W1, hW1⟩ : ∃ W1, wr.setCell ⟨g, j, none⟩ (.int .u32 (key X[r])) = W1 := ⟨_, rfl⟩
          rw [hW1] at hs1 ho1
          have cr1 := hs1.cell (j := r) (x := key X[r]) (by
            rw [List.getElem?_set]
            split
            · rename_i e; subst e; simp [hjX]
            · rw [List.getElem?_map, List.getElem?_eq_getElem hrX]; rfl)
          have fr1 := hs1.free r
          have hs2 := hs1.store (j := r) (key X[j])
          rw [hsw] at hs2
          have ho2 := ho1.out_ (setCell_out W1 g r (.int .u32 (key X[j]))) (fun q hq => by rw [hq, HG.out]; exact Nat.le_refl _)
          have HN := Lib.hid (show OrdAt w F i g (W1.setCell ⟨g, r, none⟩ (.int .u32 (key X[j]))) from ⟨_, hpp, hs2, ho2⟩)
          have HW1 := Lib.hid hW1
          clear hp hB hU hXl hjx hc hbe hs1 ho1 hsw hpp hs2 ho2 hO hW1
          generalize key X[j] = yj at *
          generalize key X[r] = yr at *
          go_upto_region 13 with (fail)
          rw [HW1.out]
          clear q0 cj cr fj
          go_wp2_with fail
          go_roundw
          case rel => exact ⟨j + 1, by omega, by omega, by go_num, HN⟩
          case measure => simp [intOf]; omega
        · have hex : (decide (j < m) = false ∧ decide ((j : Int) < (m : Int)) = false) ∨ (decide (j < m) = true ∧ decide ((j : Int) < (m : Int)) = true ∧ decide (j < i) = false ∧ decide ((j : Int) < (i : Int)) = false) := by
            by_cases h1 : j < m
            · right; simp; omega
            · left; simp; omega
          obtain ⟨X, hp, hB, hU⟩ := hO.out
          have HP := Lib.hid hp
          have HBX := Lib.hid hB
          have HUX := Lib.hid hU
          have hgz := lt_of_blk hB
          have HXL := Lib.hid (show X.length = i by rw [hp.length_eq]; simp)
          have HXM := Lib.hid (show ∀ y, y ∈ X ↔ F ≤ y ∧ y < F + i by intro y; rw [hp.mem_iff, List.mem_range'_1])
          have HXN := Lib.hid (show X.Nodup by exact hp.nodup_iff.2 List.nodup_range')
          clear hp hB hU hO h2 HO
          rcases hex with ⟨hd1, hd2⟩ | ⟨hd1, hd2, hd3, hd4⟩
          all_goals
            go_wp2_with fail
            refine (new_t f wr hf0 hf1).mono ?_
            rintro e w2 ⟨pb, rfl, hT, hu⟩
            rw [show f.toNat + 4294967295 = F - 1 by have := HF.out; omega] at hT
            have HT := Lib.hid hT
            have HU := Lib.hid hu
            clear hT hu
            go_wp2_with fail
            refine (answers_ok w2).mono ?_
            rintro e w3 ⟨rfl, hu⟩
            obtain ⟨Bz, hBz⟩ : ∃ Bz, Bz = wr.heap.size := ⟨_, rfl⟩
            have HS := Lib.hid (show CameAt w F i l X pb g Bz 0 w3 from ⟨F - 1, [], [], by rw [hBz]; exact HT.out.up hu.out, by
              have h0 := Ts.Inv.start (C := F - 1)
              rwa [show F - 1 + 1 = F by have := HF.out; omega] at h0, fun y => by simp, by
              have hz := (HU.out.trans hu.out).block g hgz
              unfold Blk; rw [hz]; exact HBX.out, HUX.out.trans (HU.out.trans hu.out), by rw [hBz]; exact (HU.out.trans hu.out).size, by rw [hBz]; exact hgz⟩)
            have hms := HFX.out l
            have HMS := Lib.hid (show key (F + l) = key (F + l) from rfl)
            obtain ⟨ms, hmse⟩ : ∃ ms, ms = key (F + l) := ⟨_, rfl⟩
            rw [← hmse] at hms
            have HME := Lib.hid hmse
            clear hu HT HU hBz HBX HUX HMS hmse
            go_wp2_with fail
            clear hms
            go_loopw [17] (fun s wv => ∃ j : Nat, j ≤ i ∧ s = .int .i64 (j : Int) ∧ Hid (CameAt w F i l X pb g Bz j wv)) (fun s _ => i - (intOf s).toNat)
            case atStart => exact ⟨0, Nat.zero_le _, rfl, HS⟩
            case round =>
              rename_i wold _ _ _ _ _ _ _ _
              clear HS
              obtain ⟨j, hj, rfl, hcm⟩ := hrel
              by_cases hlt2 : j < i
              · obtain ⟨C, A9, R, hT, hI, hR, hB, hU, hz, hgB⟩ := hcm.out
                obtain ⟨x, hx⟩ : ∃ x, X[j]? = some x := ⟨_, List.getElem?_eq_getElem (by rw [HXL.out]; exact hlt2)⟩
                have hxb := (HXM.out x).1 (List.mem_of_getElem? hx)
                have hxn := not_take HXN.out hx
                have hji1 : (j : Int) < (i : Int) := by omega
                have cj := hB.cell (j := j) (x := key x) (by rw [List.getElem?_map, hx]; rfl)
                have hne := key_ne hk hl hxb
                rw [← HME.out] at hne
                by_cases hxe : x = F + l
                · have hN : CameAt w F i l X pb g Bz (j + 1) wr := ⟨C, A9, R, hT, hI, fun y => by
                    rw [hR, mem_take_succ hx]
                    constructor
                    · rintro ⟨h1, h2⟩; exact ⟨.inl h1, h2⟩
                    · rintro ⟨h1 | h1, h2⟩
                      · exact ⟨h1, h2⟩
                      · exact absurd (h1.trans hxe) h2, hB, hU, hz, hgB⟩
                  have HN := Lib.hid hN
                  rw [show (x != F + l) = false by simp [hxe]] at hne
                  clear hT hI hR hB hU hz hcm hx hxb hxn hN hxe
                  generalize key x = kx at *
                  go_wp2_with fail
                  go_roundw
                  case rel => exact ⟨j + 1, by omega, by go_num, HN⟩
                  case measure => simp [intOf]; omega
                · have hXR : x ∉ R := fun h => hxn ((hR x).1 h).1
                  have hlo := hI.lo
                  rw [show (x != F + l) = true by simp [hxe]] at hne
                  have HT9 := Lib.hid hT
                  have HI9 := Lib.hid hI
                  have HR9 := Lib.hid hR
                  have HB9 := Lib.hid hB
                  have HU9 := Lib.hid hU
                  have HZ9 := Lib.hid hz
                  have HX9 := Lib.hid hx
                  have HKB := Lib.hid (key_bd x)
                  clear hT hI hR hB hU hz hcm hx hxn
                  obtain ⟨kx, hkx⟩ : ∃ kx, kx = key x := ⟨_, rfl⟩
                  rw [← hkx] at hne cj
                  have HKX := Lib.hid hkx
                  clear hkx
                  go_wp2_with fail
                  refine (got_t Bz pb C A9 [] kx wr HT9.out (by rw [HKX.out]; exact HKB.out) HZ9.out).mono ?_
                  rintro e w4 ⟨r4, C4, A4, d4, rfl, hg, hT, hb⟩
                  rw [HKX.out] at hg
                  obtain ⟨rfl, hI4, rfl⟩ := GotR.fresh HI9.out hXR hxb.1 (by omega) hg
                  have hN : CameAt w F i l X pb g Bz (j + 1) w4 := ⟨C4, A4, x :: R, hT, hI4, fun y => by
                    rw [List.mem_cons, HR9.out, mem_take_succ HX9.out]
                    constructor
                    · rintro (h1 | ⟨h1, h2⟩)
                      · subst h1; exact ⟨.inr rfl, hxe⟩
                      · exact ⟨.inl h1, h2⟩
                    · rintro ⟨h1 | h1, h2⟩
                      · exact .inr ⟨h1, h2⟩
                      · exact .inl h1, by
                    unfold Blk; rw [hb.block g hgB]; exact HB9.out, ⟨hb.os.trans HU9.out.os, hb.tape.trans HU9.out.tape, hb.output.trans HU9.out.output, Nat.le_trans HU9.out.size hb.size, fun q hq => by
                      rw [hb.block q (by have := HG.out; omega)]; exact HU9.out.block q hq⟩, Nat.le_trans HZ9.out hb.size, hgB⟩
                  have HN := Lib.hid hN
                  clear hg hT hb hI4 hN cj
                  go_wp2_with fail
                  go_roundw
                  case rel => exact ⟨j + 1, by omega, by go_num, HN⟩
                  case measure => simp [intOf]; omega
              · obtain rfl : j = i := by omega
                obtain ⟨C, A9, R, hT, hI, hR, hB, hU, hz, hgB⟩ := hcm.out
                have hR2 : ∀ y, y ∈ R ↔ (F ≤ y ∧ y < F + j) ∧ y ≠ F + l := fun y => by rw [hR, List.take_of_length_le (by rw [HXL.out]; exact Nat.le_refl _), HXM.out]
                have hfk := HFX.out j
                have HT9 := Lib.hid hT
                have HU9 := Lib.hid hU
                have HZ9 := Lib.hid hz
                have HI9 := Lib.hid hI
                have HR9 := Lib.hid hR2
                by_cases hlk : j ≤ l
                · obtain ⟨hc, rfl⟩ := came_none hI hR2 hlk
                  have hpr := key_pred hc
                  have hd5 : decide (j ≤ l) = true := by simp [hlk]
                  have hd6 : decide ((j : Int) ≤ (l : Int)) = true := by simp; omega
                  clear hT hI hR hB hU hz hcm hR2 hc
                  generalize key (F + j) = y at hfk hpr
                  obtain ⟨kc, hkc⟩ : ∃ kc, kc = key C := ⟨_, rfl⟩
                  rw [← hkc] at hpr
                  have HKC := Lib.hid hkc
                  clear hkc
                  go_wp2_with fail
                  refine (cum_t Bz pb C [] [] wr HT9.out).mono ?_
                  rintro e w4 ⟨rfl, rfl⟩
                  rw [← HKC.out]
                  go_wp2_with fail
                  refine (ahead_t Bz pb C [] [] wr HT9.out).mono ?_
                  rintro e w6 ⟨L0, n, B2, c2, rfl, hn, hL, hrow, hu⟩
                  have hn0 : n = 0 := by rw [hn, hL.1.length_eq]; rfl
                  clear hn
                  subst hn0
                  have HU6 := Lib.hid (show Up w w6 from HU9.out.trans hu)
                  clear hL hrow hu
                  go_wp2_with fail
                  go_ret
                  exact ⟨by simp, HU6⟩
                · obtain ⟨hc, hlen⟩ := came_miss hI hT.ok hR2 (by omega)
                  have hpr := key_pred hc
                  rw [← HME.out] at hpr
                  have hd5 : decide (j ≤ l) = false := by simp; omega
                  have hd6 : decide ((j : Int) ≤ (l : Int)) = false := by simp; omega
                  have HLEN := Lib.hid hlen
                  have HC := Lib.hid hc
                  clear hT hI hR hB hU hz hcm hR2 hc hlen
                  obtain ⟨kc, hkc⟩ : ∃ kc, kc = key C := ⟨_, rfl⟩
                  rw [← hkc] at hpr
                  have HKC := Lib.hid hkc
                  clear hkc
                  go_wp2_with fail
                  refine (cum_t Bz pb C A9 [] wr HT9.out).mono ?_
                  rintro e w4 ⟨rfl, rfl⟩
                  rw [← HKC.out]
                  go_wp2_with fail
                  refine (ahead_t Bz pb C A9 [] wr HT9.out).mono ?_
                  rintro e w6 ⟨L0, n, B2, c2, rfl, hn, hL, hrow, hu⟩
                  have hn1 : (n : Int) = (j : Int) - 1 - (l : Int) := by
                    have h1 := HLEN.out
                    have h2 := hL.1.length_eq
                    omega
                  have hnt : ((n : Int) != (j : Int) - 1 - (l : Int)) = false := by rw [hn1]; simp
                  have HT6 := Lib.hid (HT9.out.up hu)
                  have HU6 := Lib.hid (show Up w w6 from HU9.out.trans hu)
                  have HZ6 := Lib.hid (Nat.le_trans HZ9.out hu.size)
                  clear hL hrow hu hn hn1
                  go_wp2_with fail
                  clear hnt hpr
                  have HKB := Lib.hid (key_bd (F + l))
                  refine (got_t Bz pb C A9 [] ms w6 HT6.out (by rw [HME.out]; exact HKB.out) HZ6.out).mono ?_
                  rintro e w7 ⟨r4, C4, A4, d4, rfl, hg, hT, hb⟩
                  rw [HME.out] at hg
                  obtain ⟨rfl, hI4, rfl⟩ := GotR.fresh HI9.out (fun h => ((HR9.out _).1 h).2 rfl) (by omega) (by have := HC.out; omega) hg
                  have hc4 := hI4.fix (Y := F + j) (by omega) (fun y h1 h2 => by
                    rw [List.mem_cons, HR9.out]
                    by_cases e : y = F + l
                    · exact .inl e
                    · exact .inr ⟨⟨h1, h2⟩, e⟩) (fun h => by
                    rw [List.mem_cons, HR9.out] at h
                    omega)
                  have hpr := key_pred hc4
                  have HT7 := Lib.hid hT
                  have HU7 := Lib.hid (show Up w w7 from ⟨hb.os.trans HU6.out.os, hb.tape.trans HU6.out.tape, hb.output.trans HU6.out.output, Nat.le_trans HU6.out.size hb.size, fun q hq => by
                      rw [hb.block q (by have := HG.out; omega)]; exact HU6.out.block q hq⟩)
                  clear hg hT hb hI4 hc4
                  generalize key (F + j) = y at hfk hpr
                  go_wp2_with fail
                  refine (cum_t Bz pb C4 A4 [] w7 HT7.out).mono ?_
                  rintro e w8 ⟨rfl, rfl⟩
                  obtain ⟨k4, hk4⟩ : ∃ k4, k4 = key C4 := ⟨_, rfl⟩
                  rw [← hk4] at hpr ⊢
                  have HK4 := Lib.hid hk4
                  clear hk4
                  go_wp2_with fail
                  go_ret
                  exact ⟨by simp, HU7⟩
end Go.Proofs.Ytccilbgbjikmpaa
