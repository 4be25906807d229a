import Derived.Test.YtghldkjbmfbdfaaDoorDc8
import Derived.Deep.DeepBigQuietO
namespace Go.Proofs.YtghldkjbmfbdfaaDoor
open Go Go.RowKit Dc
set_option linter.unusedVariables false
set_option linter.unusedSimpArgs false
/-! The law DictOnce. -/
def rO (must : Bool) (m k : Nat) : Ru := ⟨7, 0, 1, must, (m : Int), (k : Int)⟩
def aO (xs : List Int) : Av.Avp := ⟨7, 0, false, false, xs⟩
theorem rO_sound (must : Bool) {m k : Nat} (hm : m ≤ k) (hk : k ≤ 64) : sound [rO must m k] = true := by
  refine sound_yes (by simp) fun i hi => ?_
  have : i = 0 := by simp at hi; omega
  subst this
  rw [okAt_some (r := rO must m k) rfl, List.take_zero]
  have : (rO must m k).may = true := decide_eq_true (by unfold rO; show (1 : Int) ≤ 1 ∧ (1 : Int) ≤ 11 ∧ (0 : Int) ≤ (m : Int) ∧ (m : Int) ≤ (k : Int) ∧ (k : Int) ≤ 64; omega)
  rw [this]; rfl
theorem aO_cnt (xs : List Int) (j : Nat) : cnt (7, 0) (List.replicate j (aO xs)) = j := by
  unfold cnt
  rw [List.countP_eq_length.2 (fun a ha => by rw [(List.mem_replicate.1 ha).2]; rfl), List.length_replicate]
theorem aO_fault (must : Bool) (m k j : Nat) (xs : List Int) (hk : 0 < k) : fault [rO must m k] (List.replicate j (aO xs)) (aO xs) = if k < j + 1 then 5009 else 0 := by
  have h1 : find [rO must m k] (nmA (aO xs)) = some (rO must m k) := rfl
  unfold fault
  rw [h1]
  simp only
  rw [show nmA (aO xs) = (7, 0) from rfl, aO_cnt, if_neg (by show ¬ ((k : Int) = 0); omega)]
  by_cases h : k < j + 1
  · rw [if_pos h, if_pos (by show (k : Int) < (j : Int) + 1; omega)]
  · rw [if_neg h, if_neg (by show ¬ ((k : Int) < (j : Int) + 1); omega)]
    rfl
theorem rep_at {α : Type} {i j : Nat} {a b : α} (h : (List.replicate i a)[j]? = some b) : b = a ∧ j < i := by
  obtain ⟨h1, h2⟩ := List.getElem?_eq_some_iff.1 h
  simp at h1 h2
  exact ⟨h2.symm, h1⟩
theorem rep_take {α : Type} {i j : Nat} {a : α} (h : j ≤ i) : (List.replicate i a).take j = List.replicate j a := by rw [List.take_replicate, Nat.min_eq_left h]
theorem once_miss (must : Bool) {m k i : Nat} (xs : List Int) (hm : m ≤ k) (hk : 0 < k) (hk2 : k ≤ 64) (hi : i < m) : judge [rO must m k] (List.replicate i (aO xs)) = (5005, [miss (rO must m k)], 0) := by
  refine judge_miss (rO_sound must hm hk2) (fun j b hb => ?_) (miss_some (k := 0) rfl (fun j q hj => absurd hj (by omega)) ?_)
  · obtain ⟨rfl, hj⟩ := rep_at hb
    rw [rep_take (by omega), aO_fault _ _ _ _ _ hk, if_neg (by omega)]
  · rw [show (rO must m k).nm = (7, 0) from rfl, aO_cnt]
    show (i : Int) < (m : Int)
    omega
theorem once_fine (must : Bool) {m k i : Nat} (xs : List Int) (hm : m ≤ k) (hk : 0 < k) (hk2 : k ≤ 64) (h1 : m ≤ i) (h2 : i ≤ k) : judge [rO must m k] (List.replicate i (aO xs)) = (2001, [], 0) := by
  refine judge_fine (rO_sound must hm hk2) (fun j b hb => ?_) (miss_none fun j q hq => ?_)
  · obtain ⟨rfl, hj⟩ := rep_at hb
    rw [rep_take (by omega), aO_fault _ _ _ _ _ hk, if_neg (by omega)]
  · have : j = 0 := by have := (List.getElem?_eq_some_iff.1 hq).1; simp at this; omega
    subst this
    simp at hq
    subst hq
    rw [show (rO must m k).nm = (7, 0) from rfl, aO_cnt]
    show ¬ ((i : Int) < (m : Int))
    omega
theorem once_many (must : Bool) {m k : Nat} (xs : List Int) (hm : m ≤ k) (hk : 0 < k) (hk2 : k ≤ 64) : judge [rO must m k] (List.replicate (k + 1) (aO xs)) = (5009, [aO xs], 0) := by
  have hf : fault [rO must m k] ((List.replicate (k + 1) (aO xs)).take k) (aO xs) = 5009 := by rw [rep_take (by omega), aO_fault _ _ _ _ _ hk, if_pos (by omega)]
  rw [judge_hit (rO_sound must hm hk2) (k := k) (a := aO xs) (by simp) (fun j b hj hb => by
    obtain ⟨rfl, _⟩ := rep_at hb
    rw [rep_take (by omega), aO_fault _ _ _ _ _ hk, if_neg (by omega)]) (by rw [hf]; decide), hf]
theorem x_not {P : Program} {o : Oper} {a : Act} {w : World} (t : TypeId) (x : Operand) {b : Bool} (ho : o.op = .unOp .not t x) (hx : a.eval x = .bool b) : (execOp a.eval o).run P w = .ok (.value (.bool (!b))) w := by
  have hr : (Op.unary .not (.bool b)).run P w = .ok (.bool (!b)) w := by simp [go_sem]
  simp [execOp, ho, hx, hr, Result.andThen]
theorem keeps_true : Keeps (fun _ _ => True) := fun _ _ _ h _ => h
theorem load38_at {w : World} {g o : Nat} {x : AvB} (k0 : w.cell? ⟨g, o, none⟩ = some (.int .u32 x.code)) (k1 : w.cell? ⟨g, o + 1, none⟩ = some (.int .u32 x.vendor)) (k2 : w.cell? ⟨g, o + 2, none⟩ = some (.bool x.must)) (k3 : w.cell? ⟨g, o + 3, none⟩ = some (.bool x.prot)) (k4 : w.cell? ⟨g, o + 4, none⟩ = some (.slice x.A x.n x.c)) : (Instr.loadAt 38 (.pointer (some ⟨g, o, none⟩))).run Tryd.prog w = .ok (avV x) w := by
  have hl : (loadCells ⟨g, o, none⟩ 5).run Tryd.prog w = .ok (avc x).toArray w :=
    run_loadCells_list (P := Tryd.prog) w ⟨g, o, none⟩ (avc x) (fun j v hv => by
      rw [add_flat]
      match j, hv with
      | 0, hv => cases hv; exact k0
      | 1, hv => cases hv; exact k1
      | 2, hv => cases hv; exact k2
      | 3, hv => cases hv; exact k3
      | 4, hv => cases hv; exact k4
      | j + 5, hv => simp [avc, avcL] at hv)
  have hagg : (isAgg 38).run Tryd.prog w = .ok true w := by kernel_rfl
  simp only [Instr.loadAt, Instr.sureAddr, loadVar, Sem.run_bind, Sem.run_pure, Result.andThen_ok, hagg, siz38, hl, if_true]
  rfl
theorem sz38 (w : World) : (Go.sizeOf 38).run Tryd.prog w = .ok 5 w := by kernel_rfl
theorem idx29z (g o n c : Nat) (hn : 0 < n) (w : World) : (Instr.indexAt 29 (.slice (some ⟨g, o, none⟩) n c) (.int .i64 0)).run Tryd.prog w = .ok (.pointer (some ⟨g, o, none⟩)) w := by
  have := run_indexT (P := Tryd.prog) (w := w) Tryd.underlying29 (sz38 w) (A := ⟨g, o, none⟩) (n := n) (c := c) (i := 0) hn
  rw [add_flat, Nat.zero_mul, Nat.add_zero] at this
  exact this
theorem fld384g (g o : Nat) (w : World) : (Instr.fieldAt 38 (.pointer (some ⟨g, o, none⟩)) 4).run Tryd.prog w = .ok (.pointer (some ⟨g, o + 4, none⟩)) w := by kernel_rfl
theorem agg22' (w : World) : (isAgg 22).run Tryd.prog w = .ok false w := by kernel_rfl
theorem build38e (C : Int) (M : Bool) (w : World) : (Instr.build 38 #[(0, .int .u32 C), (2, .bool M)]).run Tryd.prog w = .ok (.agg #[.int .u32 C, .int .u32 0, .bool M, .bool false, .slice none 0 0]) w := by kernel_rfl
theorem build38d (C : Int) (A : Option Addr) (n c : Nat) (w : World) : (Instr.build 38 #[(0, .int .u32 C), (4, .slice A n c)]).run Tryd.prog w = .ok (.agg #[.int .u32 C, .int .u32 0, .bool false, .bool false, .slice A n c]) w := by kernel_rfl
theorem run_eq3 {a b : Int} {t : Bool} (h : (a == b) = t) (w : World) : (binOp .eql 3 (.int .i64 a) (.int .i64 b)).run Tryd.prog w = .ok (.bool t) w := by
  subst h; simp [go_sem]
theorem run_nes (s : ByteArray) (w : World) : (binOp .neq 9 (.string s) (.string s)).run Tryd.prog w = .ok (.bool false) w := by
  simp [go_sem]
set_option maxRecDepth 100000 in
set_option maxHeartbeats 4000000 in
theorem law_once (a b : Int) (must : Bool) (A : Option Addr) (n c : Nat) (xs : List Int) (w : World) (ha : 0 ≤ a ∧ a < 256) (hb : 0 ≤ b ∧ b < 256) (h : InB w A n c xs) (hT : Tab w) (hn : n ≤ 140737488351232) :
    Calls Tryd.prog 6 #[.int .u8 a, .int .u8 b, .bool must, .slice A n c] w (RetB true w) := by
  have H := Lib.hid h
  have HT := Lib.hid hT
  have hcap := h.cap
  have hmo : Tryd.prog.follows .mixedOrders = true := by kernel_rfl
  obtain ⟨p, rfl⟩ := Int.eq_ofNat_of_zero_le ha.1
  obtain ⟨q, rfl⟩ := Int.eq_ofNat_of_zero_le hb.1
  have hr1 := fun w => run_rem5 p 20 (by omega) (by omega) w
  have hr2 := fun w => run_rem5 q 20 (by omega) (by omega) w
  clear h hT ha hb
  go_enter Tryd.func6, Tryd.ntmps6
  go_upto_region 2 with (fail)
  clear hr1 hr2
  obtain ⟨k, hk⟩ : ∃ k : Nat, (p : Int) % 20 = (k : Int) := ⟨p % 20, by omega⟩
  obtain ⟨m0, hm0⟩ : ∃ m0 : Nat, (q : Int) % 20 = (m0 : Int) := ⟨q % 20, by omega⟩
  have hk20 : k < 20 := by omega
  rw [hk, hm0]
  clear hk hm0
  go_upto_if 26 with fail
  go_cut [10] from 24 to 27 (fun v wx => v = .int .i64 (((if k < m0 then k else m0 : Nat)) : Int) ∧ wx = w)
  case first =>
    by_cases hkm : k < m0
    · have d1 : decide ((k : Int) < (m0 : Int)) = true := decide_eq_true (by omega)
      go_wp2
      go_meet
      exact ⟨by rw [if_pos hkm], rfl⟩
    · have d1 : decide ((k : Int) < (m0 : Int)) = false := decide_eq_false (by omega)
      go_wp2
      go_meet
      exact ⟨by rw [if_neg hkm], rfl⟩
  case rest =>
    obtain ⟨rfl, hw⟩ := hcut
    obtain rfl := hw.symm
    obtain ⟨m, hm⟩ : ∃ m : Nat, (if k < m0 then k else m0) = m := ⟨_, rfl⟩
    rw [hm]
    have hmk : m ≤ k := by rw [← hm]; split <;> omega
    clear hm
    go_wp2_with fail
    refine (answers_any w HT.out).mono ?_
    rintro e1 w1 ⟨rfl, hu⟩
    have HU1 := Lib.hid hu
    clear hu
    by_cases hk0 : k = 0
    · subst hk0
      go_wp2_with fail
      refine (answers_any w1 (HT.out.up HU1.out)).mono ?_
      rintro e1 w2 ⟨rfl, hu⟩
      have HU2 := Lib.hid (HU1.out.trans hu)
      clear hu
      go_wp2_with fail
      go_ret
      exact ⟨rfl, HU2⟩
    · have d1 : ((k : Int) == 0) = false := by rw [beq_eq_false_iff_ne]; omega
      by_cases h100 : n ≤ 100
      · have d2 : decide (100 < (n : Int)) = false := decide_eq_false (by omega)
        have hbu : (Instr.build 40 #[(0, .int .u32 7), (2, .int .i64 1), (3, .bool must), (4, .int .i64 (m : Int)), (5, .int .i64 (k : Int))]).run Tryd.prog w1 = .ok (.agg #[.int .u32 7, .int .u32 0, .int .i64 1, .bool must, .int .i64 (m : Int), .int .i64 (k : Int)]) w1 := by kernel_rfl
        have hbs := bslice40 7 0 1 must (m : Int) (k : Int) w1
        have HR2 := Lib.hid (inR_one w1 (rO must m k) ⟨by show (0 : Int) ≤ 7 ∧ (7 : Int) < 4294967296; omega, by show (0 : Int) ≤ 0 ∧ (0 : Int) < 4294967296; omega⟩)
        have HU2 := Lib.hid (HU1.out.trans (up_alloc w1 (ruC (rO must m k))))
        go_upto_region 7 with (fail)
        change Code.wp _ _ _ _ (w1.alloc (ruC (rO must m k)))
        clear hbu hbs
        generalize w1.alloc (ruC (rO must m k)) = w2 at HR2 HU2 ⊢
        generalize w1.heap.size = qr at HR2 ⊢
        clear HU1
        go_wp2_with fail
        go_loopw [12, 13] (fun v i wr => ∃ (j : Nat) (A1 : Option Addr) (c1 : Nat) (out : List AvB), j ≤ k + 2 ∧ i = .int .i64 (j : Int) ∧ v = .slice A1 j c1 ∧ Hid (GL w2.heap.size wr A1 j c1 out) ∧ Hid (out.map AvB.pure = List.replicate j (aO xs)) ∧ Hid (Up w2 wr)) (fun _ i _ => k + 2 - (intOf i).toNat)
        case atStart => exact ⟨0, none, 0, [], Nat.zero_le _, rfl, rfl, Lib.hid (gl_nil _ _), Lib.hid rfl, Lib.hid (Up.refl _)⟩
        case round =>
          obtain ⟨j, A1, c1, out, hj, rfl, rfl, hG, hE, hV⟩ := hrel
          by_cases hjk : j ≤ k + 1
          · have d3 : decide ((j : Int) ≤ (k : Int) + 1) = true := decide_eq_true (by omega)
            have HW := Lib.hid (HU2.out.trans hV.out)
            go_wp2_with fail
            refine (own_any A1 j c1 out wr hG.out.inL (by omega)).mono ?_
            rintro e1 w3 ⟨A3, n3, c3, out3, rfl, hG3, hM3, hl3, hU3⟩
            rw [hE.out, List.take_of_length_le (by simp; omega)] at hM3
            have HU3 := Lib.hid (HW.out.trans hU3.out)
            have HV3 := Lib.hid (Up.trans hV.out hU3.out)
            have HG3 := Lib.hid (hG.out.up hU3.out)
            clear hU3 hG HW
            go_wp2_with fail
            have hj2 := judge_any (some ⟨qr, 0, none⟩) 1 1 [rO must m k] A3 n3 c3 out3 w3 (HR2.out.up HV3.out) hG3.out.inL (HT.out.up HU3.out) (by omega) (by have := hl3.out; omega)
            rw [hM3.out] at hj2
            refine Calls.mono hj2 ?_
            rintro e1 w4 ⟨A4, n4, c4, out4, rfl, hG4, hM4, hl4, hU4⟩
            have HU4 := Lib.hid (HU3.out.trans hU4.out)
            have HV4 := Lib.hid (Up.trans HV3.out hU4.out)
            have HG5 := Lib.hid (HG3.out.up hU4.out)
            clear hj2 hG3 hM3 hl3 HU3 HV3 HG3 hU4 hV
            by_cases hjm : j < m
            · have d4 : decide ((j : Int) < (m : Int)) = true := decide_eq_true (by omega)
              have d5 : decide ((k : Int) < (j : Int)) = false := decide_eq_false (by omega)
              rw [once_miss must xs hmk (by omega) (by omega) hjm] at hM4 ⊢
              obtain rfl : n4 = 1 := map_len hM4.out hG4.out.len
              go_upto_region 19 with (fail)
              obtain ⟨y, rfl⟩ : ∃ y, out4 = [y] := by
                have := hG4.out.len
                match out4, this with
                | [y], _ => exact ⟨y, rfl⟩
              have HY := Lib.hid (show y.pure = miss (rO must m k) by have := hM4.out; simpa using this)
              obtain ⟨y', g4, o4, hy', rfl, k0, k1, k2, k3, k4, hyi⟩ := hG4.out.inL.at_ (k := 0) (by omega)
              obtain rfl : y = y' := by simpa using hy'
              clear hy' hM4
              rw [Nat.zero_mul, Nat.add_zero] at k0 k1 k2 k3 k4
              have HYI := Lib.hid hyi
              have HSM := Lib.hid (fun wx (hU : Up w4 wx) => same_any y ⟨7, 0, must, false, none, 0, 0, []⟩ wx (HYI.out.inb.up hU) (inB_nil wx))
              have HDT := Lib.hid (show decide (y.pure = AvB.pure ⟨7, 0, must, false, none, 0, 0, []⟩) = true by rw [HY.out]; exact decide_eq_true rfl)
              have HK0 := Lib.hid k0
              have HK1 := Lib.hid k1
              have HK2 := Lib.hid k2
              have HK3 := Lib.hid k3
              have HK4 := Lib.hid k4
              clear k0 k1 k2 k3 k4 hyi
              have HK : ∀ φ ∈ [Is (.int .i64 5005), Is (.bool true), Is (.bool true), Is (.slice (some ⟨g4, o4, none⟩) 1 c4), Is (.pointer (some ⟨g4, o4, none⟩)), Is (avV y), Is (.bool must), Is (.agg #[.int .u32 7, .int .u32 0, .bool must, .bool false, .slice none 0 0]), Is (.bool true), Is (.bool false), Is (.bool false), Is (.bool false), Is (.int .i64 5005), Is (.bool false), Is (.bool false), (fun _ _ => True), (fun _ _ => True), (fun _ _ => True), (fun _ _ => True), (fun _ _ => True), (fun _ _ => True), (fun _ _ => True), (fun _ _ => True), Is (.bool false), Is (.bool false)], Keeps φ := by
                simp [keeps_is, keeps_true]
              refine staged_lit (by kernel_rfl) (facts [Is (.int .i64 5005), Is (.bool true), Is (.bool true), Is (.slice (some ⟨g4, o4, none⟩) 1 c4), Is (.pointer (some ⟨g4, o4, none⟩)), Is (avV y), Is (.bool must), Is (.agg #[.int .u32 7, .int .u32 0, .bool must, .bool false, .slice none 0 0]), Is (.bool true), Is (.bool false), Is (.bool false), Is (.bool false), Is (.int .i64 5005), Is (.bool false), Is (.bool false), (fun _ _ => True), (fun _ _ => True), (fun _ _ => True), (fun _ _ => True), (fun _ _ => True), (fun _ _ => True), (fun _ _ => True), (fun _ _ => True), Is (.bool false), Is (.bool false)]) (Stg [] (fun _ x => Up w4 x)) 112 rfl (by decide +kernel) (by decide +kernel) (Stg.start (Up.drew w4)) ?_ ?_
              · refine ⟨?_, ?_, ?_, ?_, ?_, ?_, ?_, ?_, ?_, ?_, ?_, ?_, ?_, ?_, ?_, ?_, ?_, ?_, ?_, ?_, ?_, ?_, ?_, ?_, ?_, trivial⟩
                · refine opS_same rfl rfl fun Lx ac w1 hJ hl hc ho hd => ?_
                  have s17 : ac.eval (.tmp 17) = .int .i64 5005 := ho 17 rfl
                  exact ⟨_, x_move (.tmp 17) rfl s17, rfl⟩
                · refine opS_same rfl rfl fun Lx ac w1 hJ hl hc ho hd => ?_
                  have d0 : ac.eval (.tmp 80) = .int .i64 5005 := hd 0 _ _ rfl rfl rfl
                  exact ⟨_, x_bin .eql 3 3 (.tmp 80) (.const (.int .i64 5005)) rfl d0 rfl (by kernel_rfl) (run_eq3 (by decide) _), rfl⟩
                · refine opS_same rfl rfl fun Lx ac w1 hJ hl hc ho hd => ?_
                  have d1 : ac.eval (.tmp 81) = .bool true := hd 1 _ _ rfl rfl rfl
                  exact ⟨_, x_move (.tmp 81) rfl d1, rfl⟩
                · refine opS_sameG 2 true _ _ rfl rfl rfl rfl (fun _ _ h => h) rfl fun Lx ac w1 hJ hl hc ho hd => ?_
                  have s15 : ac.eval (.tmp 15) = .slice (some ⟨g4, o4, none⟩) 1 c4 := ho 15 rfl
                  exact ⟨_, x_move (.tmp 15) rfl s15, rfl⟩
                · refine opS_sameG 2 true _ _ rfl rfl rfl rfl (fun _ _ h => h) rfl fun Lx ac w1 hJ hl hc ho hd => ?_
                  have d3 : ac.eval (.tmp 83) = .slice (some ⟨g4, o4, none⟩) 1 c4 := hd 3 _ _ rfl rfl rfl
                  exact ⟨_, x_index 29 (.tmp 83) (.const (.int .i64 0)) rfl d3 rfl (idx29z _ _ _ _ (by omega) _), rfl⟩
                · refine opS_sameG 2 true _ _ rfl rfl rfl rfl (fun _ _ h => h) rfl fun Lx ac w1 hJ hl hc ho hd => ?_
                  have d4 : ac.eval (.tmp 84) = .pointer (some ⟨g4, o4, none⟩) := hd 4 _ _ rfl rfl rfl
                  obtain ⟨_, _, hU⟩ := hJ
                  exact ⟨_, x_load 38 (.tmp 84) rfl d4 (load38_at (cell_up HK0.out hU) (cell_up HK1.out hU) (cell_up HK2.out hU) (cell_up HK3.out hU) (cell_up HK4.out hU)), rfl⟩
                · refine opS_sameG 2 true _ _ rfl rfl rfl rfl (fun _ _ h => h) rfl fun Lx ac w1 hJ hl hc ho hd => ?_
                  have s2 : ac.eval (.tmp 2) = .bool must := ho 2 rfl
                  exact ⟨_, x_move (.tmp 2) rfl s2, rfl⟩
                · refine opS_sameG 2 true _ _ rfl rfl rfl rfl (fun _ _ h => h) rfl fun Lx ac w1 hJ hl hc ho hd => ?_
                  have d6 : ac.eval (.tmp 86) = .bool must := hd 6 _ _ rfl rfl rfl
                  exact ⟨_, x_build 38 _ rfl (by simp only [List.map_toArray, List.map_cons, List.map_nil, d6]; exact build38e _ _ _), rfl⟩
                · refine opS_callUpG 2 true _ _ rfl rfl rfl rfl (fun _ _ h => h) rfl (fun k wx wy h hu => Up.trans h hu) (facts_keep HK) fun L ac wx hJ hl hc ho hd => ?_
                  have d5 : ac.eval (.tmp 85) = avV y := hd 5 _ _ rfl rfl rfl
                  have d7 : ac.eval (.tmp 87) = .agg #[.int .u32 7, .int .u32 0, .bool must, .bool false, .slice none 0 0] := hd 7 _ _ rfl rfl rfl
                  obtain ⟨_, _, hU⟩ := hJ
                  refine ⟨22, _, x_fcall 22 [.tmp 85, .tmp 87] _ rfl (by kernel_rfl), ?_⟩
                  simp only [List.map_cons, List.map_nil, d5, d7]
                  exact (HSM.out wx hU).mono fun e w2 ⟨he, hu⟩ => ⟨_, he, hu.out, by rw [HDT.out]; rfl⟩
                · refine opS_sameG 2 true _ _ rfl rfl rfl rfl (fun _ _ h => h) rfl fun Lx ac w1 hJ hl hc ho hd => ?_
                  have d8 : ac.eval (.tmp 88) = .bool true := hd 8 _ _ rfl rfl rfl
                  exact ⟨_, x_not 4 (.tmp 88) rfl d8, rfl⟩
                · refine opS_same rfl rfl fun Lx ac w1 hJ hl hc ho hd => ?_
                  have d2 : ac.eval (.tmp 82) = .bool true := hd 2 _ _ rfl rfl rfl
                  have d9 : ac.eval (.tmp 89) = .bool false := hd 9 _ _ rfl rfl rfl
                  exact ⟨_, x_pick (.tmp 82) (.tmp 89) (.const (.bool false)) (b := true) (Y := .bool false) rfl d2 (fun _ => d9) (fun h => absurd h (by decide)), rfl⟩
                · refine opS_same rfl rfl fun Lx ac w1 hJ hl hc ho hd => ?_
                  have d10 : ac.eval (.tmp 90) = .bool false := hd 10 _ _ rfl rfl rfl
                  exact ⟨_, x_move (.tmp 90) rfl d10, rfl⟩
                · refine opS_sameG 11 false _ _ rfl rfl rfl rfl (fun _ _ h => h) rfl fun Lx ac w1 hJ hl hc ho hd => ?_
                  have s17 : ac.eval (.tmp 17) = .int .i64 5005 := ho 17 rfl
                  exact ⟨_, x_move (.tmp 17) rfl s17, rfl⟩
                · refine opS_sameG 11 false _ _ rfl rfl rfl rfl (fun _ _ h => h) rfl fun Lx ac w1 hJ hl hc ho hd => ?_
                  have d12 : ac.eval (.tmp 92) = .int .i64 5005 := hd 12 _ _ rfl rfl rfl
                  exact ⟨_, x_bin .eql 3 3 (.tmp 92) (.const (.int .i64 5009)) rfl d12 rfl (by kernel_rfl) (run_eq3 (by decide) _), rfl⟩
                · refine opS_sameG 11 false _ _ rfl rfl rfl rfl (fun _ _ h => h) rfl fun Lx ac w1 hJ hl hc ho hd => ?_
                  have d13 : ac.eval (.tmp 93) = .bool false := hd 13 _ _ rfl rfl rfl
                  exact ⟨_, x_move (.tmp 93) rfl d13, rfl⟩
                · exact opS_skip 14 true false (by decide) _ _ rfl rfl rfl rfl (fun _ _ h => h) rfl (fun _ => trivial)
                · exact opS_skip 14 true false (by decide) _ _ rfl rfl rfl rfl (fun _ _ h => h) rfl (fun _ => trivial)
                · exact opS_skip 14 true false (by decide) _ _ rfl rfl rfl rfl (fun _ _ h => h) rfl (fun _ => trivial)
                · exact opS_skip 14 true false (by decide) _ _ rfl rfl rfl rfl (fun _ _ h => h) rfl (fun _ => trivial)
                · exact opS_skip 14 true false (by decide) _ _ rfl rfl rfl rfl (fun _ _ h => h) rfl (fun _ => trivial)
                · exact opS_skip 14 true false (by decide) _ _ rfl rfl rfl rfl (fun _ _ h => h) rfl (fun _ => trivial)
                · exact opS_skip 14 true false (by decide) _ _ rfl rfl rfl rfl (fun _ _ h => h) rfl (fun _ => trivial)
                · exact opS_skip 14 true false (by decide) _ _ rfl rfl rfl rfl (fun _ _ h => h) rfl (fun _ => trivial)
                · refine opS_sameG 11 false _ _ rfl rfl rfl rfl (fun _ _ h => h) rfl fun Lx ac w1 hJ hl hc ho hd => ?_
                  have d14 : ac.eval (.tmp 94) = .bool false := hd 14 _ _ rfl rfl rfl
                  have d22 := hd 22 _ _ rfl rfl rfl
                  exact ⟨_, x_pick (.tmp 94) (.tmp 102) (.const (.bool false)) (b := false) (X := undef) rfl d14 (fun h => absurd h (by decide)) (fun _ => rfl), rfl⟩
                · refine opS_same rfl rfl fun Lx ac w1 hJ hl hc ho hd => ?_
                  have d11 : ac.eval (.tmp 91) = .bool false := hd 11 _ _ rfl rfl rfl
                  have d23 : ac.eval (.tmp 103) = .bool false := hd 23 _ _ rfl rfl rfl
                  exact ⟨_, x_pick (.tmp 91) (.const (.bool true)) (.tmp 103) (b := false) (X := .bool true) rfl d11 (fun h => absurd h (by decide)) (fun _ => d23), rfl⟩
              · intro L1 a1 w5 hI hall
                obtain ⟨kq, hk, hUF⟩ := hI.done hall (by simp)
                have HUn := Lib.hid (show Up w4 w5 from hUF)
                clear hk hUF kq
                have l0 : a1.tmps.getD 0 undef = .int .u8 (p : Int) := hI.old 0 rfl
                have l1 : a1.tmps.getD 1 undef = .int .u8 (q : Int) := hI.old 1 rfl
                have l2 : a1.tmps.getD 2 undef = .bool must := hI.old 2 rfl
                have l3 : a1.tmps.getD 3 undef = .slice A n c := hI.old 3 rfl
                have l4 : a1.tmps.getD 4 undef = undef := hI.old 4 rfl
                have l5 : a1.tmps.getD 5 undef = undef := hI.old 5 rfl
                have l6 : a1.tmps.getD 6 undef = undef := hI.old 6 rfl
                have l7 : a1.tmps.getD 7 undef = undef := hI.old 7 rfl
                have l8 : a1.tmps.getD 8 undef = u8 := hI.old 8 rfl
                have l9 : a1.tmps.getD 9 undef = .int .i64 (k : Int) := hI.old 9 rfl
                have l10 : a1.tmps.getD 10 undef = .int .i64 (m : Int) := hI.old 10 rfl
                have l11 : a1.tmps.getD 11 undef = .slice (some ⟨qr, 0, none⟩) 1 1 := hI.old 11 rfl
                have l12 : a1.tmps.getD 12 undef = .slice A1 j c1 := hI.old 12 rfl
                have l13 : a1.tmps.getD 13 undef = .int .i64 (j : Int) := hI.old 13 rfl
                have l18 : a1.tmps.getD 18 undef = .int .u8 (p : Int) := hI.old 18 rfl
                have l19 : a1.tmps.getD 19 undef = .int .u8 (k : Int) := hI.old 19 rfl
                have l20 : a1.tmps.getD 20 undef = .int .i64 (k : Int) := hI.old 20 rfl
                have l21 : a1.tmps.getD 21 undef = .int .u8 (q : Int) := hI.old 21 rfl
                have l22 : a1.tmps.getD 22 undef = .int .u8 (m0 : Int) := hI.old 22 rfl
                have l23 : a1.tmps.getD 23 undef = .int .i64 (m0 : Int) := hI.old 23 rfl
                have l24 : a1.tmps.getD 24 undef = u24 := hI.old 24 rfl
                have l25 : a1.tmps.getD 25 undef = u25 := hI.old 25 rfl
                have l26 : a1.tmps.getD 26 undef = u26 := hI.old 26 rfl
                have l27 : a1.tmps.getD 27 undef = u27 := hI.old 27 rfl
                have l28 : a1.tmps.getD 28 undef = .bool true := hI.old 28 rfl
                have l29 : a1.tmps.getD 29 undef = .bool false := hI.old 29 rfl
                have l30 : a1.tmps.getD 30 undef = .bool false := hI.old 30 rfl
                have l31 : a1.tmps.getD 31 undef = .int .i64 (k : Int) := hI.old 31 rfl
                have l32 : a1.tmps.getD 32 undef = .bool false := hI.old 32 rfl
                have l33 : a1.tmps.getD 33 undef = .bool false := hI.old 33 rfl
                have l34 : a1.tmps.getD 34 undef = .bool false := hI.old 34 rfl
                have l35 : a1.tmps.getD 35 undef = .slice A n c := hI.old 35 rfl
                have l36 : a1.tmps.getD 36 undef = .int .i64 (n : Int) := hI.old 36 rfl
                have l37 : a1.tmps.getD 37 undef = .bool false := hI.old 37 rfl
                have l38 : a1.tmps.getD 38 undef = .bool false := hI.old 38 rfl
                have l39 : a1.tmps.getD 39 undef = undef := hI.old 39 rfl
                have l40 : a1.tmps.getD 40 undef = .bool must := hI.old 40 rfl
                have l41 : a1.tmps.getD 41 undef = .int .i64 (m : Int) := hI.old 41 rfl
                have l42 : a1.tmps.getD 42 undef = .int .i64 (k : Int) := hI.old 42 rfl
                have l43 : a1.tmps.getD 43 undef = .agg #[.int .u32 7, .int .u32 0, .int .i64 1, .bool must, .int .i64 (m : Int), .int .i64 (k : Int)] := hI.old 43 rfl
                have l44 : a1.tmps.getD 44 undef = .slice (some ⟨qr, 0, none⟩) 1 1 := hI.old 44 rfl
                have l104 : a1.tmps.getD 104 undef = .bool false := hI.get hall (i := 24) rfl rfl
                have hde : a1.defers = [] := hI.defers
                have hal := act_lit a1 112 hI.size
                clear hI
                simp only [List.range, List.range.loop, List.map_cons, List.map_nil] at hal
                rw [l0, l1, l2, l3, l4, l5, l6, l7, l8, l9, l10, l11, l12, l13, l18, l19, l20, l21, l22, l23, l24, l25, l26, l27, l28, l29, l30, l31, l32, l33, l34, l35, l36, l37, l38, l39, l40, l41, l42, l43, l44, l104, hde] at hal
                generalize a1.tmps.getD 14 undef = t14 at hal
                generalize a1.tmps.getD 15 undef = t15 at hal
                generalize a1.tmps.getD 16 undef = t16 at hal
                generalize a1.tmps.getD 17 undef = t17 at hal
                generalize a1.tmps.getD 45 undef = t45 at hal
                generalize a1.tmps.getD 46 undef = t46 at hal
                generalize a1.tmps.getD 47 undef = t47 at hal
                generalize a1.tmps.getD 48 undef = t48 at hal
                generalize a1.tmps.getD 49 undef = t49 at hal
                generalize a1.tmps.getD 50 undef = t50 at hal
                generalize a1.tmps.getD 51 undef = t51 at hal
                generalize a1.tmps.getD 52 undef = t52 at hal
                generalize a1.tmps.getD 53 undef = t53 at hal
                generalize a1.tmps.getD 54 undef = t54 at hal
                generalize a1.tmps.getD 55 undef = t55 at hal
                generalize a1.tmps.getD 56 undef = t56 at hal
                generalize a1.tmps.getD 57 undef = t57 at hal
                generalize a1.tmps.getD 58 undef = t58 at hal
                generalize a1.tmps.getD 59 undef = t59 at hal
                generalize a1.tmps.getD 60 undef = t60 at hal
                generalize a1.tmps.getD 61 undef = t61 at hal
                generalize a1.tmps.getD 62 undef = t62 at hal
                generalize a1.tmps.getD 63 undef = t63 at hal
                generalize a1.tmps.getD 64 undef = t64 at hal
                generalize a1.tmps.getD 65 undef = t65 at hal
                generalize a1.tmps.getD 66 undef = t66 at hal
                generalize a1.tmps.getD 67 undef = t67 at hal
                generalize a1.tmps.getD 68 undef = t68 at hal
                generalize a1.tmps.getD 69 undef = t69 at hal
                generalize a1.tmps.getD 70 undef = t70 at hal
                generalize a1.tmps.getD 71 undef = t71 at hal
                generalize a1.tmps.getD 72 undef = t72 at hal
                generalize a1.tmps.getD 73 undef = t73 at hal
                generalize a1.tmps.getD 74 undef = t74 at hal
                generalize a1.tmps.getD 75 undef = t75 at hal
                generalize a1.tmps.getD 76 undef = t76 at hal
                generalize a1.tmps.getD 77 undef = t77 at hal
                generalize a1.tmps.getD 78 undef = t78 at hal
                generalize a1.tmps.getD 79 undef = t79 at hal
                generalize a1.tmps.getD 80 undef = t80 at hal
                generalize a1.tmps.getD 81 undef = t81 at hal
                generalize a1.tmps.getD 82 undef = t82 at hal
                generalize a1.tmps.getD 83 undef = t83 at hal
                generalize a1.tmps.getD 84 undef = t84 at hal
                generalize a1.tmps.getD 85 undef = t85 at hal
                generalize a1.tmps.getD 86 undef = t86 at hal
                generalize a1.tmps.getD 87 undef = t87 at hal
                generalize a1.tmps.getD 88 undef = t88 at hal
                generalize a1.tmps.getD 89 undef = t89 at hal
                generalize a1.tmps.getD 90 undef = t90 at hal
                generalize a1.tmps.getD 91 undef = t91 at hal
                generalize a1.tmps.getD 92 undef = t92 at hal
                generalize a1.tmps.getD 93 undef = t93 at hal
                generalize a1.tmps.getD 94 undef = t94 at hal
                generalize a1.tmps.getD 95 undef = t95 at hal
                generalize a1.tmps.getD 96 undef = t96 at hal
                generalize a1.tmps.getD 97 undef = t97 at hal
                generalize a1.tmps.getD 98 undef = t98 at hal
                generalize a1.tmps.getD 99 undef = t99 at hal
                generalize a1.tmps.getD 100 undef = t100 at hal
                generalize a1.tmps.getD 101 undef = t101 at hal
                generalize a1.tmps.getD 102 undef = t102 at hal
                generalize a1.tmps.getD 103 undef = t103 at hal
                generalize a1.tmps.getD 105 undef = t105 at hal
                generalize a1.tmps.getD 106 undef = t106 at hal
                generalize a1.tmps.getD 107 undef = t107 at hal
                generalize a1.tmps.getD 108 undef = t108 at hal
                generalize a1.tmps.getD 109 undef = t109 at hal
                generalize a1.tmps.getD 110 undef = t110 at hal
                generalize a1.tmps.getD 111 undef = t111 at hal
                clear l0 l1 l2 l3 l4 l5 l6 l7 l8 l9 l10 l11 l12 l13 l18 l19 l20 l21 l22 l23 l24 l25 l26 l27 l28 l29 l30 l31 l32 l33 l34 l35 l36 l37 l38 l39 l40 l41 l42 l43 l44 l104 hde
                subst hal
                have HU5 := Lib.hid (HU4.out.trans HUn.out)
                have HV5 := Lib.hid (Up.trans HV4.out HUn.out)
                have HG6 := Lib.hid (HG5.out.up HUn.out)
                clear HU4 HV4 HG5 HUn HK HSM HDT HK0 HK1 HK2 HK3 HK4 HYI HY
                have HAd := Lib.hid (H.out.up HU5.out)
                have HSz := Lib.hid HV5.out.size
                go_wp2_with (first | (at_builtin; refine wpList_appendI rfl (.tmp 106) (.tmp 107) 22 rfl .u8 w5.heap.size 5 1 Tryd.underlying22 info5 (some ⟨w5.heap.size, 0, none⟩) 0 0 [] rfl (ownI_new _ _ _) A n c xs rfl HAd.out.len (HAd.out.cells.alloc _) (by omega) (by omega) (by simp) ((Below.refl _ _).alloc (Nat.le_refl _) _) ?_; intro A6 N6 c6 w6 HN6 HW6 HB6 hsz6; have hbu := build38d 7 A6 N6 c6 w6; have hbs := bslice1 7 0 false false A6 N6 c6 w6; have HGb := Lib.hid ((HG6.out.up (show Up w5 w6 from HB6.out)).up (up_alloc w6 (.cells #[.int .u32 7, .int .u32 0, .bool false, .bool false, .slice A6 N6 c6] 38))); have HSb := Lib.hid (show w2.heap.size ≤ (w6.alloc (.cells #[.int .u32 7, .int .u32 0, .bool false, .bool false, .slice A6 N6 c6] 38)).heap.size from Nat.le_trans HSz.out (Nat.le_trans (show w5.heap.size ≤ w6.heap.size from HB6.out.size) (up_alloc w6 _).size))) | (at_builtin; refine wpList_appendG rfl (.tmp 105) (.tmp 110) 29 rfl w2.heap.size 38 (.agg #[.int .u32 0, .int .u32 0, .bool false, .bool false, .slice none 0 0]) 5 40 Tryd.underlying29 info38 rfl (by decide) A1 (j) c1 (rowa out) rfl HGb.out.row (some ⟨w6.heap.size, 0, none⟩) 1 1 (rowa [⟨7, 0, false, false, A6, N6, c6, xs⟩]) rfl (by simp [rowa, avc, avcL]) (avCells w6 ⟨7, 0, false, false, A6, N6, c6, xs⟩) (rowa_one _) (by omega) (by omega) HSb.out ?_; intro A7 N7 c7 w7 HN7 HW7 HO7 HB7))
                have HV6 := Lib.hid (show Up w2 w6 from Up.trans HV5.out HB6.out)
                have HVb := Lib.hid (Up.trans HV6.out (up_alloc w6 (.cells #[.int .u32 7, .int .u32 0, .bool false, .bool false, .slice A6 N6 c6] 38)))
                have HOx := Lib.hid (show OwnI .u8 5 w2.heap.size w6 A6 N6 c6 xs from OwnI.base' (by have h1 := HW6.out; rw [List.nil_append] at h1; exact h1) HSz.out)
                have HN6' := HN6.out
                have HX6 := Lib.hid (show OwnA w2.heap.size (w6.alloc (.cells #[.int .u32 7, .int .u32 0, .bool false, .bool false, .slice A6 N6 c6] 38)) ⟨7, 0, false, false, A6, N6, c6, xs⟩ from ⟨own_up HOx.out (up_alloc _ _), ⟨by show (0 : Int) ≤ 7 ∧ (7 : Int) < 4294967296; omega, by show (0 : Int) ≤ 0 ∧ (0 : Int) < 4294967296; omega, H.out.byt⟩, by show N6 ≤ _; omega⟩)
                have HXA := Lib.hid (show ∀ t, blk? A6 = some t → blk? A1 ≠ some t from fun t ht e => by have h1 := (row_lt (show OwnI .u8 5 w5.heap.size w6 A6 N6 c6 xs from by have h1 := HW6.out; rw [List.nil_append] at h1; exact h1) ht).1; have h2 := (HG6.out.lt e).2; omega)
                have HL7 := Lib.hid (GL.push HGb.out HX6.out HXA.out HN7.out HW7.out HO7.out HB7.out)
                have HV7 := Lib.hid (show Up w2 w7 from Below.out HVb.out HO7.out (fun t ht => (HGb.out.lt ht).1) HVb.out.size)
                have HE7 := Lib.hid (show (out ++ [(⟨7, 0, false, false, A6, N6, c6, xs⟩ : AvB)]).map AvB.pure = List.replicate (j + 1) (aO xs) by rw [List.map_append, hE.out]; exact List.replicate_succ'.symm)
                have hN7 : N7 = j + 1 := HN7.out
                subst hN7
                clear hbu hbs
                go_roundw
                case rel => exact ⟨j + 1, A7, c7, out ++ [⟨7, 0, false, false, A6, N6, c6, xs⟩], by omega, by go_num, rfl, HL7, HE7, HV7⟩
                case measure => simp [intOf]; omega
            · have d4 : decide ((j : Int) < (m : Int)) = false := decide_eq_false (by omega)
              by_cases hjk2 : j ≤ k
              · have d5 : decide ((k : Int) < (j : Int)) = false := decide_eq_false (by omega)
                rw [once_fine must xs hmk (by omega) (by omega) (by omega) hjk2] at hM4 ⊢
                obtain rfl : n4 = 0 := map_len hM4.out hG4.out.len
                go_upto_region 19 with (fail)
                go_big_quiet_o (fail)
                have HX := Lib.hid (up_drewN w4 nq)
                generalize w4.drewN nq = w5 at HX ⊢
                have HU5 := Lib.hid (HU4.out.trans HX.out)
                have HV5 := Lib.hid (Up.trans HV4.out HX.out)
                have HG6 := Lib.hid (HG5.out.up HX.out)
                clear HU4 HV4 HG5 HX
                have HAd := Lib.hid (H.out.up HU5.out)
                have HSz := Lib.hid HV5.out.size
                go_wp2_with (first | (at_builtin; refine wpList_appendI rfl (.tmp 106) (.tmp 107) 22 rfl .u8 w5.heap.size 5 1 Tryd.underlying22 info5 (some ⟨w5.heap.size, 0, none⟩) 0 0 [] rfl (ownI_new _ _ _) A n c xs rfl HAd.out.len (HAd.out.cells.alloc _) (by omega) (by omega) (by simp) ((Below.refl _ _).alloc (Nat.le_refl _) _) ?_; intro A6 N6 c6 w6 HN6 HW6 HB6 hsz6; have hbu := build38d 7 A6 N6 c6 w6; have hbs := bslice1 7 0 false false A6 N6 c6 w6; have HGb := Lib.hid ((HG6.out.up (show Up w5 w6 from HB6.out)).up (up_alloc w6 (.cells #[.int .u32 7, .int .u32 0, .bool false, .bool false, .slice A6 N6 c6] 38))); have HSb := Lib.hid (show w2.heap.size ≤ (w6.alloc (.cells #[.int .u32 7, .int .u32 0, .bool false, .bool false, .slice A6 N6 c6] 38)).heap.size from Nat.le_trans HSz.out (Nat.le_trans (show w5.heap.size ≤ w6.heap.size from HB6.out.size) (up_alloc w6 _).size))) | (at_builtin; refine wpList_appendG rfl (.tmp 105) (.tmp 110) 29 rfl w2.heap.size 38 (.agg #[.int .u32 0, .int .u32 0, .bool false, .bool false, .slice none 0 0]) 5 40 Tryd.underlying29 info38 rfl (by decide) A1 (j) c1 (rowa out) rfl HGb.out.row (some ⟨w6.heap.size, 0, none⟩) 1 1 (rowa [⟨7, 0, false, false, A6, N6, c6, xs⟩]) rfl (by simp [rowa, avc, avcL]) (avCells w6 ⟨7, 0, false, false, A6, N6, c6, xs⟩) (rowa_one _) (by omega) (by omega) HSb.out ?_; intro A7 N7 c7 w7 HN7 HW7 HO7 HB7))
                have HV6 := Lib.hid (show Up w2 w6 from Up.trans HV5.out HB6.out)
                have HVb := Lib.hid (Up.trans HV6.out (up_alloc w6 (.cells #[.int .u32 7, .int .u32 0, .bool false, .bool false, .slice A6 N6 c6] 38)))
                have HOx := Lib.hid (show OwnI .u8 5 w2.heap.size w6 A6 N6 c6 xs from OwnI.base' (by have h1 := HW6.out; rw [List.nil_append] at h1; exact h1) HSz.out)
                have HN6' := HN6.out
                have HX6 := Lib.hid (show OwnA w2.heap.size (w6.alloc (.cells #[.int .u32 7, .int .u32 0, .bool false, .bool false, .slice A6 N6 c6] 38)) ⟨7, 0, false, false, A6, N6, c6, xs⟩ from ⟨own_up HOx.out (up_alloc _ _), ⟨by show (0 : Int) ≤ 7 ∧ (7 : Int) < 4294967296; omega, by show (0 : Int) ≤ 0 ∧ (0 : Int) < 4294967296; omega, H.out.byt⟩, by show N6 ≤ _; omega⟩)
                have HXA := Lib.hid (show ∀ t, blk? A6 = some t → blk? A1 ≠ some t from fun t ht e => by have h1 := (row_lt (show OwnI .u8 5 w5.heap.size w6 A6 N6 c6 xs from by have h1 := HW6.out; rw [List.nil_append] at h1; exact h1) ht).1; have h2 := (HG6.out.lt e).2; omega)
                have HL7 := Lib.hid (GL.push HGb.out HX6.out HXA.out HN7.out HW7.out HO7.out HB7.out)
                have HV7 := Lib.hid (show Up w2 w7 from Below.out HVb.out HO7.out (fun t ht => (HGb.out.lt ht).1) HVb.out.size)
                have HE7 := Lib.hid (show (out ++ [(⟨7, 0, false, false, A6, N6, c6, xs⟩ : AvB)]).map AvB.pure = List.replicate (j + 1) (aO xs) by rw [List.map_append, hE.out]; exact List.replicate_succ'.symm)
                have hN7 : N7 = j + 1 := HN7.out
                subst hN7
                clear hbu hbs
                go_roundw
                case rel => exact ⟨j + 1, A7, c7, out ++ [⟨7, 0, false, false, A6, N6, c6, xs⟩], by omega, by go_num, rfl, HL7, HE7, HV7⟩
                case measure => simp [intOf]; omega
              · obtain rfl : j = k + 1 := by omega
                have d5 : decide ((k : Int) < ((k + 1 : Nat) : Int)) = true := decide_eq_true (by omega)
                rw [once_many must xs hmk (by omega) (by omega)] at hM4 ⊢
                obtain rfl : n4 = 1 := map_len hM4.out hG4.out.len
                obtain ⟨y, rfl⟩ : ∃ y, out4 = [y] := by
                  have := hG4.out.len
                  match out4, this with
                  | [y], _ => exact ⟨y, rfl⟩
                have HY := Lib.hid (show y.pure = aO xs by have := hM4.out; simpa using this)
                obtain ⟨y', g4, o4, hy', rfl, k0, k1, k2, k3, k4, hyi⟩ := hG4.out.inL.at_ (k := 0) (by omega)
                obtain rfl : y = y' := by simpa using hy'
                clear hy' hM4
                rw [Nat.zero_mul, Nat.add_zero] at k0 k1 k2 k3 k4
                have HYI := Lib.hid hyi
                clear k0 k1 k2 k3
                have HYB := Lib.hid (show y.bs = xs from congrArg Av.Avp.bs HY.out)
                have HCV := Lib.hid (show ∀ wx, Up w4 wx → (convert 22 9 (.slice y.A y.n y.c)).run Tryd.prog wx = .ok (.string (strOfNums xs)) wx from fun wx hU => by have h1 := conv_up HYI.out.inb hU; rw [HYB.out] at h1; exact h1)
                have HK4 := Lib.hid k4
                clear hyi k4
                go_upto_region 19 with (fail)
                have HK : ∀ φ ∈ [Is (.int .i64 5009), Is (.bool false), Is (.bool false), (fun _ _ => True), (fun _ _ => True), (fun _ _ => True), (fun _ _ => True), (fun _ _ => True), (fun _ _ => True), (fun _ _ => True), Is (.bool false), Is (.bool false), Is (.int .i64 5009), Is (.bool true), Is (.bool true), Is (.slice (some ⟨g4, o4, none⟩) 1 c4), Is (.pointer (some ⟨g4, o4, none⟩)), Is (.pointer (some ⟨g4, o4 + 4, none⟩)), Is (.slice y.A y.n y.c), Is (.string (strOfNums xs)), Is (.slice A n c), Is (.string (strOfNums xs)), Is (.bool false), Is (.bool false), Is (.bool false)], Keeps φ := by
                  simp [keeps_is, keeps_true]
                refine staged_lit (by kernel_rfl) (facts [Is (.int .i64 5009), Is (.bool false), Is (.bool false), (fun _ _ => True), (fun _ _ => True), (fun _ _ => True), (fun _ _ => True), (fun _ _ => True), (fun _ _ => True), (fun _ _ => True), Is (.bool false), Is (.bool false), Is (.int .i64 5009), Is (.bool true), Is (.bool true), Is (.slice (some ⟨g4, o4, none⟩) 1 c4), Is (.pointer (some ⟨g4, o4, none⟩)), Is (.pointer (some ⟨g4, o4 + 4, none⟩)), Is (.slice y.A y.n y.c), Is (.string (strOfNums xs)), Is (.slice A n c), Is (.string (strOfNums xs)), Is (.bool false), Is (.bool false), Is (.bool false)]) (Stg [] (fun _ x => Up w4 x)) 112 rfl (by decide +kernel) (by decide +kernel) (Stg.start (Up.drew w4)) ?_ ?_
                · refine ⟨?_, ?_, ?_, ?_, ?_, ?_, ?_, ?_, ?_, ?_, ?_, ?_, ?_, ?_, ?_, ?_, ?_, ?_, ?_, ?_, ?_, ?_, ?_, ?_, ?_, trivial⟩
                  · refine opS_same rfl rfl fun Lx ac w1 hJ hl hc ho hd => ?_
                    have s17 : ac.eval (.tmp 17) = .int .i64 5009 := ho 17 rfl
                    exact ⟨_, x_move (.tmp 17) rfl s17, rfl⟩
                  · refine opS_same rfl rfl fun Lx ac w1 hJ hl hc ho hd => ?_
                    have d0 : ac.eval (.tmp 80) = .int .i64 5009 := hd 0 _ _ rfl rfl rfl
                    exact ⟨_, x_bin .eql 3 3 (.tmp 80) (.const (.int .i64 5005)) rfl d0 rfl (by kernel_rfl) (run_eq3 (by decide) _), rfl⟩
                  · refine opS_same rfl rfl fun Lx ac w1 hJ hl hc ho hd => ?_
                    have d1 : ac.eval (.tmp 81) = .bool false := hd 1 _ _ rfl rfl rfl
                    exact ⟨_, x_move (.tmp 81) rfl d1, rfl⟩
                  · exact opS_skip 2 true false (by decide) _ _ rfl rfl rfl rfl (fun _ _ h => h) rfl (fun _ => trivial)
                  · exact opS_skip 2 true false (by decide) _ _ rfl rfl rfl rfl (fun _ _ h => h) rfl (fun _ => trivial)
                  · exact opS_skip 2 true false (by decide) _ _ rfl rfl rfl rfl (fun _ _ h => h) rfl (fun _ => trivial)
                  · exact opS_skip 2 true false (by decide) _ _ rfl rfl rfl rfl (fun _ _ h => h) rfl (fun _ => trivial)
                  · exact opS_skip 2 true false (by decide) _ _ rfl rfl rfl rfl (fun _ _ h => h) rfl (fun _ => trivial)
                  · exact opS_skip 2 true false (by decide) _ _ rfl rfl rfl rfl (fun _ _ h => h) rfl (fun _ => trivial)
                  · exact opS_skip 2 true false (by decide) _ _ rfl rfl rfl rfl (fun _ _ h => h) rfl (fun _ => trivial)
                  · refine opS_same rfl rfl fun Lx ac w1 hJ hl hc ho hd => ?_
                    have d2 : ac.eval (.tmp 82) = .bool false := hd 2 _ _ rfl rfl rfl
                    have d9 := hd 9 _ _ rfl rfl rfl
                    exact ⟨_, x_pick (.tmp 82) (.tmp 89) (.const (.bool false)) (b := false) (X := undef) rfl d2 (fun h => absurd h (by decide)) (fun _ => rfl), rfl⟩
                  · refine opS_same rfl rfl fun Lx ac w1 hJ hl hc ho hd => ?_
                    have d10 : ac.eval (.tmp 90) = .bool false := hd 10 _ _ rfl rfl rfl
                    exact ⟨_, x_move (.tmp 90) rfl d10, rfl⟩
                  · refine opS_sameG 11 false _ _ rfl rfl rfl rfl (fun _ _ h => h) rfl fun Lx ac w1 hJ hl hc ho hd => ?_
                    have s17 : ac.eval (.tmp 17) = .int .i64 5009 := ho 17 rfl
                    exact ⟨_, x_move (.tmp 17) rfl s17, rfl⟩
                  · refine opS_sameG 11 false _ _ rfl rfl rfl rfl (fun _ _ h => h) rfl fun Lx ac w1 hJ hl hc ho hd => ?_
                    have d12 : ac.eval (.tmp 92) = .int .i64 5009 := hd 12 _ _ rfl rfl rfl
                    exact ⟨_, x_bin .eql 3 3 (.tmp 92) (.const (.int .i64 5009)) rfl d12 rfl (by kernel_rfl) (run_eq3 (by decide) _), rfl⟩
                  · refine opS_sameG 11 false _ _ rfl rfl rfl rfl (fun _ _ h => h) rfl fun Lx ac w1 hJ hl hc ho hd => ?_
                    have d13 : ac.eval (.tmp 93) = .bool true := hd 13 _ _ rfl rfl rfl
                    exact ⟨_, x_move (.tmp 93) rfl d13, rfl⟩
                  · refine opS_sameG 14 true _ _ rfl rfl rfl rfl (fun _ _ h => h) rfl fun Lx ac w1 hJ hl hc ho hd => ?_
                    have s15 : ac.eval (.tmp 15) = .slice (some ⟨g4, o4, none⟩) 1 c4 := ho 15 rfl
                    exact ⟨_, x_move (.tmp 15) rfl s15, rfl⟩
                  · refine opS_sameG 14 true _ _ rfl rfl rfl rfl (fun _ _ h => h) rfl fun Lx ac w1 hJ hl hc ho hd => ?_
                    have d15 : ac.eval (.tmp 95) = .slice (some ⟨g4, o4, none⟩) 1 c4 := hd 15 _ _ rfl rfl rfl
                    exact ⟨_, x_index 29 (.tmp 95) (.const (.int .i64 0)) rfl d15 rfl (idx29z _ _ _ _ (by omega) _), rfl⟩
                  · refine opS_sameG 14 true _ _ rfl rfl rfl rfl (fun _ _ h => h) rfl fun Lx ac w1 hJ hl hc ho hd => ?_
                    have d16 : ac.eval (.tmp 96) = .pointer (some ⟨g4, o4, none⟩) := hd 16 _ _ rfl rfl rfl
                    exact ⟨_, x_field 38 (.tmp 96) 4 rfl d16 (fld384g _ _ _), rfl⟩
                  · refine opS_sameG 14 true _ _ rfl rfl rfl rfl (fun _ _ h => h) rfl fun Lx ac w1 hJ hl hc ho hd => ?_
                    have d17 : ac.eval (.tmp 97) = .pointer (some ⟨g4, o4 + 4, none⟩) := hd 17 _ _ rfl rfl rfl
                    obtain ⟨_, _, hU⟩ := hJ
                    exact ⟨_, x_load 22 (.tmp 97) rfl d17 (run_load1 agg22' (cell_up HK4.out hU)), rfl⟩
                  · refine opS_sameG 14 true _ _ rfl rfl rfl rfl (fun _ _ h => h) rfl fun Lx ac w1 hJ hl hc ho hd => ?_
                    have d18 : ac.eval (.tmp 98) = .slice y.A y.n y.c := hd 18 _ _ rfl rfl rfl
                    obtain ⟨_, _, hU⟩ := hJ
                    exact ⟨_, x_conv 22 9 (.tmp 98) rfl d18 (HCV.out _ hU), rfl⟩
                  · refine opS_sameG 14 true _ _ rfl rfl rfl rfl (fun _ _ h => h) rfl fun Lx ac w1 hJ hl hc ho hd => ?_
                    have s3 : ac.eval (.tmp 3) = .slice A n c := ho 3 rfl
                    exact ⟨_, x_move (.tmp 3) rfl s3, rfl⟩
                  · refine opS_sameG 14 true _ _ rfl rfl rfl rfl (fun _ _ h => h) rfl fun Lx ac w1 hJ hl hc ho hd => ?_
                    have d20 : ac.eval (.tmp 100) = .slice A n c := hd 20 _ _ rfl rfl rfl
                    obtain ⟨_, _, hU⟩ := hJ
                    exact ⟨_, x_conv 22 9 (.tmp 100) rfl d20 (conv_up H.out (Up.trans HU4.out hU)), rfl⟩
                  · refine opS_sameG 14 true _ _ rfl rfl rfl rfl (fun _ _ h => h) rfl fun Lx ac w1 hJ hl hc ho hd => ?_
                    have d19 : ac.eval (.tmp 99) = .string (strOfNums xs) := hd 19 _ _ rfl rfl rfl
                    have d21 : ac.eval (.tmp 101) = .string (strOfNums xs) := hd 21 _ _ rfl rfl rfl
                    exact ⟨_, x_bin .neq 9 9 (.tmp 99) (.tmp 101) rfl d19 d21 (by kernel_rfl) (run_nes _ _), rfl⟩
                  · refine opS_sameG 11 false _ _ rfl rfl rfl rfl (fun _ _ h => h) rfl fun Lx ac w1 hJ hl hc ho hd => ?_
                    have d14 : ac.eval (.tmp 94) = .bool true := hd 14 _ _ rfl rfl rfl
                    have d22 : ac.eval (.tmp 102) = .bool false := hd 22 _ _ rfl rfl rfl
                    exact ⟨_, x_pick (.tmp 94) (.tmp 102) (.const (.bool false)) (b := true) (Y := .bool false) rfl d14 (fun _ => d22) (fun h => absurd h (by decide)), rfl⟩
                  · refine opS_same rfl rfl fun Lx ac w1 hJ hl hc ho hd => ?_
                    have d11 : ac.eval (.tmp 91) = .bool false := hd 11 _ _ rfl rfl rfl
                    have d23 : ac.eval (.tmp 103) = .bool false := hd 23 _ _ rfl rfl rfl
                    exact ⟨_, x_pick (.tmp 91) (.const (.bool true)) (.tmp 103) (b := false) (X := .bool true) rfl d11 (fun h => absurd h (by decide)) (fun _ => d23), rfl⟩
                · intro L1 a1 w5 hI hall
                  obtain ⟨kq, hk, hUF⟩ := hI.done hall (by simp)
                  have HUn := Lib.hid (show Up w4 w5 from hUF)
                  clear hk hUF kq
                  have l0 : a1.tmps.getD 0 undef = .int .u8 (p : Int) := hI.old 0 rfl
                  have l1 : a1.tmps.getD 1 undef = .int .u8 (q : Int) := hI.old 1 rfl
                  have l2 : a1.tmps.getD 2 undef = .bool must := hI.old 2 rfl
                  have l3 : a1.tmps.getD 3 undef = .slice A n c := hI.old 3 rfl
                  have l4 : a1.tmps.getD 4 undef = undef := hI.old 4 rfl
                  have l5 : a1.tmps.getD 5 undef = undef := hI.old 5 rfl
                  have l6 : a1.tmps.getD 6 undef = undef := hI.old 6 rfl
                  have l7 : a1.tmps.getD 7 undef = undef := hI.old 7 rfl
                  have l8 : a1.tmps.getD 8 undef = u8 := hI.old 8 rfl
                  have l9 : a1.tmps.getD 9 undef = .int .i64 (k : Int) := hI.old 9 rfl
                  have l10 : a1.tmps.getD 10 undef = .int .i64 (m : Int) := hI.old 10 rfl
                  have l11 : a1.tmps.getD 11 undef = .slice (some ⟨qr, 0, none⟩) 1 1 := hI.old 11 rfl
                  have l12 : a1.tmps.getD 12 undef = .slice A1 (k + 1) c1 := hI.old 12 rfl
                  have l13 : a1.tmps.getD 13 undef = .int .i64 ((k : Int) + 1) := hI.old 13 rfl
                  have l18 : a1.tmps.getD 18 undef = .int .u8 (p : Int) := hI.old 18 rfl
                  have l19 : a1.tmps.getD 19 undef = .int .u8 (k : Int) := hI.old 19 rfl
                  have l20 : a1.tmps.getD 20 undef = .int .i64 (k : Int) := hI.old 20 rfl
                  have l21 : a1.tmps.getD 21 undef = .int .u8 (q : Int) := hI.old 21 rfl
                  have l22 : a1.tmps.getD 22 undef = .int .u8 (m0 : Int) := hI.old 22 rfl
                  have l23 : a1.tmps.getD 23 undef = .int .i64 (m0 : Int) := hI.old 23 rfl
                  have l24 : a1.tmps.getD 24 undef = u24 := hI.old 24 rfl
                  have l25 : a1.tmps.getD 25 undef = u25 := hI.old 25 rfl
                  have l26 : a1.tmps.getD 26 undef = u26 := hI.old 26 rfl
                  have l27 : a1.tmps.getD 27 undef = u27 := hI.old 27 rfl
                  have l28 : a1.tmps.getD 28 undef = .bool true := hI.old 28 rfl
                  have l29 : a1.tmps.getD 29 undef = .bool false := hI.old 29 rfl
                  have l30 : a1.tmps.getD 30 undef = .bool false := hI.old 30 rfl
                  have l31 : a1.tmps.getD 31 undef = .int .i64 (k : Int) := hI.old 31 rfl
                  have l32 : a1.tmps.getD 32 undef = .bool false := hI.old 32 rfl
                  have l33 : a1.tmps.getD 33 undef = .bool false := hI.old 33 rfl
                  have l34 : a1.tmps.getD 34 undef = .bool false := hI.old 34 rfl
                  have l35 : a1.tmps.getD 35 undef = .slice A n c := hI.old 35 rfl
                  have l36 : a1.tmps.getD 36 undef = .int .i64 (n : Int) := hI.old 36 rfl
                  have l37 : a1.tmps.getD 37 undef = .bool false := hI.old 37 rfl
                  have l38 : a1.tmps.getD 38 undef = .bool false := hI.old 38 rfl
                  have l39 : a1.tmps.getD 39 undef = undef := hI.old 39 rfl
                  have l40 : a1.tmps.getD 40 undef = .bool must := hI.old 40 rfl
                  have l41 : a1.tmps.getD 41 undef = .int .i64 (m : Int) := hI.old 41 rfl
                  have l42 : a1.tmps.getD 42 undef = .int .i64 (k : Int) := hI.old 42 rfl
                  have l43 : a1.tmps.getD 43 undef = .agg #[.int .u32 7, .int .u32 0, .int .i64 1, .bool must, .int .i64 (m : Int), .int .i64 (k : Int)] := hI.old 43 rfl
                  have l44 : a1.tmps.getD 44 undef = .slice (some ⟨qr, 0, none⟩) 1 1 := hI.old 44 rfl
                  have l104 : a1.tmps.getD 104 undef = .bool false := hI.get hall (i := 24) rfl rfl
                  have hde : a1.defers = [] := hI.defers
                  have hal := act_lit a1 112 hI.size
                  clear hI
                  simp only [List.range, List.range.loop, List.map_cons, List.map_nil] at hal
                  rw [l0, l1, l2, l3, l4, l5, l6, l7, l8, l9, l10, l11, l12, l13, l18, l19, l20, l21, l22, l23, l24, l25, l26, l27, l28, l29, l30, l31, l32, l33, l34, l35, l36, l37, l38, l39, l40, l41, l42, l43, l44, l104, hde] at hal
                  generalize a1.tmps.getD 14 undef = t14 at hal
                  generalize a1.tmps.getD 15 undef = t15 at hal
                  generalize a1.tmps.getD 16 undef = t16 at hal
                  generalize a1.tmps.getD 17 undef = t17 at hal
                  generalize a1.tmps.getD 45 undef = t45 at hal
                  generalize a1.tmps.getD 46 undef = t46 at hal
                  generalize a1.tmps.getD 47 undef = t47 at hal
                  generalize a1.tmps.getD 48 undef = t48 at hal
                  generalize a1.tmps.getD 49 undef = t49 at hal
                  generalize a1.tmps.getD 50 undef = t50 at hal
                  generalize a1.tmps.getD 51 undef = t51 at hal
                  generalize a1.tmps.getD 52 undef = t52 at hal
                  generalize a1.tmps.getD 53 undef = t53 at hal
                  generalize a1.tmps.getD 54 undef = t54 at hal
                  generalize a1.tmps.getD 55 undef = t55 at hal
                  generalize a1.tmps.getD 56 undef = t56 at hal
                  generalize a1.tmps.getD 57 undef = t57 at hal
                  generalize a1.tmps.getD 58 undef = t58 at hal
                  generalize a1.tmps.getD 59 undef = t59 at hal
                  generalize a1.tmps.getD 60 undef = t60 at hal
                  generalize a1.tmps.getD 61 undef = t61 at hal
                  generalize a1.tmps.getD 62 undef = t62 at hal
                  generalize a1.tmps.getD 63 undef = t63 at hal
                  generalize a1.tmps.getD 64 undef = t64 at hal
                  generalize a1.tmps.getD 65 undef = t65 at hal
                  generalize a1.tmps.getD 66 undef = t66 at hal
                  generalize a1.tmps.getD 67 undef = t67 at hal
                  generalize a1.tmps.getD 68 undef = t68 at hal
                  generalize a1.tmps.getD 69 undef = t69 at hal
                  generalize a1.tmps.getD 70 undef = t70 at hal
                  generalize a1.tmps.getD 71 undef = t71 at hal
                  generalize a1.tmps.getD 72 undef = t72 at hal
                  generalize a1.tmps.getD 73 undef = t73 at hal
                  generalize a1.tmps.getD 74 undef = t74 at hal
                  generalize a1.tmps.getD 75 undef = t75 at hal
                  generalize a1.tmps.getD 76 undef = t76 at hal
                  generalize a1.tmps.getD 77 undef = t77 at hal
                  generalize a1.tmps.getD 78 undef = t78 at hal
                  generalize a1.tmps.getD 79 undef = t79 at hal
                  generalize a1.tmps.getD 80 undef = t80 at hal
                  generalize a1.tmps.getD 81 undef = t81 at hal
                  generalize a1.tmps.getD 82 undef = t82 at hal
                  generalize a1.tmps.getD 83 undef = t83 at hal
                  generalize a1.tmps.getD 84 undef = t84 at hal
                  generalize a1.tmps.getD 85 undef = t85 at hal
                  generalize a1.tmps.getD 86 undef = t86 at hal
                  generalize a1.tmps.getD 87 undef = t87 at hal
                  generalize a1.tmps.getD 88 undef = t88 at hal
                  generalize a1.tmps.getD 89 undef = t89 at hal
                  generalize a1.tmps.getD 90 undef = t90 at hal
                  generalize a1.tmps.getD 91 undef = t91 at hal
                  generalize a1.tmps.getD 92 undef = t92 at hal
                  generalize a1.tmps.getD 93 undef = t93 at hal
                  generalize a1.tmps.getD 94 undef = t94 at hal
                  generalize a1.tmps.getD 95 undef = t95 at hal
                  generalize a1.tmps.getD 96 undef = t96 at hal
                  generalize a1.tmps.getD 97 undef = t97 at hal
                  generalize a1.tmps.getD 98 undef = t98 at hal
                  generalize a1.tmps.getD 99 undef = t99 at hal
                  generalize a1.tmps.getD 100 undef = t100 at hal
                  generalize a1.tmps.getD 101 undef = t101 at hal
                  generalize a1.tmps.getD 102 undef = t102 at hal
                  generalize a1.tmps.getD 103 undef = t103 at hal
                  generalize a1.tmps.getD 105 undef = t105 at hal
                  generalize a1.tmps.getD 106 undef = t106 at hal
                  generalize a1.tmps.getD 107 undef = t107 at hal
                  generalize a1.tmps.getD 108 undef = t108 at hal
                  generalize a1.tmps.getD 109 undef = t109 at hal
                  generalize a1.tmps.getD 110 undef = t110 at hal
                  generalize a1.tmps.getD 111 undef = t111 at hal
                  clear l0 l1 l2 l3 l4 l5 l6 l7 l8 l9 l10 l11 l12 l13 l18 l19 l20 l21 l22 l23 l24 l25 l26 l27 l28 l29 l30 l31 l32 l33 l34 l35 l36 l37 l38 l39 l40 l41 l42 l43 l44 l104 hde
                  subst hal
                  have HU5 := Lib.hid (HU4.out.trans HUn.out)
                  have HV5 := Lib.hid (Up.trans HV4.out HUn.out)
                  have HG6 := Lib.hid (HG5.out.up HUn.out)
                  clear HU4 HV4 HG5 HUn HK HCV HK4 HYI HY HYB
                  have HAd := Lib.hid (H.out.up HU5.out)
                  have HSz := Lib.hid HV5.out.size
                  go_wp2_with (first | (at_builtin; refine wpList_appendI rfl (.tmp 106) (.tmp 107) 22 rfl .u8 w5.heap.size 5 1 Tryd.underlying22 info5 (some ⟨w5.heap.size, 0, none⟩) 0 0 [] rfl (ownI_new _ _ _) A n c xs rfl HAd.out.len (HAd.out.cells.alloc _) (by omega) (by omega) (by simp) ((Below.refl _ _).alloc (Nat.le_refl _) _) ?_; intro A6 N6 c6 w6 HN6 HW6 HB6 hsz6; have hbu := build38d 7 A6 N6 c6 w6; have hbs := bslice1 7 0 false false A6 N6 c6 w6; have HGb := Lib.hid ((HG6.out.up (show Up w5 w6 from HB6.out)).up (up_alloc w6 (.cells #[.int .u32 7, .int .u32 0, .bool false, .bool false, .slice A6 N6 c6] 38))); have HSb := Lib.hid (show w2.heap.size ≤ (w6.alloc (.cells #[.int .u32 7, .int .u32 0, .bool false, .bool false, .slice A6 N6 c6] 38)).heap.size from Nat.le_trans HSz.out (Nat.le_trans (show w5.heap.size ≤ w6.heap.size from HB6.out.size) (up_alloc w6 _).size))) | (at_builtin; refine wpList_appendG rfl (.tmp 105) (.tmp 110) 29 rfl w2.heap.size 38 (.agg #[.int .u32 0, .int .u32 0, .bool false, .bool false, .slice none 0 0]) 5 40 Tryd.underlying29 info38 rfl (by decide) A1 (k + 1) c1 (rowa out) rfl HGb.out.row (some ⟨w6.heap.size, 0, none⟩) 1 1 (rowa [⟨7, 0, false, false, A6, N6, c6, xs⟩]) rfl (by simp [rowa, avc, avcL]) (avCells w6 ⟨7, 0, false, false, A6, N6, c6, xs⟩) (rowa_one _) (by omega) (by omega) HSb.out ?_; intro A7 N7 c7 w7 HN7 HW7 HO7 HB7))
                  have HV6 := Lib.hid (show Up w2 w6 from Up.trans HV5.out HB6.out)
                  have HVb := Lib.hid (Up.trans HV6.out (up_alloc w6 (.cells #[.int .u32 7, .int .u32 0, .bool false, .bool false, .slice A6 N6 c6] 38)))
                  have HOx := Lib.hid (show OwnI .u8 5 w2.heap.size w6 A6 N6 c6 xs from OwnI.base' (by have h1 := HW6.out; rw [List.nil_append] at h1; exact h1) HSz.out)
                  have HN6' := HN6.out
                  have HX6 := Lib.hid (show OwnA w2.heap.size (w6.alloc (.cells #[.int .u32 7, .int .u32 0, .bool false, .bool false, .slice A6 N6 c6] 38)) ⟨7, 0, false, false, A6, N6, c6, xs⟩ from ⟨own_up HOx.out (up_alloc _ _), ⟨by show (0 : Int) ≤ 7 ∧ (7 : Int) < 4294967296; omega, by show (0 : Int) ≤ 0 ∧ (0 : Int) < 4294967296; omega, H.out.byt⟩, by show N6 ≤ _; omega⟩)
                  have HXA := Lib.hid (show ∀ t, blk? A6 = some t → blk? A1 ≠ some t from fun t ht e => by have h1 := (row_lt (show OwnI .u8 5 w5.heap.size w6 A6 N6 c6 xs from by have h1 := HW6.out; rw [List.nil_append] at h1; exact h1) ht).1; have h2 := (HG6.out.lt e).2; omega)
                  have HL7 := Lib.hid (GL.push HGb.out HX6.out HXA.out HN7.out HW7.out HO7.out HB7.out)
                  have HV7 := Lib.hid (show Up w2 w7 from Below.out HVb.out HO7.out (fun t ht => (HGb.out.lt ht).1) HVb.out.size)
                  have HE7 := Lib.hid (show (out ++ [(⟨7, 0, false, false, A6, N6, c6, xs⟩ : AvB)]).map AvB.pure = List.replicate (k + 1 + 1) (aO xs) by rw [List.map_append, hE.out]; exact List.replicate_succ'.symm)
                  have hN7 : N7 = k + 1 + 1 := HN7.out
                  subst hN7
                  clear hbu hbs
                  go_roundw
                  case rel => exact ⟨k + 1 + 1, A7, c7, out ++ [⟨7, 0, false, false, A6, N6, c6, xs⟩], by omega, by go_num, rfl, HL7, HE7, HV7⟩
                  case measure => simp [intOf]; omega
          · have d3 : decide ((j : Int) ≤ (k : Int) + 1) = false := decide_eq_false (by omega)
            go_wp2_with fail
            go_ret
            exact ⟨rfl, Lib.hid (HU2.out.trans hV.out)⟩
      · have d2 : decide (100 < (n : Int)) = true := decide_eq_true (by omega)
        go_wp2_with fail
        refine (answers_any w1 (HT.out.up HU1.out)).mono ?_
        rintro e1 w2 ⟨rfl, hu⟩
        have HU2 := Lib.hid (HU1.out.trans hu)
        clear hu
        go_wp2_with fail
        go_ret
        exact ⟨rfl, HU2⟩
end Go.Proofs.YtghldkjbmfbdfaaDoor
