import Derived.Test.YtiagapibfdpfdaaAvD5
import Derived.Laws.Tables
namespace Go.Proofs.Ytiagapibfdpfdaa
open Go Go.RowKit
set_option linter.unusedVariables false
set_option linter.unusedSimpArgs false
/-! The law AvpDeep. -/
theorem xor_ne (c : Int) (h : 0 ≤ c ∧ c < 4294967296) : (0 ≤ bits .xor .u32 c 1 ∧ bits .xor .u32 c 1 < 4294967296) ∧ bits .xor .u32 c 1 ≠ c := by
  obtain ⟨n, rfl⟩ := Int.eq_ofNat_of_zero_le h.1
  have h1 := u32_xor_nat n 1 (by omega) (by omega)
  have h2 : bits .xor .u32 (n : Int) 1 = ((n ^^^ 1 : Nat) : Int) := h1
  rw [h2]
  have h3 : n ^^^ 1 < 2 ^ 32 := Nat.xor_lt_two_pow (by omega) (by omega)
  have h4 : n ^^^ 1 ≠ n := fun e => by
    have h5 : n ^^^ (n ^^^ 1) = n ^^^ n := by rw [e]
    rw [← Nat.xor_assoc, Nat.xor_self, Nat.zero_xor] at h5
    cases h5
  omega
theorem chain_at (c0 cd : Int) (data : List Int) : ∀ (j d i : Nat), i ≤ j → (chain c0 cd data d j)[i]? = some (d + i, nest c0 cd data (j - i))
  | 0, d, i, h => by
    obtain rfl : i = 0 := by omega
    rfl
  | j + 1, d, 0, h => rfl
  | j + 1, d, i + 1, h => by
    show (chain c0 cd data (d + 1) j)[i]? = _
    rw [chain_at c0 cd data j (d + 1) i (by omega)]
    congr 2
    · omega
    · congr 1; omega
theorem rowi_at {l : List (Nat × AvB)} {i : Nat} {x : Nat × AvB} (h : l[i]? = some x) : (rowi l)[i * 6]? = some (.int .i64 (x.1 : Int)) ∧ (rowi l)[i * 6 + 1]? = some (.int .u32 x.2.code) ∧ (rowi l)[i * 6 + 5]? = some (.slice x.2.A x.2.n x.2.c) := by
  induction l generalizing i with
  | nil => simp at h
  | cons y l ih =>
    have hl : (itc y).length = 6 := rfl
    cases i with
    | zero =>
      simp at h
      subst h
      exact ⟨rfl, rfl, rfl⟩
    | succ i =>
      have h2 : l[i]? = some x := by simpa using h
      have := ih h2
      simp only [rowi, List.flatMap_cons]
      rw [List.getElem?_append_right (by rw [hl]; omega), List.getElem?_append_right (by rw [hl]; omega), List.getElem?_append_right (by rw [hl]; omega), hl]
      rw [show (i + 1) * 6 - 6 = i * 6 by omega, show (i + 1) * 6 + 1 - 6 = i * 6 + 1 by omega, show (i + 1) * 6 + 5 - 6 = i * 6 + 5 by omega]
      exact this
theorem nest_code {c0 cd : Int} {data : List Int} {j : Nat} : (nest c0 cd data j).code = if j = 0 then c0 else cd := by cases j <;> rfl
/-- An item's cells, and its attribute. -/
theorem item_at {c0 cd : Int} {data : List Int} {j i : Nat} {items : List (Nat × AvB)} (hc : items.map pureI = chain c0 cd data 0 j) (hi : i ≤ j) : ∃ x, items[i]? = some x ∧ x.1 = i ∧ x.2.pure = nest c0 cd data (j - i) := by
  have h1 := chain_at c0 cd data j 0 i hi
  rw [← hc, List.getElem?_map] at h1
  cases hx : items[i]? with
  | none => rw [hx] at h1; cases h1
  | some x =>
    rw [hx] at h1
    injection h1 with h1
    have e1 := congrArg Prod.fst h1
    have e2 := congrArg Prod.snd h1
    exact ⟨x, rfl, by simpa [pureI] using e1, by simpa [pureI] using e2⟩
set_option maxRecDepth 100000 in
set_option maxHeartbeats 20000000 in
theorem law_deep (nb cd : Int) (a2 : Option Addr) (m2 c2 : Nat) (z2 : List Int) (w : World) (hnb : 0 ≤ nb ∧ nb < 256) (hcd : 0 ≤ cd ∧ cd < 4294967296) (h2 : InB w a2 m2 c2 z2) (u2 : m2 ≤ 140737488351232) :
    Calls Try.prog 6 #[.int .u8 nb, .int .u32 cd, .slice a2 m2 c2] w (RetB true w) := by
  obtain ⟨N, rfl⟩ := Int.eq_ofNat_of_zero_le hnb.1
  have hN : N < 256 := by omega
  have HI2 := Lib.hid h2
  have HL2 := Lib.hid h2.len
  have hx := xor_ne cd hcd
  have HX := Lib.hid hx
  have HCD := Lib.hid hcd
  have cd0 := hcd.1
  have cd1 := hcd.2
  clear h2 hnb hx hcd
  go_enter Try.func6, Try.ntmps6
  go_wp2_with fail
  refine (answers_ok w).mono ?_
  rintro e w1 ⟨rfl, hu1⟩
  have U1 := Lib.hid hu1.out
  by_cases hbig : 100 < m2
  · have db : decide ((100 : Int) < (m2 : Int)) = true := by simp; omega
    go_wp2_with fail
    refine (answers_ok w1).mono ?_
    rintro e w2 ⟨rfl, hu2⟩
    have U2 := Lib.hid (Up.trans U1.out hu2.out)
    go_wp2_with fail
    go_ret
    exact ⟨rfl, U2⟩
  · have db : decide ((100 : Int) < (m2 : Int)) = false := by simp; omega
    have HD := Lib.hid (show z2.length ≤ 100 by rw [HL2.out]; omega)
    have HCA := Lib.hid ((HI2.out.up U1.out).cells.alloc (.cells #[] 5))
    go_upto_region 5 with (at_builtin; refine wpList_appendI rfl (.tmp 30) (.tmp 31) 23 rfl .u8 w1.heap.size 5 1 Try.underlying23 info5 (some ⟨w1.heap.size, 0, none⟩) 0 0 [] rfl (ownI_new _ _ _) a2 m2 c2 z2 rfl HL2.out HCA.out (by omega) (by omega) (by simp) ((Below.refl _ _).alloc (Nat.le_refl _) _) ?_; intro A3 N3 c3 w3 HN3 HW3 HB3 hsz3)
    have HO3 := Lib.hid (show OwnI .u8 5 w1.heap.size w3 A3 N3 c3 z2 by have := HW3.out; rw [List.nil_append] at this; exact this)
    have U3 := Lib.hid (show Up w w3 from Up.trans U1.out (show Up w1 w3 from HB3.out))
    have hN3 : N3 ≤ 100 := by have := HN3.out; omega
    obtain ⟨K, hK⟩ : ∃ K : Nat, ((N : Int) % 14) = (K : Int) := ⟨N % 14, by omega⟩
    have hK14 : K < 14 := by omega
    simp only [hK]
    obtain ⟨c0, hc0⟩ : ∃ c0, bits .xor .u32 cd 1 = c0 := ⟨_, rfl⟩
    rw [hc0] at HX
    simp only [hc0]
    have HC4 := Lib.hid (new_at w3 (.cells #[.int .u32 c0, .int .u32 0, .bool false, .bool false, .slice A3 N3 c3] 38))
    have HU4 := Lib.hid (up_alloc w3 (.cells #[.int .u32 c0, .int .u32 0, .bool false, .bool false, .slice A3 N3 c3] 38))
    generalize w3.alloc (.cells #[.int .u32 c0, .int .u32 0, .bool false, .bool false, .slice A3 N3 c3] 38) = w4 at HC4 HU4 ⊢
    obtain ⟨pb, hpb⟩ : ∃ pb, w3.heap.size = pb := ⟨_, rfl⟩
    simp only [hpb] at HC4 ⊢
    have HPB := Lib.hid (show w.heap.size ≤ pb by rw [← hpb]; exact U3.out.size)
    have HF4 := Lib.hid (show ∀ k, blk? A3 = some k → k ≠ pb from fun k hk => by have h1 := (row_lt HO3.out hk).2; omega)
    have U4 := Lib.hid (Up.trans U3.out HU4.out)
    have HA4 := Lib.hid (show AvIn w4 ⟨c0, 0, false, false, A3, N3, c3, z2⟩ from ⟨own_inB (own_up HO3.out HU4.out) HI2.out.byt, ⟨HX.out.1, ⟨by show (0 : Int) ≤ 0; omega, by show (0 : Int) < 4294967296; omega⟩, HI2.out.byt⟩, by show N3 ≤ _; omega⟩)
    have HSZ := Lib.hid (show ∀ i, i ≤ 13 → (encAs [nest c0 cd z2 i]).length ≤ 4096 from fun i hi => by have := nest_size (c0 := c0) (cd := cd) HD.out i; omega)
    clear hK hc0 hpb HW3 HB3 HN3 hsz3 HCA HU4
    go_wp2_with fail
    go_loopw [9] (fun v wr => ∃ (i : Nat) (x : AvB), i ≤ K ∧ v = .int .i64 (i : Int) ∧ Hid (wr.heap[pb]? = some (.cells #[.int .u32 x.code, .int .u32 x.vendor, .bool x.must, .bool x.prot, .slice x.A x.n x.c] 38 (0, 0))) ∧ Hid (x.pure = nest c0 cd z2 i) ∧ Hid (AvIn wr x) ∧ Hid (Up w wr)) (fun v _ => K - (intOf v).toNat)
    case atStart => exact ⟨0, ⟨c0, 0, false, false, A3, N3, c3, z2⟩, Nat.zero_le _, rfl, HC4, Lib.hid rfl, HA4, U4⟩
    case round =>
      obtain ⟨i, x, hi, rfl, hC, hP, hA, hU⟩ := hrel
      have y0 := cell_of hC.out (j := 0) rfl
      have y1 := cell_of hC.out (j := 1) rfl
      have y2 := cell_of hC.out (j := 2) rfl
      have y3 := cell_of hC.out (j := 3) rfl
      have y4 := cell_of hC.out (j := 4) rfl
      have HUA := Lib.hid (up_alloc wr (.cells #[.int .u32 x.code, .int .u32 x.vendor, .bool x.must, .bool x.prot, .slice x.A x.n x.c] 38))
      have HIL := Lib.hid (show InL (wr.alloc (.cells #[.int .u32 x.code, .int .u32 x.vendor, .bool x.must, .bool x.prot, .slice x.A x.n x.c] 38)) (some ⟨wr.heap.size, 0, none⟩) 1 1 [x] from ⟨avCells wr x, (fun y hy => by rw [List.mem_singleton] at hy; subst hy; exact hA.out.up HUA.out), Nat.le_refl _, rfl⟩)
      by_cases hlt : i < K
      · have e1 : decide ((i : Int) < (K : Int)) = true := by simp; omega
        go_wp2_with fail
        refine (put_any' (some ⟨wr.heap.size, 0, none⟩) 1 1 [x] _ HIL.out (by omega)).mono ?_
        rintro e w5 ⟨ys, k5, A5, n5, c5, rfl, hr, hN5, hO5, hu5⟩
        obtain ⟨rfl, hys⟩ := putRes_fit (l := [nest c0 cd z2 i]) (by have := hr.out; rw [List.map_cons, List.map_nil, hP.out] at this; exact this) (by simp) (HSZ.out i (by omega))
        have HYS := Lib.hid hys
        have U5 := Lib.hid (Up.trans hU.out (Up.trans HUA.out hu5.out))
        have HC5 := Lib.hid (blk_up hC.out (Up.trans HUA.out hu5.out))
        have HN5 := Lib.hid (show n5 ≤ 4096 by rw [hN5.out, hys]; exact HSZ.out i (by omega))
        have HF5 := Lib.hid (show ∀ k, blk? A5 = some k → k ≠ pb from fun k hk => by have h1 := (row_lt hO5.out hk).1; have h2 := lt_of_blk hC.out; have h3 := HUA.out.size; omega)
        have HBYS := Lib.hid (show Byt ys by rw [hys]; exact byt_encAs (fun a ha => by rw [List.mem_singleton] at ha; subst ha; exact nest_ok HX.out.1 HCD.out HI2.out.byt i))
        clear hr hys hN5 y0 y1 y2 y3 y4
        go_upto_region 11 with (fail)
        have HI5 := Lib.hid (own_inB hO5.out HBYS.out)
        go_wp2_with (with_reducible refine wpList_store_row rfl 38 _ _ rfl pb #[.int .u32 cd, .int .u32 0, .bool false, .bool false, .slice A5 n5 c5] rfl rfl 38 _ HC5.out (by kernel_rfl) rfl (by simp [Value.oneCell']) ?_)
        have HC6 := Lib.hid (setRow_heap w5 pb _ #[.int .u32 cd, .int .u32 0, .bool false, .bool false, .slice A5 n5 c5] 38 (0, 0) HC5.out)
        have U6 := Lib.hid (below_setRow U5.out HPB.out #[.int .u32 cd, .int .u32 0, .bool false, .bool false, .slice A5 n5 c5])
        have HA6 := Lib.hid (show AvIn (w5.setRow pb #[.int .u32 cd, .int .u32 0, .bool false, .bool false, .slice A5 n5 c5]) ⟨cd, 0, false, false, A5, n5, c5, ys⟩ from ⟨HI5.out.blk (fun k hk => setRow_other _ _ _ _ (HF5.out k hk)), ⟨HCD.out, ⟨by show (0 : Int) ≤ 0; omega, by show (0 : Int) < 4294967296; omega⟩, HBYS.out⟩, by show n5 ≤ _; have := HN5.out; omega⟩)
        have HP6 := Lib.hid (show (AvB.pure ⟨cd, 0, false, false, A5, n5, c5, ys⟩) = nest c0 cd z2 (i + 1) by show (⟨cd, 0, false, false, ys⟩ : Av.Avp) = _; rw [HYS.out]; rfl)
        generalize w5.setRow pb #[.int .u32 cd, .int .u32 0, .bool false, .bool false, .slice A5 n5 c5] = w6 at HC6 U6 HA6 ⊢
        go_roundw
        case rel => exact ⟨i + 1, ⟨cd, 0, false, false, A5, n5, c5, ys⟩, by omega, by go_num, HC6, HP6, HA6, U6⟩
        case measure => simp [intOf]; omega
      · obtain rfl : i = K := by omega
        have e1 : decide ((i : Int) < (i : Int)) = false := by simp
        go_wp2_with fail
        refine (put_any' (some ⟨wr.heap.size, 0, none⟩) 1 1 [x] _ HIL.out (by omega)).mono ?_
        rintro e w5 ⟨ys, k5, A5, n5, c5, rfl, hr, hN5, hO5, hu5⟩
        obtain ⟨rfl, rfl⟩ := putRes_fit (l := [nest c0 cd z2 i]) (by have := hr.out; rw [List.map_cons, List.map_nil, hP.out] at this; exact this) (by simp) (HSZ.out i (by omega))
        have U5 := Lib.hid (Up.trans hU.out (Up.trans HUA.out hu5.out))
        have HN5 := Lib.hid (show n5 ≤ 4096 by rw [hN5.out]; exact HSZ.out i (by omega))
        have HI5 := Lib.hid (own_inB hO5.out (byt_encAs (fun a ha => by rw [List.mem_singleton] at ha; subst ha; exact nest_ok HX.out.1 HCD.out HI2.out.byt i)))
        have HUG := Lib.hid (up_alloc w5 (.cells #[.int .u32 cd] 36))
        have HGC := Lib.hid (cell_of (new_at w5 (.cells #[.int .u32 cd] 36)) (j := 0) (v := .int .u32 cd) rfl)
        clear hr hN5 y0 y1 y2 y3 y4 hC hA hP
        by_cases h8 : 8 ≤ i
        · have e8 : decide ((8 : Int) ≤ (i : Int)) = true := by simp; omega
          go_wp2_with fail
          refine (opn_deep c0 cd z2 w5.heap.size A5 n5 c5 i _ HX.out.1 HCD.out HI2.out.byt HD.out h8 (by omega) (HI5.out.up HUG.out) HN5.out HGC.out).mono ?_
          rintro e w6 ⟨rfl, hu6⟩
          have U6 := Lib.hid (Up.trans U5.out (Up.trans HUG.out hu6.out))
          go_wp2_with fail
          go_ret
          exact ⟨rfl, U6⟩
        · have e8 : decide ((8 : Int) ≤ (i : Int)) = false := by simp; omega
          go_wp2_with fail
          refine (opn_ok c0 cd z2 w5.heap.size A5 n5 c5 i _ HX.out.1 HCD.out HI2.out.byt HD.out HX.out.2 (by omega) (HI5.out.up HUG.out) HN5.out HGC.out).mono ?_
          rintro e w6 ⟨A6, n6, c6, items, rfl, hC6, hl6, hp6, ha6, hu6⟩
          have U6 := Lib.hid (Up.trans U5.out (Up.trans HUG.out hu6.out))
          have hn6 : n6 = i + 1 := by rw [← hl6.out, ← chain_length c0 cd z2 0 i, ← hp6.out, List.length_map]
          subst hn6
          obtain ⟨g6, o6, rfl, -, hcl⟩ := hC6.out (fun e => by have h1 := congrArg List.length e; rw [rowi_length, hl6.out] at h1; simp at h1)
          have HCL := Lib.hid hcl
          clear hcl hC6
          go_wp2_with fail
          go_loop [16] (fun v => ∃ t : Nat, t ≤ i + 1 ∧ v = .int .i64 (t : Int)) (fun v => i + 2 - (intOf v).toNat)
          case atStart => exact ⟨0, Nat.zero_le _, rfl⟩
          case round =>
            obtain ⟨t, ht, rfl⟩ := hrel
            by_cases hti : t ≤ i
            · have et : decide ((t : Int) ≤ (i : Int)) = true := by simp; omega
              obtain ⟨y, hy, hy1, hy2⟩ := item_at hp6.out hti
              obtain ⟨r1, r2, -⟩ := rowi_at hy
              have q1 := HCL.out _ _ r1
              have q2 := HCL.out _ _ r2
              rw [hy1] at q1
              rw [← Nat.add_assoc] at q2
              have hyc : y.2.code = if i - t = 0 then c0 else cd := by
                have e := congrArg Av.Avp.code hy2
                rw [nest_code] at e
                exact e
              by_cases hlast : t = i
              · subst hlast
                rw [Nat.sub_self, if_pos rfl] at hyc
                rw [hyc] at q2
                have ec : (c0 == cd) = false := by rw [beq_eq_false_iff_ne]; exact HX.out.2
                have el : decide ((t : Int) < (t : Int)) = false := by simp
                clear hy hy1 hy2 r1 r2 hyc
                go_wp2_with fail
                go_round
                case rel => exact ⟨t + 1, by omega, by go_num⟩
                case measure => simp [intOf] <;> omega
              · rw [if_neg (by omega)] at hyc
                rw [hyc] at q2
                have el : decide ((t : Int) < (i : Int)) = true := by simp; omega
                have el2 : decide (t < i) = true := by simp; omega
                clear hy hy1 hy2 r1 r2 hyc
                go_wp2_with fail
                go_round
                case rel => exact ⟨t + 1, by omega, by go_num⟩
                case measure => simp [intOf] <;> omega
            · obtain rfl : t = i + 1 := by omega
              have et : decide (((i + 1 : Nat) : Int) ≤ (i : Int)) = false := by simp; omega
              obtain ⟨y, hy, hy1, hy2⟩ := item_at hp6.out (Nat.le_refl i)
              obtain ⟨-, -, r3⟩ := rowi_at hy
              have q5 := HCL.out _ _ r3
              rw [← Nat.add_assoc] at q5
              have hyb : y.2.bs = z2 := by
                have e := congrArg Av.Avp.bs hy2
                rw [Nat.sub_self] at e
                exact e
              have HAY := Lib.hid (ha6.out y (List.mem_of_getElem? hy)).inb
              rw [hyb] at HAY
              generalize y.2.A = A7 at q5 HAY
              generalize y.2.n = n7 at q5 HAY
              generalize y.2.c = c7 at q5 HAY
              clear hy hy1 hy2 r3 hyb
              have v1 := fun j => conv_up HAY.out (up_drewN w6 j)
              have v2 := fun j => conv_up HI2.out (Up.trans U6.out (up_drewN w6 j))
              go_upto_region 23 with (fail)
              go_quiet (fail)
              have U7 := Lib.hid (Up.trans U6.out (up_drewN w6 nq))
              generalize w6.drewN nq = w7 at U7 ⊢
              go_wp2_with fail
              go_ret
              exact ⟨by simp, U7⟩
end Go.Proofs.Ytiagapibfdpfdaa
