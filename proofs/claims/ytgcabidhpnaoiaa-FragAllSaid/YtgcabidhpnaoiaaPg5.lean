import Derived.Test.YtgcabidhpnaoiaaPg4
import Derived.Laws.Concat
namespace Go.Proofs.Ytgcabidhpnaoiaa
open Go Go.RowKit Go.Shelf Fg
set_option linter.unusedVariables false
set_option linter.unusedSimpArgs false
/-! own; FragJoins. -/
set_option maxRecDepth 100000 in
set_option maxHeartbeats 1000000 in
theorem own_any (st n c : Nat) (A : Option Addr) (bs : List Int) (w : World) (hA : InB w A n c bs) (hn : n ≤ 140737488351232) :
    Calls Try.prog 11 #[.agg #[.int .u16 (st : Int), .slice A n c]] w fun e w' => ∃ A' c', e = .returned (.agg #[.int .u16 (st : Int), .slice A' n c']) ∧ Hid (OwnI .u8 5 w.heap.size w' A' n c' bs) ∧ Hid (Up w w') := by
  have hu1 := up_alloc w (.cells #[.int .u16 (st : Int), .slice A n c] 32)
  have HA := Lib.hid hA
  clear hA
  go_enter Try.func11, Try.ntmps11
  go_upto_region 1 with (fail)
  have P1 := Lib.hid (((up_alloc (w.alloc (.cells #[.int .u16 (st : Int), .slice A n c] 32)) (.cells #[.int .u16 0, .slice none 0 0] 32)).block _ (lt_of_blk (new_at w (.cells #[.int .u16 (st : Int), .slice A n c] 32)))).trans (new_at w (.cells #[.int .u16 (st : Int), .slice A n c] 32)))
  have P2 := Lib.hid (new_at (w.alloc (.cells #[.int .u16 (st : Int), .slice A n c] 32)) (.cells #[.int .u16 0, .slice none 0 0] 32))
  rw [World.size_alloc] at P2
  have HU := Lib.hid (hu1.trans (up_alloc (w.alloc (.cells #[.int .u16 (st : Int), .slice A n c] 32)) (.cells #[.int .u16 0, .slice none 0 0] 32)))
  clear hu1
  generalize (w.alloc (.cells #[.int .u16 (st : Int), .slice A n c] 32)).alloc (.cells #[.int .u16 0, .slice none 0 0] 32) = W at P1 P2 HU ⊢
  have HI := Lib.hid (HA.out.up HU.out)
  have k1 : (W.alloc (.cells #[] 5)).cell? ⟨w.heap.size, 1, none⟩ = some (.slice A n c) := cell_of (((up_alloc W _).block _ (lt_of_blk P1.out)).trans P1.out) rfl
  have hww := HU.out.size
  go_upto_region 2 with (at_builtin; refine wpList_appendI rfl (.tmp 3) (.tmp 5) 30 rfl .u8 W.heap.size 5 1 Try.underlying30 info5 (some ⟨W.heap.size, 0, none⟩) 0 0 [] rfl (ownI_new _ _ _) A n c bs rfl HI.out.len (HI.out.cells.alloc _) (by omega) (by omega) (by simp) ((Below.refl _ _).alloc (Nat.le_refl _) _) ?_; intro A6 N6 c6 w6 HN6 HW6 HB6 hsz6; have P6 := Lib.hid ((HB6.out.block _ (lt_of_blk P1.out)).trans P1.out); have k6 : w6.cell? ⟨w.heap.size, 1, none⟩ = some (.slice A n c) := cell_of P6.out rfl; have f6 : w6.frozen? ⟨w.heap.size, 1, none⟩ = false := frozen_at P6.out)
  have hN : N6 = n := by have := HN6.out; omega
  subst hN
  have P7 := Lib.hid (setCell_at (j := 1) (.slice A6 N6 c6) P6.out)
  have O7 := Lib.hid (setCell_out w6 w.heap.size 1 (.slice A6 N6 c6))
  have P8 := Lib.hid (O7.out.blk ((HB6.out.block _ (lt_of_blk P2.out)).trans P2.out) (by omega))
  have OW := Lib.hid (Out.own O7.out HW6.out (own_ne HW6.out P6.out (by decide)))
  have HU7 : Hid (Up w (w6.setCell ⟨w.heap.size, 1, none⟩ (.slice A6 N6 c6))) := Lib.hid (((HU.out.trans HB6.out).out No).trans O7.out (fun k hk => .inr (by omega))).up
  clear P1 P2 HI k1 HB6 HW6 P6 k6 f6 O7
  generalize w6.setCell ⟨w.heap.size, 1, none⟩ (.slice A6 N6 c6) = w7 at P7 P8 OW HU7 ⊢
  have c0 : w7.cell? ⟨w.heap.size, 0, none⟩ = some (.int .u16 (st : Int)) := cell_of P7.out rfl
  have c1 : w7.cell? ⟨w.heap.size, 1, none⟩ = some (.slice A6 N6 c6) := cell_of P7.out rfl
  have one : (#[.int .u16 (st : Int), .slice A6 N6 c6] : Array Value).all (·.oneCell') = true := by simp [Value.oneCell']
  go_wp2_with (with_reducible refine wpList_store_row rfl 32 _ _ rfl (w.heap.size + 1) #[.int .u16 (st : Int), .slice A6 N6 c6] rfl rfl 32 _ P8.out (by kernel_rfl) rfl one ?_)
  refine bodyPost_ret (results_cell_row (fn := Try.f11) (p := 2) (ty := 32) rfl _ _ (w.heap.size + 1) 32 _ (0, 0) _ rfl (setRow_heap _ _ _ _ _ _ P8.out) Try.underlying32 rfl (by kernel_rfl)) rfl ?_
  refine ⟨A6, c6, rfl, Lib.hid ?_, Lib.hid (below_setRow HU7.out (by omega) _)⟩
  have OR : Out (fun k => k = w.heap.size + 1) w7 (w7.setRow (w.heap.size + 1) #[.int .u16 (st : Int), .slice A6 N6 c6]) := ⟨rfl, rfl, rfl, by simp [World.setRow], fun k _ hk => setRow_other w7 _ k _ hk⟩
  have h3 := OW.out
  rw [List.nil_append] at h3
  exact row_mono (Out.own OR h3 (own_ne h3 P8.out (by decide))) hww
theorem str_app (xs ys : List Int) : strOfNums (xs ++ ys) = strOfNums xs ++ strOfNums ys := by
  apply ByteArray.ext
  rw [ByteArray.data_append]
  simp [strOfNums]
set_option maxRecDepth 100000 in
set_option maxHeartbeats 2000000 in
theorem law_joins (st n c : Nat) (A : Option Addr) (un : Bool) (sz : Int) (bs : List Int) (w : World) (hA : InB w A n c bs) (hn : n ≤ 140737488351232) :
    Calls Try.prog 6 #[.agg #[.int .u16 (st : Int), .slice A n c], .bool un, .int .i64 sz] w (RetB true w) := by
  have hu0 := up_alloc w (.cells #[.int .u16 (st : Int), .slice A n c] 32)
  have hm0 := new_at w (.cells #[.int .u16 (st : Int), .slice A n c] 32)
  have HA := Lib.hid hA
  have HU0 := Lib.hid hu0
  have HM0 := Lib.hid hm0
  clear hA hu0 hm0
  go_enter Try.func6, Try.ntmps6
  go_upto_region 1 with (fail)
  generalize w.alloc (.cells #[.int .u16 (st : Int), .slice A n c] 32) = W0 at HU0 HM0 ⊢
  have h0W : w.heap.size < W0.heap.size := lt_of_blk HM0.out
  generalize hq : w.heap.size = q at HM0 h0W ⊢
  go_wp2_with fail
  refine (newc_any W0).mono ?_
  rintro e w1 ⟨rfl, HC1, HU1⟩
  go_wp2_with fail
  refine (answers_ok w1).mono ?_
  rintro e w2 ⟨rfl, HU2⟩
  have HM2 := Lib.hid (((HU1.out.trans HU2.out).block _ (lt_of_blk HM0.out)).trans HM0.out)
  have HA2 := Lib.hid (HA.out.up ((HU0.out.trans HU1.out).trans HU2.out))
  have HC2 := Lib.hid ((HU2.out.block _ (lt_of_blk HC1.out)).trans HC1.out)
  have k0 : w2.cell? ⟨q, 0, none⟩ = some (.int .u16 (st : Int)) := cell_of HM2.out rfl
  have k1 : w2.cell? ⟨q, 1, none⟩ = some (.slice A n c) := cell_of HM2.out rfl
  go_wp2_with fail
  refine (own_any st n c A bs w2 HA2.out hn).mono ?_
  rintro e w3 ⟨A3, c3, rfl, HO3, HU3⟩
  have HC3 := Lib.hid ((HU3.out.block _ (lt_of_blk HC2.out)).trans HC2.out)
  have HI3 := Lib.hid (own_inB HO3.out HA.out.byt)
  go_wp2_with fail
  refine (cut_any W0.heap.size st n c3 A3 un sz bs (fun _ => 0) w3 HI3.out HC3.out).mono ?_
  rintro e w4 ⟨r, l, P, cP, nx', rfl, HR, HC4, HROW, HBY, HO4⟩
  have HUF : Hid (Up w w4) := Lib.hid (by
    have h2 := ((HU1.out.trans HU2.out).trans HU3.out)
    have h5 := h2.trans (Up.refl w3)
    refine ⟨HO4.out.os.trans (h2.os.trans HU0.out.os), HO4.out.tape.trans (h2.tape.trans HU0.out.tape), HO4.out.output.trans (h2.output.trans HU0.out.output), Nat.le_trans HU0.out.size (Nat.le_trans h2.size HO4.out.size), fun k hk => ?_⟩
    have h6 := HU0.out.size
    have h7 := h2.size
    exact ((HO4.out.block k (by omega) (by omega)).trans (h2.block k (by omega))).trans (HU0.out.block k hk))
  have HA4 := Lib.hid (HA.out.up HUF.out)
  have HM4 := Lib.hid (HO4.out.blk ((HU3.out.block _ (lt_of_blk HM2.out)).trans HM2.out) (by omega))
  clear HU0 HU1 HU2 HU3 HM0 HM2 HA2 HC1 HC2 HC3 HI3 HO3 HO4 HC4 k0 k1
  rcases HR.out with ⟨_, rfl, hl, _⟩ | ⟨_, _, rfl, hl, _⟩ | ⟨hb, hle, rfl, hl, _⟩
  · have hl0 : l = [] := by simpa [ps] using hl
    subst hl0
    go_wp2_with fail
    go_ret
    exact ⟨rfl, HUF⟩
  · have hl0 : l = [] := by simpa [ps] using hl
    subst hl0
    go_wp2_with fail
    go_ret
    exact ⟨rfl, HUF⟩
  · unfold CutBad at hb
    obtain ⟨sz, rfl⟩ : ∃ k : Nat, sz = (k : Int) := ⟨sz.toNat, by omega⟩
    rw [Int.toNat_natCast] at hl
    have hs1 : 1 ≤ sz := by omega
    have hlen : l.length = npt sz bs.length := by have := congrArg List.length hl; rw [cutL_len] at this; simpa [ps] using this
    have hbl := HA.out.len
    have hn4 := npt_le (N := bs.length) hs1
    generalize hNN : l.length = N at HROW ⊢
    have HNN := Lib.hid hNN
    have HN4 : N ≤ 4096 := by omega
    have HL := Lib.hid hl
    have HLEN := Lib.hid hlen
    have HBL := Lib.hid hbl
    have HLE := Lib.hid hle
    have HSZ : sz ≤ 256 := by omega
    clear hl hlen hbl hn4 hNN hle hb HR
    have conv4 := conv_up HA4.out (Up.refl w4)
    have k1 : w4.cell? ⟨q, 1, none⟩ = some (.slice A n c) := cell_of HM4.out rfl
    go_upto_region 8 with (fail)
    go_wp2_with fail
    go_loopw [10, 11] (fun sv iv wr => ∃ (i : Nat) (a : Nat), iv = .int .i64 (i : Int) ∧ i ≤ N ∧ Hid (a = i * sz) ∧ sv = .string (strOfNums (bs.take a)) ∧ wr = w4) (fun _ iv _ => N - (intOf iv).toNat)
    case atStart => exact ⟨0, 0, rfl, Nat.zero_le _, Lib.hid (by simp), by simp; rfl, rfl⟩
    case round =>
      obtain ⟨i, a, rfl, hi, ha, rfl, rfl⟩ := hrel
      by_cases hlt : i < N
      · have hd : decide ((i : Int) < (N : Int)) = true := by simp; omega
        obtain ⟨x, hx⟩ : ∃ x, l[i]? = some x := ⟨_, List.getElem?_eq_getElem (by have := HNN.out; omega)⟩
        have hxp : x.p = cutPc st (if un = true then 0 else 0) un sz bs i := by
          have h1 : (ps l)[i]? = some x.p := by unfold ps; rw [List.getElem?_map, hx]; rfl
          rw [HL.out] at h1
          unfold cutL at h1
          rw [List.getElem?_map, List.getElem?_range (by have := HLEN.out; have := HNN.out; omega)] at h1
          exact (Option.some.inj h1).symm
        have hxs : x.p.bs = (bs.drop a).take sz := by rw [hxp, ha.out]; rfl
        have hbg : x.p.bg = decide (i = 0) := by rw [hxp]; rfl
        have hen : x.p.en = decide (i + 1 = N) := by rw [hxp]; show decide (i + 1 = npt sz bs.length) = _; rw [← HLEN.out, HNN.out]
        have hia : a < n := by
          have h3 := (npt_lt hs1).1 (show i < npt sz bs.length by have := HLEN.out; have := HNN.out; omega)
          rw [← ha.out] at h3; have := HBL.out; omega
        have hlast : (i + 1 = N → n ≤ a + sz) ∧ (i + 1 < N → a + sz < n) := by
          have h3 := npt_lt (N := bs.length) (i := i + 1) hs1
          rw [← HLEN.out, HNN.out, Nat.add_mul, Nat.one_mul, ← ha.out, HBL.out] at h3
          constructor
          · intro h; have := h3.2; omega
          · intro h; exact h3.1 h
        have hbl : x.p.bs.length = min sz (n - a) := by rw [hxs, List.length_take, List.length_drop, HBL.out]
        obtain ⟨g, rfl⟩ := row_at HROW.out (by omega)
        have c3 : wr.cell? ⟨g, i * 7 + 3, none⟩ = some (.bool x.p.bg) := row_cell HROW.out (rowG_at pcc 7 pcc_len hx rfl)
        have c4 : wr.cell? ⟨g, i * 7 + 4, none⟩ = some (.bool x.p.en) := row_cell HROW.out (rowG_at pcc 7 pcc_len hx rfl)
        have c6 : wr.cell? ⟨g, i * 7 + 6, none⟩ = some (.slice x.A x.p.bs.length x.c) := row_cell HROW.out (rowG_at pcc 7 pcc_len hx rfl)
        have hxi := own_inB (HBY.out x (List.mem_of_getElem? hx)) (by rw [hxs]; exact (HA.out.byt.drop _).take _)
        have cv := conv_up hxi (Up.refl wr)
        have hnext : Hid (strOfNums (bs.take a) ++ strOfNums x.p.bs = strOfNums (bs.take (a + sz))) := Lib.hid (by
          rw [hxs, ← str_app, ← List.take_add])
        have hiN : (i : Int) < (N : Int) := by omega
        rw [hbg] at c3
        rw [hen] at c4
        generalize x.p.bs = xs at hbl c6 cv hnext
        generalize hm : xs.length = m at hbl c6 cv
        have HX := Lib.hid hx
        clear hx hxp hxs hbg hen hxi
        have hm0 : ((m : Int) == 0) = false := by rw [beq_eq_false_iff_ne]; omega
        have hadd : (Op.stringOp .add (strOfNums (bs.take a)) (strOfNums xs)).run Try.prog wr = .ok (.string (strOfNums (bs.take (a + sz)))) wr := by
          rw [← hnext.out]
          exact run_string_add wr _ _ (by rw [strOfNums_size, List.length_take]; have := HBL.out; have := HLE.out; omega) (by rw [strOfNums_size, hm]; omega)
        have HMB := Lib.hid hbl
        have HLA := Lib.hid hlast
        clear hbl hlast hm
        have HA1 := Lib.hid (show a + sz = (i + 1) * sz by rw [Nat.add_mul, Nat.one_mul, ← ha.out])
        by_cases hi0 : i = 0
        · have e0 : ((i : Int) == 0) = true := by simp; omega
          rw [decide_eq_true hi0] at c3
          by_cases hiN2 : i + 1 = N
          · have e1 : ((i : Int) == (N : Int) - 1) = true := by simp; omega
            rw [decide_eq_true hiN2] at c4
            by_cases hms : m = sz
            · have e2 : ((m : Int) != (sz : Int)) = false := by have := HMB.out; have := HLA.out; simp; omega
              clear hms hiN2 hi0
              go_wp2_with fail
              go_roundw
              case rel => exact ⟨i + 1, a + sz, by go_num, by omega, HA1, rfl, trivial⟩
              case measure => simp [intOf]; omega
            · have e2 : ((m : Int) != (sz : Int)) = true := by simp; omega
              clear hms hiN2 hi0
              go_wp2_with fail
              go_roundw
              case rel => exact ⟨i + 1, a + sz, by go_num, by omega, HA1, rfl, trivial⟩
              case measure => simp [intOf]; omega
          · have e1 : ((i : Int) == (N : Int) - 1) = false := by rw [beq_eq_false_iff_ne]; omega
            rw [decide_eq_false hiN2] at c4
            have e2 : ((m : Int) != (sz : Int)) = false := by have := HMB.out; have := HLA.out; simp; omega
            clear hiN2 hi0
            go_wp2_with fail
            go_roundw
            case rel => exact ⟨i + 1, a + sz, by go_num, by omega, HA1, rfl, trivial⟩
            case measure => simp [intOf]; omega
        · have e0 : ((i : Int) == 0) = false := by rw [beq_eq_false_iff_ne]; omega
          rw [decide_eq_false hi0] at c3
          by_cases hiN2 : i + 1 = N
          · have e1 : ((i : Int) == (N : Int) - 1) = true := by simp; omega
            rw [decide_eq_true hiN2] at c4
            by_cases hms : m = sz
            · have e2 : ((m : Int) != (sz : Int)) = false := by have := HMB.out; have := HLA.out; simp; omega
              clear hms hiN2 hi0
              go_wp2_with fail
              go_roundw
              case rel => exact ⟨i + 1, a + sz, by go_num, by omega, HA1, rfl, trivial⟩
              case measure => simp [intOf]; omega
            · have e2 : ((m : Int) != (sz : Int)) = true := by simp; omega
              clear hms hiN2 hi0
              go_wp2_with fail
              go_roundw
              case rel => exact ⟨i + 1, a + sz, by go_num, by omega, HA1, rfl, trivial⟩
              case measure => simp [intOf]; omega
          · have e1 : ((i : Int) == (N : Int) - 1) = false := by rw [beq_eq_false_iff_ne]; omega
            rw [decide_eq_false hiN2] at c4
            have e2 : ((m : Int) != (sz : Int)) = false := by have := HMB.out; have := HLA.out; simp; omega
            clear hiN2 hi0
            go_wp2_with fail
            go_roundw
            case rel => exact ⟨i + 1, a + sz, by go_num, by omega, HA1, rfl, trivial⟩
            case measure => simp [intOf]; omega
      · have hd : decide ((i : Int) < (N : Int)) = false := by simp; omega
        have hta : bs.take a = bs := List.take_of_length_le (by
          have h3 := npt_lt (N := bs.length) (i := i) hs1
          have := HLEN.out; have := HNN.out; have := ha.out
          rcases Nat.lt_or_ge a bs.length with h | h
          · have := h3.2 (by omega); omega
          · exact h)
        rw [hta]
        clear hta
        go_wp2_with fail
        go_ret
        exact ⟨by simp, HUF⟩
end Go.Proofs.Ytgcabidhpnaoiaa
