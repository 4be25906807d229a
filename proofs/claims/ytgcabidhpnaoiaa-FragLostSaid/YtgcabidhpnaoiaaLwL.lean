import Derived.Test.YtgcabidhpnaoiaaLwN
import Derived.Test.YtgcabidhpnaoiaaFgT
namespace Go.Proofs.Ytgcabidhpnaoiaa
open Go Go.RowKit Go.Shelf Fg
set_option linter.unusedVariables false
set_option linter.unusedSimpArgs false
/-! FragLost. -/
structure OneP (base b st sq : Nat) (bs : List Int) (q1 q2 q3 : Option Nat) (m : List LtB) (nx : Nat → Nat) (w w' : World) (A : Option Addr) (N c : Nat) (ms : List MsB) (p1 p2 p3 : Option Nat) (m' : List LtB) (nx' : Nat → Nat) : Prop where
  bx : BX base w' b p1 p2 p3 [] m' nx'
  row : w'.ownsRow w.heap.size 32 2 (.slice A N c) N (ms.flatMap mc)
  len : N = ms.length
  by_ : ∀ x ∈ ms, OwnI .u8 5 base w' x.A x.m.2.length x.c x.m.2 ∧ Byt x.m.2 ∧ x.m.2.length ≤ 131072
  turns : Turns st (addW (ts m) (st, sq, bs)) nx (ms.map (·.m)) (ts m') nx'
  out : Out (BS b q1 q2 q3) w w'
  sub : Sub (BS b p1 p2 p3) (BS b q1 q2 q3) w
  lt : ∀ s, nx' s < 65536
  le : m'.length ≤ m.length + 1
theorem put_one (base b t st sq n c : Nat) (A : Option Addr) (bs : List Int) (q1 q2 q3 : Option Nat) (m : List LtB) (nx : Nat → Nat) (w : World) (hB : BX base w b q1 q2 q3 [] m nx) (hin : InB w A n c bs) (h0 : 0 < n) (hn : n ≤ 256) (ht : t < 4294967296) (hst : st < 8) (hsq : sq < 65536) (hnx : ∀ s, nx s < 65536) (hm : m.length ≤ 4000) (hbase : base ≤ w.heap.size) :
    Calls Try.prog 16 #[.pointer (some ⟨b, 0, none⟩), .agg #[.int .u32 (t : Int), .int .u16 (st : Int), .int .u16 (sq : Int), .bool true, .bool true, .bool false, .slice A n c]] w fun e w' => ∃ A' N' c' ms p1 p2 p3 m' nx', e = .returned (.tuple #[.slice A' N' c', .int .i64 0]) ∧ Hid (OneP base b st sq bs q1 q2 q3 m nx w w' A' N' c' ms p1 p2 p3 m' nx') := by
  refine (put_any base b t st sq n c true true false A bs q1 q2 q3 [] m nx w hB hin (by omega) ht (by omega) hsq hnx hm hbase).mono ?_
  rintro e w7 ⟨r7, A7, N7, c7, ms7, p1, p2, p3, l7, m7, nx7, rfl, HP⟩
  have hl := hin.len
  obtain ⟨rfl, h2, h3⟩ := put_single HP.out.put (by unfold Fg.Form; simp only; omega) rfl rfl rfl rfl ht
  have h4 : l7 = [] := by simpa [ps] using h2
  subst h4
  exact ⟨A7, N7, c7, ms7, p1, p2, p3, m7, nx7, rfl, Lib.hid ⟨HP.out.bx, HP.out.row, HP.out.len, HP.out.by_, h3, HP.out.out, HP.out.sub, HP.out.lt, HP.out.le⟩⟩
set_option maxRecDepth 100000 in
set_option maxHeartbeats 4000000 in
theorem law_lost (nn lost n c : Nat) (A : Option Addr) (bs : List Int) (w : World) (hA : InB w A n c bs) (hn : n ≤ 140737488351232) (h1 : nn < 256) (h2 : lost < 256) :
    Calls Try.prog 7 #[.int .u8 (nn : Int), .int .u8 (lost : Int), .slice A n c] w (RetB true w) := by
  have HA := Lib.hid hA
  clear hA
  obtain ⟨k, hk⟩ : ∃ k, k = nn % 10 + 1 := ⟨_, rfl⟩
  obtain ⟨gone, hg⟩ : ∃ gone, gone = lost % k := ⟨_, rfl⟩
  have hk10 : k ≤ 10 := by omega
  have hk0 : 0 < k := by omega
  have hgk : gone < k := by rw [hg]; exact Nat.mod_lt _ hk0
  have HK := Lib.hid hk
  have HG := Lib.hid hg
  clear hk hg
  go_enter Try.func7, Try.ntmps7
  go_upto_region 2 with (fail)
  have e1 : ((nn : Int) % 10 + 1) = (k : Int) := by have := HK.out; omega
  rw [e1]
  have hkz : ((k : Int) == 0) = false := by rw [beq_eq_false_iff_ne]; omega
  clear e1
  go_upto_region 3 with (fail)
  have e2 : ((lost : Int) % (k : Int)) = (gone : Int) := by have := HG.out; rw [this]; omega
  rw [e2]
  clear e2 hkz
  go_wp2_with fail
  refine (newbox_any 0 w).mono ?_
  rintro e w1 ⟨rfl, HB1, HU1⟩
  have hb1 := lt_of_blk HB1.out.top
  obtain ⟨b, hb⟩ : ∃ b, b = w.heap.size := ⟨_, rfl⟩
  rw [← hb] at HB1 hb1 ⊢
  have HBW := Lib.hid hb
  clear hb
  go_wp2_with fail
  refine (answers_ok w1).mono ?_
  rintro e w2 ⟨rfl, HU2⟩
  have HB2 := Lib.hid (HB1.out.up HU2.out)
  have HUU := Lib.hid (HU1.out.trans HU2.out)
  have HF0 : Hid (From w.heap.size (BS b none none none)) := Lib.hid (fun k hk => by
    rcases hk with h | h | h | h
    · rw [h, HBW.out]; exact Nat.le_refl _
    all_goals cases h)
  clear HB1 hb1 HU1 HU2
  go_wp2_with fail
  go_loopw [10, 11] (fun tv iv wr => ∃ (i : Nat) (q1 q2 q3 : Option Nat) (m : List LtB) (nx : Nat → Nat), iv = .int .i64 (i : Int) ∧ tv = .int .i64 ((min i gone : Nat) : Int) ∧ i ≤ k ∧ m.length ≤ i ∧ Hid (BX 0 wr b q1 q2 q3 [] m nx) ∧ Hid (From w.heap.size (BS b q1 q2 q3)) ∧ Hid (Up w wr) ∧ Hid ((ts m).Perm (WL gone i)) ∧ Hid (nx 0 = min i gone ∧ nx 1 = 0 ∧ ∀ s, nx s < 65536)) (fun _ iv _ => k - (intOf iv).toNat)
  case atStart => exact ⟨0, none, none, none, [], fun _ => 0, rfl, by simp, by omega, by simp, HB2, HF0, HUU, Lib.hid (by simp [ts, WL]), Lib.hid ⟨by simp, rfl, by intro s; simp⟩⟩
  case round =>
    obtain ⟨i, q1, q2, q3, m, nx, rfl, rfl, hik, hml, hB, hF, hU, hW, hN⟩ := hrel
    by_cases hlt : i < k
    · have d1 : decide ((i : Int) < (k : Int)) = true := by simp; omega
      by_cases hig : i = gone
      · subst hig
        have d2 : ((i : Int) == (i : Int)) = true := by simp
        go_wp2_with fail
        go_roundw
        case rel => exact ⟨i + 1, q1, q2, q3, m, nx, by go_num, by congr 1; omega, by omega, by omega, hB, hF, hU, Lib.hid (by have h := hW.out; rw [show WL i i = WL i (i + 1) by unfold WL; rw [show i - (i + 1) = i + 1 - (i + 1) by omega]] at h; exact h), Lib.hid ⟨by rw [hN.out.1]; omega, hN.out.2⟩⟩
        case measure => simp [intOf]; omega
      · have d2 : ((i : Int) == (gone : Int)) = false := by rw [beq_eq_false_iff_ne]; omega
        have hi10 : i < 10 := by omega
        go_upto_region 11 with (fail)
        have NB := Lib.hid (inB_blk (xs := [(i : Int)]) (new_at wr (.cells #[.int .u8 (i : Int)] 5)) (by intro x hx; simp at hx; omega))
        have NU := Lib.hid (up_alloc wr (.cells #[.int .u8 (i : Int)] 5))
        have hB2 := Lib.hid (hB.out.up NU.out)
        go_wp2_with fail
        refine (put_one 0 b i 0 i 1 1 (some ⟨wr.heap.size, 0, none⟩) [(i : Int)] q1 q2 q3 m nx (wr.alloc (.cells #[.int .u8 (i : Int)] 5)) hB2.out NB.out (by omega) (by omega) (by omega) (by omega) (by omega) hN.out.2.2 (by omega) (by omega)).mono ?_
        rintro e w5 ⟨A5, N5, c5, ms5, p1, p2, p3, m5, nx5, rfl, HP⟩
        have hka := hB.out.ok.1.wait
        have hu5 : Up w w5 := Below.out (hU.out.trans NU.out) HP.out.out hF.out (by have := hU.out.size; have := NU.out.size; omega)
        have hf5 : From w.heap.size (BS b p1 p2 p3) := hF.out.sub HP.out.sub (by have := hU.out.size; have := NU.out.size; omega)
        have HNEXT : Hid (N5 = min (i + 1) gone - min i gone ∧ (ts m5).Perm (WL gone (i + 1)) ∧ nx5 0 = min (i + 1) gone ∧ nx5 1 = 0) := Lib.hid (by
          have hlen := HP.out.len
          have hlm : ms5.length = (ms5.map (·.m)).length := by simp
          rcases Nat.lt_or_ge i gone with h3 | h3
          · have hw0 : ts m = [] := by
              have h4 := hW.out
              rw [show WL gone i = [] by unfold WL; rw [show i - (gone + 1) = 0 by omega]; rfl] at h4
              exact List.perm_nil.1 h4
            obtain ⟨a1, a2, a3⟩ := turns_one HP.out.turns hka (by rw [hN.out.1]; omega) (by rw [hw0]; simp)
            refine ⟨by rw [hlen, hlm, a1]; simp; omega, ?_, ?_, ?_⟩
            · rw [hw0] at a2
              rw [show WL gone (i + 1) = [] by unfold WL; rw [show i + 1 - (gone + 1) = 0 by omega]; rfl]
              exact a2
            · rw [a3]; unfold Fg.upd; rw [if_pos rfl, hN.out.1]; omega
            · rw [a3]; unfold Fg.upd; rw [if_neg (by omega)]; exact hN.out.2.1
          · obtain ⟨a1, a2, a3⟩ := turns_wait HP.out.turns hka (by rw [hN.out.1]; omega) (fun y hy e => by
              obtain ⟨j, j1, j2, rfl⟩ := wl_mem.1 (hW.out.mem_iff.1 hy)
              have e2 := e.2
              rw [hN.out.1] at e2
              have e3 : (lw j).2.1 = j := rfl
              rw [e3] at e2
              omega)
            refine ⟨by rw [hlen, hlm, a1]; simp; omega, ?_, ?_, ?_⟩
            · rw [wl_succ (show gone < i by omega)]
              refine a2.trans ((List.perm_append_singleton (lw i) (WL gone i)).symm.trans (List.Perm.refl _) |> fun h => ?_)
              exact ((hW.out.cons (lw i)).trans h)
            · rw [a3, hN.out.1]; omega
            · rw [a3]; exact hN.out.2.1)
        have HU5 := Lib.hid hu5
        have HF5 := Lib.hid hf5
        have HB5 := Lib.hid HP.out.bx
        have HL5 := HP.out.le
        have HT5 := Lib.hid HP.out.lt
        clear hka hu5 hf5 HP NB NU hB2
        have hN5 : N5 ≤ 1 := by have := HNEXT.out.1; omega
        have hmi : min i gone ≤ 10 := by omega
        generalize hmm : min i gone = mi at hmi HNEXT ⊢
        have HMI := Lib.hid hmm
        clear hmm
        go_wp2_with fail
        go_roundw
        case rel => exact ⟨i + 1, p1, p2, p3, m5, nx5, by go_num, by have h3 := HNEXT.out.1; have h4 := HMI.out; congr 1; omega, by omega, by omega, HB5, HF5, HU5, Lib.hid HNEXT.out.2.1, Lib.hid ⟨HNEXT.out.2.2.1, HNEXT.out.2.2.2, HT5.out⟩⟩
        case measure => simp [intOf]; omega
    · obtain rfl : i = k := by omega
      have hmin : min i gone = gone := by omega
      rw [hmin] at hN ⊢
      have d1 : decide ((i : Int) < (i : Int)) = false := by simp
      have d2 : ((gone : Int) != (gone : Int)) = false := by simp
      have hAl := HA.out.len
      have HAL := Lib.hid hAl
      clear hmin hAl hlt
      go_upto_region 17 with (fail)
      go_cut [71] (fun v wx => v = .bool (decide (0 < n ∧ n ≤ 256)) ∧ wx = wr)
      case first =>
        by_cases h5 : 0 < n
        · have d5 : decide ((0 : Int) < (n : Int)) = true := by simp; omega
          go_wp2_with fail
          go_meet
          exact ⟨by congr 1; rw [Bool.eq_iff_iff]; simp; omega, rfl⟩
        · have d5 : decide ((0 : Int) < (n : Int)) = false := by simp; omega
          go_wp2_with fail
          go_meet
          exact ⟨by congr 1; rw [Bool.eq_iff_iff]; simp; omega, rfl⟩
      case rest =>
        obtain ⟨rfl, rfl⟩ := hcut
        generalize hbb : decide (0 < n ∧ n ≤ 256) = bb
        have HBB := Lib.hid hbb
        clear hbb
        go_upto_if 71 with (fail)
        go_cut [] (fun wx => ∃ (q1 q2 q3 : Option Nat) (m : List LtB) (nx : Nat → Nat), m.length ≤ 20 ∧ Hid (BX 0 wx b q1 q2 q3 [] m nx) ∧ Hid (From w.heap.size (BS b q1 q2 q3)) ∧ Hid (Up w wx) ∧ Hid ((ts m).Perm (WL gone i)) ∧ Hid (nx 0 = gone ∧ ∀ s, nx s < 65536))
        case first =>
          cases bb with
          | false =>
            go_wp2_with fail
            go_meet
            exact ⟨q1, q2, q3, m, nx, by omega, hB, hF, hU, hW, Lib.hid ⟨hN.out.1, hN.out.2.2⟩⟩
          | true =>
            have hnn : 0 < n ∧ n ≤ 256 := by have := HBB.out; simpa using this
            obtain ⟨hn0, hn1⟩ := hnn
            go_upto_region 18 with (fail)
            have HAW := Lib.hid (HA.out.up hU.out)
            go_wp2_with (at_builtin; refine wpList_appendI rfl (.tmp 74) (.tmp 75) 30 rfl .u8 wc.heap.size 5 1 Try.underlying30 info5 (some ⟨wc.heap.size, 0, none⟩) 0 0 [] rfl (ownI_new _ _ _) A n c bs rfl HAW.out.len (HAW.out.cells.alloc _) (by omega) (by omega) (by simp) ((Below.refl _ _).alloc (Nat.le_refl _) _) ?_; intro A6 N6 c6 w6 HN6 HW6 HB6 hsz6)
            have hN6 : N6 = n := by have := HN6.out; omega
            subst hN6
            have HB7 := Lib.hid (hB.out.up HB6.out)
            have HI7 := Lib.hid (own_inB (by have h := HW6.out; rw [List.nil_append] at h; exact h) HA.out.byt)
            have HU7 := Lib.hid (hU.out.trans HB6.out)
            refine (put_one 0 b 500 1 0 N6 c6 A6 bs q1 q2 q3 m nx w6 HB7.out HI7.out (by omega) hn1 (by omega) (by omega) (by omega) hN.out.2.2 (by omega) (by omega)).mono ?_
            rintro e w8 ⟨A8, N8, c8, ms8, p1, p2, p3, m8, nx8, rfl, HP⟩
            have hka := hB.out.ok.1.wait
            obtain ⟨a1, a2, a3⟩ := turns_one HP.out.turns hka hN.out.2.1 (fun y hy e => by
              obtain ⟨j, j1, j2, rfl⟩ := wl_mem.1 (hW.out.mem_iff.1 hy)
              have : (0 : Nat) = 1 := e
              omega)
            obtain ⟨z, rfl, hz⟩ : ∃ z, ms8 = [z] ∧ z.m = (1, bs) := by
              cases ms8 with
              | nil => simp at a1
              | cons z l =>
                cases l with
                | nil => simp at a1; exact ⟨z, rfl, a1⟩
                | cons _ _ => simp at a1
            have hN8 : N8 = 1 := HP.out.len
            subst hN8
            obtain ⟨g8, rfl⟩ := row_at HP.out.row (by omega)
            have k1 : w8.cell? ⟨g8, 1, none⟩ = some (.slice z.A N6 z.c) := by
              have := row_cell HP.out.row (j := 1) (v := .slice z.A z.m.2.length z.c) rfl
              rw [this, hz, HAL.out]
            have HZB : Hid (InB w8 z.A N6 z.c bs) := Lib.hid (by
              obtain ⟨h6, h7, _⟩ := HP.out.by_ z (by simp)
              rw [hz] at h6 h7
              have h8 := own_inB h6 h7
              rw [HAL.out] at h8
              exact h8)
            have hsz : w.heap.size ≤ w6.heap.size := HU7.out.size
            have HU8 : Hid (Up w w8) := Lib.hid (Below.out HU7.out HP.out.out hF.out hsz)
            have HF8 : Hid (From w.heap.size (BS b p1 p2 p3)) := Lib.hid (hF.out.sub HP.out.sub hsz)
            have HB8 := Lib.hid HP.out.bx
            have hle8 := HP.out.le
            have HW8 : Hid ((ts m8).Perm (WL gone i)) := Lib.hid (a2.trans hW.out)
            have HN8 : Hid (nx8 0 = gone ∧ ∀ s, nx8 s < 65536) := Lib.hid ⟨by rw [a3]; unfold Fg.upd; rw [if_neg (by omega)]; exact hN.out.1, HP.out.lt⟩
            have HA8 := Lib.hid (HA.out.up HU8.out)
            have v1 := fun j => conv_up HZB.out (up_drewN w8 j)
            have v2 := fun j => conv_up HA8.out (up_drewN w8 j)
            have hes : ((strOfNums bs).toList == (strOfNums bs).toList) = true := by simp
            clear hka a1 a2 a3 hz HP HB7 HI7 HU7 HW6 HB6 HN6 hsz6
            go_upto_region 19 with (fail)
            go_quiet (fail)
            have HU9 := Lib.hid (HU8.out.trans (up_drewN w8 nq))
            have HB9 := Lib.hid (HB8.out.up (up_drewN w8 nq))
            go_wp2_with fail
            go_meet
            exact ⟨p1, p2, p3, m8, nx8, by omega, HB9, HF8, HU9, HW8, HN8⟩
        case rest =>
          clear hB hF hU hW hN
          obtain ⟨q1, q2, q3, m, nx, hml, hB, hF, hU, hW, hN⟩ := hcut
          have hgi : gone < 10 := by omega
          have NB := Lib.hid (inB_blk (xs := [(gone : Int)]) (new_at wc (.cells #[.int .u8 (gone : Int)] 5)) (by intro x hx; simp at hx; omega))
          have NU := Lib.hid (up_alloc wc (.cells #[.int .u8 (gone : Int)] 5))
          have hB2 := Lib.hid (hB.out.up NU.out)
          go_wp2_with fail
          refine (put_one 0 b gone 0 gone 1 1 (some ⟨wc.heap.size, 0, none⟩) [(gone : Int)] q1 q2 q3 m nx (wc.alloc (.cells #[.int .u8 (gone : Int)] 5)) hB2.out NB.out (by omega) (by omega) (by omega) (by omega) (by omega) hN.out.2 (by omega) (by omega)).mono ?_
          rintro e w5 ⟨A5, N5, c5, ms5, p1, p2, p3, m5, nx5, rfl, HP⟩
          have hms := turns_gone hW.out hgk (by omega) hN.out.1 HP.out.turns
          have hN5 : N5 = i - gone := by
            rw [HP.out.len]
            have := congrArg List.length hms
            simpa using this
          have hu5 : Up w w5 := Below.out (hU.out.trans NU.out) HP.out.out hF.out (by have := hU.out.size; have := NU.out.size; omega)
          have HU5 := Lib.hid hu5
          have HMS := Lib.hid hms
          have HROW := Lib.hid HP.out.row
          have HBY := Lib.hid HP.out.by_
          have HLEN := Lib.hid HP.out.len
          clear hms hu5 HP NB NU hB2 hB hF hU hW hN
          have d3 : ((N5 : Int) != (i : Int) - (gone : Int)) = false := by simp; omega
          have HN5 := Lib.hid hN5
          have hN10 : N5 ≤ 10 := by omega
          clear hN5
          go_wp2_with fail
          go_loopw [18] (fun jv wr => ∃ j : Nat, j ≤ N5 ∧ jv = .int .i64 (j : Int) ∧ Hid (Up w5 wr)) (fun jv _ => N5 - (intOf jv).toNat)
          case atStart => exact ⟨0, by omega, rfl, Lib.hid (Up.refl _)⟩
          case round =>
            obtain ⟨j, hj, rfl, hU⟩ := hrel
            by_cases hjl : j < N5
            · have d4 : decide ((j : Int) < (N5 : Int)) = true := by simp; omega
              obtain ⟨z, hz⟩ : ∃ z, ms5[j]? = some z := ⟨_, List.getElem?_eq_getElem (by have := HLEN.out; omega)⟩
              have hzm : z.m = (0, [((gone : Int) + (j : Int))]) := by
                have h3 : (ms5.map (·.m))[j]? = some z.m := by rw [List.getElem?_map, hz]; rfl
                rw [HMS.out, List.getElem?_map, List.getElem?_range' (by have := HN5.out; omega)] at h3
                have h4 := Option.some.inj h3
                rw [← h4]; simp
              obtain ⟨g, rfl⟩ := row_at HROW.out (by omega)
              have k0 : w5.cell? ⟨g, j * 2 + 1, none⟩ = some (.slice z.A 1 z.c) := by
                have h3 := row_cell HROW.out (rowG_at mc 2 mc_len hz (j := 1) rfl)
                rw [h3, hzm]; rfl
              have k1 := cell_up k0 hU.out
              have HZB : Hid (InB wr z.A 1 z.c [((gone : Int) + (j : Int))]) := Lib.hid (by
                obtain ⟨h6, h7, _⟩ := HBY.out z (List.mem_of_getElem? hz)
                rw [hzm] at h6 h7
                exact (own_inB h6 h7).up hU.out)
              have NB := Lib.hid (inB_blk (xs := [((gone : Int) + (j : Int))]) (new_at wr (.cells #[.int .u8 ((gone : Int) + (j : Int))] 5)) HZB.out.byt)
              have NU := Lib.hid (up_alloc wr (.cells #[.int .u8 ((gone : Int) + (j : Int))] 5))
              have v1 : (convert 30 9 (.slice z.A 1 z.c)).run Try.prog wr.drew = .ok (.string (strOfNums [((gone : Int) + (j : Int))])) wr.drew := conv_up HZB.out (Up.drew wr)
              have v2 : (convert 30 9 (.slice z.A 1 z.c)).run Try.prog (wr.alloc (.cells #[.int .u8 ((gone : Int) + (j : Int))] 5)).drew = .ok (.string (strOfNums [((gone : Int) + (j : Int))])) (wr.alloc (.cells #[.int .u8 ((gone : Int) + (j : Int))] 5)).drew := conv_up HZB.out (NU.out.trans (Up.drew _))
              have v3 : (convert 30 9 (.slice (some ⟨wr.heap.size, 0, none⟩) 1 1)).run Try.prog (wr.alloc (.cells #[.int .u8 ((gone : Int) + (j : Int))] 5)).drew = .ok (.string (strOfNums [((gone : Int) + (j : Int))])) (wr.alloc (.cells #[.int .u8 ((gone : Int) + (j : Int))] 5)).drew := conv_up NB.out (Up.drew _)
              have k1' : (wr.alloc (.cells #[.int .u8 ((gone : Int) + (j : Int))] 5)).drew.cell? ⟨g, j * 2 + 1, none⟩ = some (.slice z.A 1 z.c) := cell_up k1 (NU.out.trans (Up.drew _))
              have hes : ((strOfNums [((gone : Int) + (j : Int))]).toList == (strOfNums [((gone : Int) + (j : Int))]).toList) = true := by simp
              have hjN : (j : Int) < (N5 : Int) := by omega
              clear hz hzm k0
              go_upto_region 27 with (fail)
              go_region
              all_goals
                go_wp2_with fail
                go_roundw
                case rel => exact ⟨j + 1, by omega, by go_num, Lib.hid (hU.out.trans (NU.out.trans (Up.drew _)))⟩
                case measure => simp [intOf]; omega
            · obtain rfl : j = N5 := by omega
              have d4 : decide ((j : Int) < (j : Int)) = false := by simp
              go_wp2_with fail
              go_ret
              exact ⟨rfl, Lib.hid (HU5.out.trans hU.out)⟩
end Go.Proofs.Ytgcabidhpnaoiaa
