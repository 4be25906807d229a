import Derived.Test.YtdlehchofmdjbaaSqF
namespace Go.Proofs.Ytdlehchofmdjbaa
open Go Go.RowKit Sq
set_option linter.unusedVariables false
set_option linter.unusedSimpArgs false
/-! SendqFast. -/
set_option maxRecDepth 100000 in
set_option maxHeartbeats 4000000 in
theorem law_fast {IsQ : (Nat → Prop) → World → Addr → QS → Prop} (C : QC IsQ) (f n gone : Nat) (w : World) (hf : f < 4294967296) (hn : n ≤ 255) (hg : gone ≤ 255) :
    Calls Try.prog 3 #[.int .u32 (f : Int), .int .u8 (n : Int), .int .u8 (gone : Int)] w (RetB true w) := by
  obtain ⟨k, hk⟩ : ∃ k, k = n % 20 + 5 := ⟨_, rfl⟩
  obtain ⟨m, hm⟩ : ∃ m, m = gone % (k - 4) := ⟨_, rfl⟩
  have hk1 : 5 ≤ k ∧ k ≤ 24 := by omega
  have hm1 : m + 5 ≤ k := by have := Nat.mod_lt gone (show 0 < k - 4 by omega); omega
  have e1 : (n : Int) % 20 + 5 = (k : Int) := by omega
  have e2 : (gone : Int) % ((k : Int) - 4) = (m : Int) := by
    rw [hm]
    rw [show (k : Int) - 4 = ((k - 4 : Nat) : Int) by omega]
    exact (Int.natCast_emod gone (k - 4)).symm
  have E1 := Lib.hid e1
  have E2 := Lib.hid e2
  clear e1 e2 hk hm
  obtain ⟨hk1, hk2⟩ := hk1
  go_enter Try.func3, Try.ntmps3
  go_wp2_with fail
  refine (C.new f w hf).mono ?_
  rintro e w1 ⟨p, S, rfl, HQ, HF, HU⟩
  go_upto_region 3 with (fail)
  rw [E1.out]
  go_upto_region 4 with (fail)
  rw [E2.out]
  go_wp2_with fail
  refine (answers_ok C w1).mono ?_
  rintro e w2 ⟨rfl, HU2⟩
  have HQ2 := Lib.hid (C.up HQ.out HU2.out)
  have HV := Lib.hid (HU.out.trans HU2.out)
  clear HQ HU HU2
  go_wp2_with fail
  go_loopw [10] (fun iv wr => ∃ (i : Nat) (S : Nat → Prop) (Q : QS), iv = .int .i64 (i : Int) ∧ i ≤ k ∧ Hid (IsQ S wr p Q) ∧ Hid (Q.nx = (f + i) % 4294967296) ∧ Hid (Q.l.length = i) ∧ Hid (Plain f Q.l) ∧ Hid (From w.heap.size S) ∧ Hid (Up w wr)) (fun iv _ => k - (intOf iv).toNat)
  case atStart => exact ⟨0, S, ⟨f, []⟩, rfl, by omega, HQ2, Lib.hid (by show f = _; omega), Lib.hid rfl, Lib.hid (plain_nil f), HF, HV⟩
  case round =>
    clear HQ2 HF HV
    obtain ⟨i, S, Q, rfl, hi, HQ, HN, HL, HP, HF, HV⟩ := hrel
    by_cases hlt : i < k
    · have d1 : decide ((i : Int) < (k : Int)) = true := by simp; omega
      have HB := Lib.hid (new_at wr (.cells #[.int .u8 7] 5))
      have HQ1 := Lib.hid (isq_alloc C HQ.out (.cells #[.int .u8 7] 5))
      have HV1 := Lib.hid (HV.out.trans (up_alloc wr (.cells #[.int .u8 7] 5)))
      go_wp2_with fail
      generalize wr.alloc (.cells #[.int .u8 7] 5) = w3 at HB HQ1 HV1 ⊢
      generalize wr.heap.size = g at HB ⊢
      refine (push1 C S p Q g 7 w3 HQ1.out HB.out (by omega) (by rw [HL.out]; omega)).mono ?_
      rintro e w4 ⟨S4, rfl, HQ4, HS4, HO4⟩
      have HV4 := Lib.hid (up_far HV1.out HO4.out HF.out)
      have HF4 := Lib.hid (HF.out.sub HS4.out HV1.out.size)
      clear HB HQ1 HV HV1 HF HS4 HO4
      go_wp2_with fail
      have hpk : pick (push Q (pb [7])).l = some i := by have := plain_pick HP.out (pb [7]) Q.nx; rw [HL.out] at this; exact this
      refine (C.next S4 p (push Q (pb [7])) i (fresh (pb [7]) Q.nx) 0 w4 HQ4.out hpk (by show (Q.l ++ [_])[i]? = _; rw [← HL.out]; simp)).mono ?_
      rintro e w5 ⟨S5, A5, n5, c5, rfl, _, _, _, HQ5, HS5, HO5⟩
      have HV5 := Lib.hid (up_far HV4.out HO5.out HF4.out)
      have HF5 := Lib.hid (HF4.out.sub HS5.out HV4.out.size)
      have HN5 : Hid ((sent (push Q (pb [7])) i 0).nx = (f + (i + 1)) % 4294967296) := Lib.hid (by show (Q.nx + 1) % 4294967296 = _; rw [HN.out]; omega)
      have HL5 : Hid ((sent (push Q (pb [7])) i 0).l.length = i + 1) := Lib.hid (by show ((push Q (pb [7])).l.modify i _).length = _; rw [modify_len, len_push, HL.out])
      have HP5 : Hid (Plain f (sent (push Q (pb [7])) i 0).l) := Lib.hid (by have := plain_next HP.out (pb [7]) Q.nx (by rw [HN.out, HL.out]); rw [HL.out] at this; exact this)
      clear HQ HN HL HP HQ4 HV4 HF4 HS5 HO5 hpk
      go_wp2_with fail
      go_roundw
      case rel => exact ⟨i + 1, S5, _, by go_num, by omega, HQ5, HN5, HL5, HP5, HF5, HV5⟩
      case measure => simp [intOf]; omega
    · obtain rfl : i = k := by omega
      have d1 : decide ((i : Int) < (i : Int)) = false := by simp
      obtain ⟨cu, hcu⟩ : ∃ cu, cu = (f + m + 4294967295) % 4294967296 := ⟨_, rfl⟩
      have he : (((f : Int) + (m : Int)) % 4294967296 - 1) % 4294967296 = (cu : Int) := by omega
      have hcl : cu < 4294967296 := by omega
      have HE := Lib.hid he
      have HM : Hid (Mid m 0 ((f + m) % 4294967296) Q.l) := Lib.hid (plain_mid HP.out (by rw [HL.out]; exact hm1))
      have HD : Hid (done Q cu = m) := Lib.hid (by unfold done cum; rw [HN.out, HL.out, hcu]; omega)
      clear he hcu
      go_upto_region 12 with (fail)
      rw [HE.out]
      go_wp2_with fail
      clear HE HP HL HN
      go_loopw [12] (fun iv wr => ∃ (t d : Nat) (S : Nat → Prop) (Q : QS), iv = .int .i64 ((t : Int) + 1) ∧ t ≤ 3 ∧ (t = 3 → d = 0) ∧ Hid (IsQ S wr p Q) ∧ Hid (Mid d t ((f + m) % 4294967296) Q.l) ∧ Hid (done Q cu = d) ∧ Hid (From w.heap.size S) ∧ Hid (Up w wr)) (fun iv _ => 4 - (intOf iv).toNat)
      case atStart => exact ⟨0, m, S, Q, by go_num, by omega, by omega, HQ, HM, HD, HF, HV⟩
      case round =>
        clear HQ HM HD HF HV
        obtain ⟨t, d, S, Q, rfl, ht, htd, HQ, HM, HD, HF, HV⟩ := hrel
        by_cases hlt : t < 3
        · have d2 : decide ((t : Int) + 1 ≤ 3) = true := by simp; omega
          have HB := Lib.hid (new_at wr (.cells #[.int .u16 2, .int .u16 ((t : Int) + 1 + 1)] 39))
          have HQ1 := Lib.hid (isq_alloc C HQ.out (.cells #[.int .u16 2, .int .u16 ((t : Int) + 1 + 1)] 39))
          have HV1 := Lib.hid (HV.out.trans (up_alloc wr (.cells #[.int .u16 2, .int .u16 ((t : Int) + 1 + 1)] 39)))
          go_wp2_with fail
          generalize wr.alloc (.cells #[.int .u16 2, .int .u16 ((t : Int) + 1 + 1)] 39) = w3 at HB HQ1 HV1 ⊢
          obtain ⟨g, hg⟩ : ∃ g, g = wr.heap.size := ⟨_, rfl⟩
          rw [← hg] at HB ⊢
          have HGW := Lib.hid hg
          clear hg
          refine (C.heard S p Q cu 0 (some ⟨g, 0, none⟩) none 1 1 0 0 [(2, t + 1 + 1)] w3 HQ1.out ⟨fun _ => ⟨g, 0, rfl, lt_of_blk HB.out, fun j u hu => by
            rw [Nat.zero_add]
            exact cell_of HB.out (by
              have e4 : (((t + 1 + 1 : Nat)) : Int) = (t : Int) + 1 + 1 := by omega
              simp only [List.flatMap_cons, List.flatMap_nil, List.append_nil, gcl] at hu
              rw [e4] at hu
              simpa using hu)⟩, rfl, Nat.le_refl _, by simp; omega⟩ (fun k hk hS => by
                have e : g = k := by injection hk
                have h1 := C.lt HQ.out k hS
                have h2 := HGW.out
                omega) hcl (by simp [apart]) (by simp) (by rw [HD.out, mid_out HM.out]; have := HM.out.2; omega)).mono ?_
          rintro e w5 ⟨S5, A5, n5, c5, B5, m5, k5, rfl, _, hm5, _, HQ5, HS5, HO5⟩
          rw [HD.out] at hm5 HQ5
          have hfl := fast_ps HM.out hlt
          have hm6 : m5 = if t = 2 then 1 else 0 := by
            obtain ⟨pp, hpp⟩ := hfl
            rw [hm5.out, hpp]
            split
            · simp [Lib.compact, Lib.compactUpTo, Lib.keeps]
            · simp [Lib.compact, Lib.compactUpTo]
          have HV5 := Lib.hid (up_far HV1.out HO5.out HF.out)
          have HF5 := Lib.hid (HF.out.sub HS5.out HV1.out.size)
          have HM5 : Hid (Mid 0 (t + 1) ((f + m) % 4294967296) (heard Q d [(2, t + 1 + 1)]).l) := Lib.hid (mid_step HM.out hlt HM.out.2)
          have HD5 : Hid (done (heard Q d [(2, t + 1 + 1)]) cu = 0) := Lib.hid (done_heard (C.ok HQ.out).2 hcl HD.out (by have := HM.out.2; omega) (C.ok HQ.out).1)
          have t3 : (((t : Int) + 1) == 3) = decide (t = 2) := by rw [Bool.eq_iff_iff]; simp; omega
          have t4 : ((m5 : Int) == 1) = decide (t = 2) := by rw [Bool.eq_iff_iff, hm6]; split <;> simp_all
          have ht2 : t = 2 ∨ t ≠ 2 := by omega
          clear hm5 hfl hm6 HQ HM HD HF HV HB HQ1 HV1 HS5 HO5
          generalize heard Q d [(2, t + 1 + 1)] = Q5 at HQ5 HM5 HD5
          rcases ht2 with h2 | h2
          · rw [decide_eq_true h2] at t3 t4
            go_wp2_with fail
            go_roundw
            case rel => exact ⟨t + 1, 0, S5, Q5, by go_num, by omega, fun _ => rfl, HQ5, HM5, HD5, HF5, HV5⟩
            case measure => simp [intOf]; omega
          · rw [decide_eq_false h2] at t3 t4
            go_wp2_with fail
            go_roundw
            case rel => exact ⟨t + 1, 0, S5, Q5, by go_num, by omega, fun _ => rfl, HQ5, HM5, HD5, HF5, HV5⟩
            case measure => simp [intOf]; omega
        · obtain rfl : t = 3 := by omega
          obtain rfl := htd rfl
          have d2 : decide (((3 : Nat) : Int) + 1 ≤ 3) = false := by simp
          obtain ⟨x, b, hl, hx1, hx2, hx3, hx4⟩ := mid_pick HM.out (t := 0)
          have HL := Lib.hid hl
          have HX := Lib.hid (And.intro hx1 (And.intro hx2 (And.intro hx3 hx4)))
          clear hl hx1 hx2 hx3 hx4
          go_wp2_with fail
          refine (C.next S p Q 0 x 1 wr HQ.out (by rw [HL.out]; exact pick_mark HX.out.1) (by rw [HL.out]; rfl)).mono ?_
          rintro e w5 ⟨S5, A5, n5, c5, rfl, _, _, _, HQ5, HS5, HO5⟩
          have HV5 := Lib.hid (up_far HV.out HO5.out HF.out)
          have HF5 := Lib.hid (HF.out.sub HS5.out HV.out.size)
          have HPN : Hid (pick (sent Q 0 1).l = none) := Lib.hid (by
            show pick (Q.l.modify 0 (go 1)) = none
            rw [HL.out]
            show pick (go 1 x :: b) = none
            refine pick_none (fun y hy => ?_) (fun y hy => ?_)
            · rcases List.mem_cons.1 hy with h | h
              · rw [h]; rfl
              · exact (HX.out.2.2.1 y h).2
            · rcases List.mem_cons.1 hy with h | h
              · rw [h]; rfl
              · exact (HX.out.2.2.1 y h).1)
          have htsn : (x.p.tsn : Int) = ((f : Int) + (m : Int)) % 4294967296 := by rw [HX.out.2.1]; omega
          have t5 : ((x.p.tsn : Int) == ((f : Int) + (m : Int)) % 4294967296) = true := by simp [htsn]
          clear HS5 HO5 HV HF htsn
          unfold pcv
          go_upto_region 19 with (fail)
          have hn5 := new_at w5 (.cells #[.int .u32 (x.p.tsn : Int), .int .u16 (x.p.st : Int), .int .u16 (x.p.sq : Int), .bool x.p.bg, .bool x.p.en, .bool x.p.un, .slice A5 n5 c5] 32)
          have HN5 := Lib.hid hn5
          have HQ6 := Lib.hid (isq_alloc C HQ5.out (.cells #[.int .u32 (x.p.tsn : Int), .int .u16 (x.p.st : Int), .int .u16 (x.p.sq : Int), .bool x.p.bg, .bool x.p.en, .bool x.p.un, .slice A5 n5 c5] 32))
          have HV6 := Lib.hid (HV5.out.trans (up_alloc w5 (.cells #[.int .u32 (x.p.tsn : Int), .int .u16 (x.p.st : Int), .int .u16 (x.p.sq : Int), .bool x.p.bg, .bool x.p.en, .bool x.p.un, .slice A5 n5 c5] 32)))
          have HG6 : Hid (∀ q, S5 q → q < w5.heap.size) := Lib.hid (C.lt HQ5.out)
          clear hn5
          generalize w5.alloc (.cells #[.int .u32 (x.p.tsn : Int), .int .u16 (x.p.st : Int), .int .u16 (x.p.sq : Int), .bool x.p.bg, .bool x.p.en, .bool x.p.un, .slice A5 n5 c5] 32) = w6 at HN5 HQ6 HV6 ⊢
          generalize w5.heap.size = g at HN5 HG6 ⊢
          go_wp2_with fail
          refine (C.none_ S5 p _ 1 w6 HQ6.out HPN.out).mono ?_
          rintro e w7 ⟨S7, rfl, HQ7, HS7, HO7⟩
          have k0 : w7.cell? ⟨g, 0, none⟩ = some (.int .u32 (x.p.tsn : Int)) := cell_of (HO7.out.blk HN5.out (fun h => absurd (HG6.out g h) (Nat.lt_irrefl g))) rfl
          have k1 : (w7.alloc (.cells #[.int .u32 0, .int .u16 0, .int .u16 0, .bool false, .bool false, .bool false, .slice none 0 0] 32)).cell? ⟨g, 0, none⟩ = some (.int .u32 (x.p.tsn : Int)) := cell_up k0 (up_alloc _ _)
          have HV7 := Lib.hid (up_far HV6.out HO7.out HF5.out)
          clear k0
          clear HS7 HO7 HV6 HV5 HF5 HN5
          go_wp2_with fail
          go_ret
          exact ⟨rfl, Lib.hid (HV7.out.trans (up_alloc _ _))⟩
end Go.Proofs.Ytdlehchofmdjbaa
