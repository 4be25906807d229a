import Derived.Test.YtgikgcepeniekaaCk46
import Derived.Test.YtgikgcepeniekaaCk20
namespace Go.Proofs.Ytgikgcepeniekaa
open Go Go.RowKit
set_option linter.unusedVariables false
set_option linter.unusedSimpArgs false
/-! The law ChunkActions. -/
theorem helRes_ty {ty fl : Int} {xs : List Int} {h : Ck.Hel} (a : HelRes ty fl xs h 0) : ty = 1 ∨ ty = 2 := by
  rcases a with ⟨-, ack, b⟩ | ⟨b, -⟩
  · have := b.1; cases ack
    · exact .inl this
    · exact .inr this
  · exact absurd b (by decide)
theorem pcRes_ty {ty fl : Int} {xs : List Int} {h : Ck.Pc} (a : PcRes ty fl xs h 0) : ty = 0 := by
  rcases a with ⟨-, b⟩ | ⟨b, -⟩
  · exact b.1
  · exact absurd b (by decide)
theorem hdRes_ty {ty fl : Int} {xs : List Int} {h : Ck.Hrd} (a : HdRes ty fl xs h 0) : ty = 3 := by
  rcases a with ⟨-, b⟩ | ⟨b, -⟩
  · exact b.1
  · exact absurd b (by decide)
set_option maxRecDepth 1000000 in
set_option maxHeartbeats 8000000 in
theorem law_actions (k : Nat) (hk : k < 256) (x : ChB) (w : World) (hx : ChIn w x) (b1 b2 : Bool) (h1 : decide (128 ≤ k) = b1) (h2 : decide (k / 64 % 2 = 1) = b2) : Calls Try.prog 9 #[.int .u8 (k : Int), chV x.ty x.fl (.slice x.A x.n x.c)] w (RetB true w) := by
  have HX := Lib.hid hx
  have HCB := Lib.hid (new_at w (.cells #[.int .u8 x.ty, .int .u8 x.fl, .slice x.A x.n x.c] 41))
  have HU := Lib.hid (up_alloc w (.cells #[.int .u8 x.ty, .int .u8 x.fl, .slice x.A x.n x.c] 41))
  have d1 : decide (128 ≤ (k : Int)) = b1 := by rw [← h1]; congr 1; apply propext; omega
  have d2 : ((k : Int) / 64 % 2 == 1) = b2 := by rw [← h2]; rw [Bool.eq_iff_iff, beq_iff_eq, decide_eq_true_iff]; omega
  have H1 := Lib.hid h1
  have H2 := Lib.hid h2
  have D1 := Lib.hid d1
  have D2 := Lib.hid d2
  clear hx h1 h2 d1 d2
  unfold chV
  go_enter Try.func9, Try.ntmps9
  go_upto_region 1 with (fail)
  generalize w.alloc (.cells #[.int .u8 x.ty, .int .u8 x.fl, .slice x.A x.n x.c] 41) = w0 at HCB HU ⊢
  generalize w.heap.size = b at HCB ⊢
  go_wp2_with fail
  refine (action_any k hk w0).mono ?_
  rintro e w1 ⟨rfl, hu⟩
  rw [H1.out, H2.out]
  have U1 := Lib.hid (HU.out.trans hu.out)
  have C1 := Lib.hid ((hu.out.block _ (lt_of_blk HCB.out)).trans HCB.out)
  clear hu
  have m0 := cell_of C1.out (j := 0) rfl
  have m1 := cell_of C1.out (j := 1) rfl
  have m2 := cell_of C1.out (j := 2) rfl
  have hn := new_at w1 (.cells #[.int .u8 x.ty, .int .u8 x.fl, .slice x.A x.n x.c] 41)
  have hua := up_alloc w1 (.cells #[.int .u8 x.ty, .int .u8 x.fl, .slice x.A x.n x.c] 41)
  have HN := Lib.hid hn
  have HUA := Lib.hid hua
  clear hn hua
  go_wp2_with fail
  refine (own1 x w1.heap.size _ (HX.out.up (U1.out.trans HUA.out)) HN.out).mono ?_
  rintro e y1 ⟨q1, c1', A1, n1, c1, rfl, hcs, hib, hnn, huo⟩
  have j0 := hcs.out.1
  have j1 := hcs.out.2.1
  have j2 := hcs.out.2.2
  have V1 := Lib.hid ((U1.out.trans HUA.out).trans huo.out)
  have E1 := Lib.hid (((HUA.out.trans huo.out).block _ (lt_of_blk C1.out)).trans C1.out)
  clear m0 m1 m2 HN HUA huo hcs
  go_wp2_with fail
  refine (toH_any A1 n1 c1 x.ty x.fl x.bs y1 hib.out hnn.out).mono ?_
  rintro e z1 ⟨h1, k1, B1, m1, d1, rfl, hr1, -, -, -, -, huz⟩
  have P1 := Lib.hid (V1.out.trans huz.out)
  have F1 := Lib.hid ((huz.out.block _ (lt_of_blk E1.out)).trans E1.out)
  clear j0 j1 j2 huz hib hnn
  unfold helV
  go_upto_region 3 with (fail)
  have U2 := Lib.hid (P1.out.trans (up_alloc z1 (.cells #[.int .u32 h1.tag, .int .u32 h1.win, .int .u16 h1.out, .int .u16 h1.inn, .int .u32 h1.tsn, .slice B1 m1 d1] 39)))
  have C2 := Lib.hid (((up_alloc z1 (.cells #[.int .u32 h1.tag, .int .u32 h1.win, .int .u16 h1.out, .int .u16 h1.inn, .int .u32 h1.tsn, .slice B1 m1 d1] 39)).block _ (lt_of_blk F1.out)).trans F1.out)
  generalize z1.alloc (.cells #[.int .u32 h1.tag, .int .u32 h1.win, .int .u16 h1.out, .int .u16 h1.inn, .int .u32 h1.tsn, .slice B1 m1 d1] 39) = w2 at U2 C2 ⊢
  generalize z1.heap.size = pb1
  clear V1 E1 P1 F1 U1 C1
  have m0 := cell_of C2.out (j := 0) rfl
  have m1 := cell_of C2.out (j := 1) rfl
  have m2 := cell_of C2.out (j := 2) rfl
  have hn := new_at w2 (.cells #[.int .u8 x.ty, .int .u8 x.fl, .slice x.A x.n x.c] 41)
  have hua := up_alloc w2 (.cells #[.int .u8 x.ty, .int .u8 x.fl, .slice x.A x.n x.c] 41)
  have HN := Lib.hid hn
  have HUA := Lib.hid hua
  clear hn hua
  go_wp2_with fail
  refine (own1 x w2.heap.size _ (HX.out.up (U2.out.trans HUA.out)) HN.out).mono ?_
  rintro e y2 ⟨q2, c2', A2, n2, c2, rfl, hcs, hib, hnn, huo⟩
  have j0 := hcs.out.1
  have j1 := hcs.out.2.1
  have j2 := hcs.out.2.2
  have V2 := Lib.hid ((U2.out.trans HUA.out).trans huo.out)
  have E2 := Lib.hid (((HUA.out.trans huo.out).block _ (lt_of_blk C2.out)).trans C2.out)
  clear m0 m1 m2 HN HUA huo hcs
  go_wp2_with fail
  refine (toP_any A2 n2 c2 x.ty x.fl x.bs y2 hib.out hnn.out).mono ?_
  rintro e z2 ⟨h2, k2, B2, m2, d2, rfl, hr2, -, -, -, -, huz⟩
  have P2 := Lib.hid (V2.out.trans huz.out)
  have F2 := Lib.hid ((huz.out.block _ (lt_of_blk E2.out)).trans E2.out)
  clear j0 j1 j2 huz hib hnn
  unfold pcV
  go_upto_region 4 with (fail)
  have U3 := Lib.hid (P2.out.trans (up_alloc z2 (.cells #[.int .u32 h2.tsn, .int .u16 h2.str, .int .u16 h2.seq, .bool h2.bg, .bool h2.en, .bool h2.un, .slice B2 m2 d2] 50)))
  have C3 := Lib.hid (((up_alloc z2 (.cells #[.int .u32 h2.tsn, .int .u16 h2.str, .int .u16 h2.seq, .bool h2.bg, .bool h2.en, .bool h2.un, .slice B2 m2 d2] 50)).block _ (lt_of_blk F2.out)).trans F2.out)
  generalize z2.alloc (.cells #[.int .u32 h2.tsn, .int .u16 h2.str, .int .u16 h2.seq, .bool h2.bg, .bool h2.en, .bool h2.un, .slice B2 m2 d2] 50) = w3 at U3 C3 ⊢
  generalize z2.heap.size = pb2
  clear V2 E2 P2 F2 U2 C2
  have m0 := cell_of C3.out (j := 0) rfl
  have m1 := cell_of C3.out (j := 1) rfl
  have m2 := cell_of C3.out (j := 2) rfl
  have hn := new_at w3 (.cells #[.int .u8 x.ty, .int .u8 x.fl, .slice x.A x.n x.c] 41)
  have hua := up_alloc w3 (.cells #[.int .u8 x.ty, .int .u8 x.fl, .slice x.A x.n x.c] 41)
  have HN := Lib.hid hn
  have HUA := Lib.hid hua
  clear hn hua
  go_wp2_with fail
  refine (own1 x w3.heap.size _ (HX.out.up (U3.out.trans HUA.out)) HN.out).mono ?_
  rintro e y3 ⟨q3, c3', A3, n3, c3, rfl, hcs, hib, hnn, huo⟩
  have j0 := hcs.out.1
  have j1 := hcs.out.2.1
  have j2 := hcs.out.2.2
  have V3 := Lib.hid ((U3.out.trans HUA.out).trans huo.out)
  have E3 := Lib.hid (((HUA.out.trans huo.out).block _ (lt_of_blk C3.out)).trans C3.out)
  clear m0 m1 m2 HN HUA huo hcs
  go_wp2_with fail
  refine (toD_any A3 n3 c3 x.ty x.fl x.bs y3 hib.out hnn.out).mono ?_
  rintro e z3 ⟨h3, k3, B3, m3, d3, D3, o3, v3, rfl, hr3, -, -, -, -, huz⟩
  have P3 := Lib.hid (V3.out.trans huz.out)
  have F3 := Lib.hid ((huz.out.block _ (lt_of_blk E3.out)).trans E3.out)
  clear j0 j1 j2 huz hib hnn
  unfold heV
  go_upto_region 5 with (fail)
  have U4 := Lib.hid (P3.out.trans (up_alloc z3 (.cells #[.int .u32 h3.cum, .int .u32 h3.win, .slice B3 m3 d3, .slice D3 o3 v3] 59)))
  have C4 := Lib.hid (((up_alloc z3 (.cells #[.int .u32 h3.cum, .int .u32 h3.win, .slice B3 m3 d3, .slice D3 o3 v3] 59)).block _ (lt_of_blk F3.out)).trans F3.out)
  generalize z3.alloc (.cells #[.int .u32 h3.cum, .int .u32 h3.win, .slice B3 m3 d3, .slice D3 o3 v3] 59) = w4 at U4 C4 ⊢
  generalize z3.heap.size = pb3
  clear V3 E3 P3 F3 U3 C3
  have HK : Hid ((k1 = 0 ∧ k2 = 2 ∧ k3 = 2) ∨ (k1 = 2 ∧ k2 = 0 ∧ k3 = 2) ∨ (k1 = 2 ∧ k2 = 2 ∧ k3 = 0) ∨ (k1 = 2 ∧ k2 = 2 ∧ k3 = 2)) := Lib.hid (by
    have a1 : k1 = 0 ∨ k1 = 2 := hr1.out.elim (fun h => .inl h.1) (fun h => .inr h.1)
    have a2 : k2 = 0 ∨ k2 = 2 := hr2.out.elim (fun h => .inl h.1) (fun h => .inr h.1)
    have a3 : k3 = 0 ∨ k3 = 2 := hr3.out.elim (fun h => .inl h.1) (fun h => .inr h.1)
    have t1 : k1 = 0 → x.ty = 1 ∨ x.ty = 2 := fun h => helRes_ty (by have := hr1.out; rwa [h] at this)
    have t2 : k2 = 0 → x.ty = 0 := fun h => pcRes_ty (by have := hr2.out; rwa [h] at this)
    have t3 : k3 = 0 → x.ty = 3 := fun h => hdRes_ty (by have := hr3.out; rwa [h] at this)
    omega)
  clear hr1 hr2 hr3
  have d1 := D1.out
  have d2 := D2.out
  rcases HK.out with ⟨rfl, rfl, rfl⟩ | ⟨rfl, rfl, rfl⟩ | ⟨rfl, rfl, rfl⟩ | ⟨rfl, rfl, rfl⟩
  · clear HK
    cases b1 <;> cases b2
    all_goals (go_wp2_with fail; refine (answers_ok w4).mono ?_; rintro e w5 ⟨rfl, hu5⟩; have U5 := Lib.hid (U4.out.trans hu5.out); go_wp2_with fail; go_ret; exact ⟨rfl, U5⟩)
  · clear HK
    cases b1 <;> cases b2
    all_goals (go_wp2_with fail; refine (answers_ok w4).mono ?_; rintro e w5 ⟨rfl, hu5⟩; have U5 := Lib.hid (U4.out.trans hu5.out); go_wp2_with fail; go_ret; exact ⟨rfl, U5⟩)
  · clear HK
    cases b1 <;> cases b2
    all_goals (go_wp2_with fail; refine (answers_ok w4).mono ?_; rintro e w5 ⟨rfl, hu5⟩; have U5 := Lib.hid (U4.out.trans hu5.out); go_wp2_with fail; go_ret; exact ⟨rfl, U5⟩)
  · clear HK
    cases b1 <;> cases b2
    all_goals (go_wp2_with fail; refine (answers_ok w4).mono ?_; rintro e w5 ⟨rfl, hu5⟩; have U5 := Lib.hid (U4.out.trans hu5.out); go_wp2_with fail; go_ret; exact ⟨rfl, U5⟩)
end Go.Proofs.Ytgikgcepeniekaa
