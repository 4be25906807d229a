import Derived.Test.YtgcabidhpnaoiaaBx4
import Derived.Test.YtgcabidhpnaoiaaStaged
import Derived.Deep.RegionLaw
namespace Go.Proofs.Ytgcabidhpnaoiaa
open Go Go.RowKit Fg
set_option linter.unusedVariables false
set_option linter.unusedSimpArgs false
/-! The program's take. -/
namespace Fg
theorem left_filter {l : List PcB} {t i : Nat} (ht : t < 4294967296) (hi : i < 1024) (hb : ∀ y ∈ l, y.p.tsn < 4294967296) : left l t (i + 1) = (left l t i).filter fun y => decide (y.p.tsn ≠ add t i) := by
  unfold left
  rw [List.filter_filter]
  refine List.filter_congr fun y hy => ?_
  have := hb y hy
  rw [Bool.eq_iff_iff]
  simp
  unfold off add
  omega
/-- Without the piece with a TSN, its key is gone. -/
theorem plE_less {l : List PcB} (ha : Apart (ps l)) {x : PcB} (hx : x ∈ l) : (l.map plE).filter (fun y => decide (y.1 ≠ ((x.p.st, x.p.sq, x.p.un), x.p.tsn))) = (l.filter fun y => decide (y.p.tsn ≠ x.p.tsn)).map plE := by
  rw [List.filter_map]
  congr 1
  refine List.filter_congr fun y hy => ?_
  rw [Bool.eq_iff_iff]
  simp only [Function.comp, plE, decide_eq_true_eq, ne_eq, Prod.mk.injEq]
  constructor
  · intro h e
    refine h ?_
    have h2 : y.p = x.p := apart_eq ha (List.mem_map.2 ⟨y, hy, rfl⟩) (List.mem_map.2 ⟨x, hx, rfl⟩) e
    rw [h2]; simp
  · intro h e; exact h e.2
theorem tnE_less (l : List PcB) (t : Nat) (E : List EnU) (h : E.map (·.1) = l.map tnE) : (E.filter fun x => x.1 != (t : Int)).map (·.1) = (l.filter fun y => decide (y.p.tsn ≠ t)).map tnE := by
  have e1 : (E.filter fun x => x.1 != (t : Int)).map (·.1) = (E.map (·.1)).filter fun k => k != (t : Int) := by rw [List.filter_map]; rfl
  rw [e1, h, List.filter_map]
  congr 1
  refine List.filter_congr fun y hy => ?_
  rw [Bool.eq_iff_iff]
  simp [tnE]
  omega
theorem fld51_6 (a b c d e f : Value) (A : Option Addr) (n k : Nat) (w : World) : (Instr.field 51 (.agg #[a, b, c, d, e, f, .slice A n k]) 6).run Try.prog w = .ok (.slice A n k) w := by kernel_rfl
end Fg
def TakePost (base b t n : Nat) (m1 m2 m3 : Nat) (l : List PcB) (m : List LtB) (nx : Nat → Nat) (w : World) (e : Ending) (w' : World) : Prop :=
  ∃ A N c, e = .returned (.slice A N c) ∧ Hid (OwnI .u8 5 w.heap.size w' A N c (bytesOf (ps l) t n)) ∧ Hid (BX base w' b (some m1) (some m2) (some m3) (left l t n) m nx) ∧ Hid (Out (BS b (some m1) (some m2) (some m3)) w w')
set_option maxRecDepth 100000 in
set_option maxHeartbeats 4000000 in
theorem take_any (base b t n la st sq : Nat) (un : Bool) (m1 m2 m3 : Nat) (l : List PcB) (m : List LtB) (nx : Nat → Nat) (w : World) (hB : BX base w b (some m1) (some m2) (some m3) l m nx) (hW : Whole (ps l) t n) (hla : la = add t (n - 1)) (hst : st < 65536) (hsq : sq < 65536) (ha : Apart (ps l)) (hbd : ∀ y ∈ l, y.p.tsn < 4294967296) (hkd : ∀ i, i < n → ∀ y ∈ ps l, y.tsn = add t i → kdOf y = (st, sq, un)) :
    Calls Try.prog 28 #[.pointer (some ⟨b, 0, none⟩), .agg #[.int .u16 (st : Int), .int .u16 (sq : Int), .bool un], .int .u32 (t : Int), .int .u32 (la : Int)] w (TakePost base b t n m1 m2 m3 l m nx w) := by
  have HB := Lib.hid hB
  have HA := Lib.hid ha
  have HW := Lib.hid hW
  have HKD := Lib.hid hkd
  have HBD := Lib.hid hbd
  have HLA : ((la : Int) + 1) % 4294967296 = ((add t n : Nat) : Int) := by
    have h1 := hW.pos
    rw [hla]; unfold add; omega
  have hn0 := hW.pos
  have hn5 := hW.le
  have ht := hW.lt
  clear hB ha hW hla hkd hbd
  go_enter Try.func28, Try.ntmps28
  go_upto_region 2 with (fail)
  have P1 := Lib.hid (new_at w (.cells #[.int .u16 (st : Int), .int .u16 (sq : Int), .bool un] 81))
  have HU := Lib.hid (up_alloc w (.cells #[.int .u16 (st : Int), .int .u16 (sq : Int), .bool un] 81))
  generalize w.alloc (.cells #[.int .u16 (st : Int), .int .u16 (sq : Int), .bool un] 81) = W at P1 HU ⊢
  generalize hqq : w.heap.size = q at P1 ⊢
  have HB1 := Lib.hid (HB.out.up HU.out)
  have MM1 : Hid (Maps W m1 m2 m3 l m) := Lib.hid (by
        rcases HB1.out.maps with ⟨e, _⟩ | ⟨n1, n2, n3, e1, e2, e3, hm⟩
        · cases e
        · cases e1; cases e2; cases e3; exact hm)
  go_wp2_with fail
  go_loopw [9, 10] (fun av tv wr => ∃ (i : Nat) (A' : Option Addr) (N' c' : Nat), tv = .int .u32 ((add t i : Nat) : Int) ∧ av = .slice A' N' c' ∧ i ≤ n ∧ N' ≤ 256 * i ∧ Hid (OwnI .u8 5 q wr A' N' c' (bytesOf (ps l) t i)) ∧
      Hid (wr.heap[b]? = some (.cells (bxBlk (some m1) (some m2) (some m3) nx) 77 (0, 0))) ∧ Hid (Maps wr m1 m2 m3 (left l t i) m) ∧ Hid (wr.heap[q]? = some (.cells #[.int .u16 (st : Int), .int .u16 (sq : Int), .bool un] 81 (0, 0))) ∧ Hid (Out (BS b (some m1) (some m2) (some m3)) w wr)) (fun _ tv _ => msF t tv)
  case atStart => exact ⟨0, none, 0, 0, by rw [Fg.add_zero ht], rfl, by omega, by omega, Lib.hid (ownI_nil _ _ _ _), Lib.hid HB1.out.top, by rw [left_zero]; exact MM1, P1, Lib.hid (HU.out.out _)⟩
  case round =>
    obtain ⟨i, A', N', c', rfl, rfl, hin, hN, hA, hT, hM, hQ, hO⟩ := hrel
    by_cases hlt : i < n
    · have d1 : (((add t i : Nat) : Int) != ((add t n : Nat) : Int)) = true := by
        rw [bne_iff_ne]; unfold add; omega
      obtain ⟨k, x, hkk, hx, hxt, hxl⟩ := left_at HW.out hlt
      have hxm : x ∈ left l t i := List.mem_of_getElem? hx
      have hxk : kdOf x.p = (st, sq, un) := HKD.out i hlt x.p (List.mem_map.2 ⟨x, hxl, rfl⟩) hxt
      have hxb := HB.out.by_ x hxl
      have XB : Hid (OwnI .u8 5 base wr x.A x.p.bs.length x.c x.p.bs) := Lib.hid (Out.own hO.out hxb.1 (HB.out.off hxb.1 (by decide)))
      have HX := Lib.hid (And.intro hxm (And.intro hxt (And.intro hxk hxl)))
      have hx256 := hxb.2.2
      have HBS := Lib.hid (bytes_succ HA.out hxl hxt)
      clear hx hxm hxt hxk hxl hxb hkk
      go_upto_region 5 with (fail)
      have q0 : wr.cell? ⟨q, 0, none⟩ = some (.int .u16 (st : Int)) := cell_of hQ.out rfl
      have q1 : wr.cell? ⟨q, 1, none⟩ = some (.int .u16 (sq : Int)) := cell_of hQ.out rfl
      have q2 : wr.cell? ⟨q, 2, none⟩ = some (.bool un) := cell_of hQ.out rfl
      go_upto_region 6 with (fail)
      have R5 := Lib.hid (new_at wr (.cells #[.int .u16 (st : Int), .int .u16 (sq : Int), .bool un, .int .u32 ((add t i : Nat) : Int)] 94))
      have U5 := Lib.hid (up_alloc wr (.cells #[.int .u16 (st : Int), .int .u16 (sq : Int), .bool un, .int .u32 ((add t i : Nat) : Int)] 94))
      have hs5 : wr.heap.size < (wr.alloc (.cells #[.int .u16 (st : Int), .int .u16 (sq : Int), .bool un, .int .u32 ((add t i : Nat) : Int)] 94)).heap.size := lt_of_blk R5.out
      clear q0 q1 q2
      generalize wr.alloc (.cells #[.int .u16 (st : Int), .int .u16 (sq : Int), .bool un, .int .u32 ((add t i : Nat) : Int)] 94) = w5 at R5 U5 hs5 ⊢
      have hss : w.heap.size ≤ wr.heap.size := hO.out.size
      generalize wr.heap.size = s5 at R5 hs5 hss ⊢
      have T5 := Lib.hid ((U5.out.block _ (lt_of_blk hT.out)).trans hT.out)
      have M5 := Lib.hid (hM.out.keep (U5.out.block _ hM.out.lt.1) (U5.out.block _ hM.out.lt.2.1) (U5.out.block _ hM.out.lt.2.2))
      have Q5 := Lib.hid ((U5.out.block _ (lt_of_blk hQ.out)).trans hQ.out)
      have A5 := Lib.hid (own_up hA.out U5.out)
      have X5 := Lib.hid (own_up XB.out U5.out)
      have O5 := Lib.hid (hO.out.trans (U5.out.out (BS b (some m1) (some m2) (some m3))) (Sub.refl _ _))
      clear hT hM hQ hA hO U5 XB
      have k0 : w5.cell? ⟨b, 0, none⟩ = some (.map (some m1)) := cell_of T5.out rfl
      have r0 : w5.cell? ⟨s5, 0, none⟩ = some (.int .u16 (st : Int)) := cell_of R5.out rfl
      have r1 : w5.cell? ⟨s5, 1, none⟩ = some (.int .u16 (sq : Int)) := cell_of R5.out rfl
      have r2 : w5.cell? ⟨s5, 2, none⟩ = some (.bool un) := cell_of R5.out rfl
      have r3 : w5.cell? ⟨s5, 3, none⟩ = some (.int .u32 ((add t i : Nat) : Int)) := cell_of R5.out rfl
      have hget : mget ((left l t i).map plE) ((st, sq, un), add t i) = some x := by
        have h1 := mget_of_mem (by obtain ⟨_, _, _, _, hn, _⟩ := M5.out.P; exact hn) (x := plE x) (List.mem_map.2 ⟨x, HX.out.1, rfl⟩)
        have h2 : (plE x).1 = ((st, sq, un), add t i) := by
          show ((kdOf x.p), x.p.tsn) = _
          rw [HX.out.2.2.1, HX.out.2.1]
        rw [h2] at h1
        exact h1
      have vL : (Instr.lookup 73 (.map (some m1)) (.agg #[.int .u16 (st : Int), .int .u16 (sq : Int), .bool un, .int .u32 ((add t i : Nat) : Int)]) false).run Try.prog w5.drew = .ok (.agg #[.int .u32 x.p.tsn, .int .u16 x.p.st, .int .u16 x.p.sq, .bool x.p.bg, .bool x.p.en, .bool x.p.un, .slice x.A x.p.bs.length x.c]) w5.drew := by
        have h1 := run_lookS1 (P := Try.prog) mkP und73 zero51 (M5.out.P.keep (w' := w5.drew) rfl) (k := ((st, sq, un), add t i)) ⟨⟨hst, hsq⟩, add_lt _ _⟩
        rw [hget] at h1
        exact h1
      have fl6 := fld51_6
      have HGET := Lib.hid hget
      have A5d : Hid (OwnI .u8 5 q w5.drew A' N' c' (bytesOf (ps l) t i)) := A5
      have X5d : Hid (Cells w5.drew x.A (ints .u8 x.p.bs)) := Lib.hid (Cells.up (w := w5) (OwnI.cells X5.out) (Up.drew _))
      clear hget
      go_cut [9] (fun v wx => ∃ A3 c3, v = .slice A3 (N' + x.p.bs.length) c3 ∧ Hid (OwnI .u8 5 q wx A3 (N' + x.p.bs.length) c3 (bytesOf (ps l) t (i + 1))) ∧ Hid (Out (fun k => blk? A' = some k) w5 wx))
      case first =>
        go_region_law (refine step_appB rfl (.tmp 22) (.tmp 29) 30 5 (.int .u8 0) 1 1 q rfl Try.underlying30 info5 rfl (by omega) (A := A') (n := N') (c := c') (by simp [Act.eval, Act.put]) A5d.out (B := x.A) (m := x.p.bs.length) (d := x.c) (by simp [Act.eval, Act.put]) (by simp [ints]) X5d.out (ints_one _ _) (by omega) (by omega) (by rw [show w5.drew.heap.size = w5.heap.size from rfl]; omega) ?_; intro A3 c3 w6 HR6 HO6 HE6)
        all_goals
          go_wp2_with fail
          go_meet
          exact ⟨A3, c3, rfl, Lib.hid (by rw [HBS.out]; unfold OwnI; rw [ints_append]; exact HR6.out), Lib.hid (((Up.drew w5).out _).trans HO6.out (Sub.refl _ _))⟩
      case rest =>
        obtain ⟨A3, c3, rfl, A6, O6⟩ := hcut
        have hnm : ∀ {k : Nat}, (∃ o : Obj, w5.heap[k]? = some o ∧ o.isCells = false) → ¬ blk? A' = some k := fun {k} ⟨o, h1, h2⟩ e => by
          rw [row_isCells A5.out e h1] at h2; cases h2
        have M6 := Lib.hid (M5.out.keep (w' := wc) (O6.out.block _ M5.out.lt.1 (hnm (mapS_blk M5.out.P))) (O6.out.block _ M5.out.lt.2.1 (hnm (by obtain ⟨E, hE, _⟩ := M5.out.T; exact mapU_blk hE))) (O6.out.block _ M5.out.lt.2.2 (hnm (mapS_blk M5.out.W))))
        have hne : ∀ {k T : Nat} {cs : Array Value}, w5.heap[k]? = some (.cells cs T (0, 0)) → 5 ≠ T → ¬ blk? A' = some k := fun {k T cs} h h2 e => own_ne A5.out h h2 k (by rw [ownBlock_slice]; exact e) rfl
        have T6 := Lib.hid (O6.out.blk T5.out (hne T5.out (by decide)))
        have Q6 := Lib.hid (O6.out.blk Q5.out (hne Q5.out (by decide)))
        have R6 := Lib.hid (O6.out.blk R5.out (hne R5.out (by decide)))
        have OO6 := Lib.hid (O5.out.trans O6.out (fun k hk => .inr (by have := (row_lt A5.out hk).1; omega)))
        clear hnm hne A5d X5d vL k0 r0 r1 r2 r3 A5 X5 T5 Q5 R5 O6 O5 M5
        go_upto_region 7 with (fail)
        have k0 : wc.cell? ⟨b, 0, none⟩ = some (.map (some m1)) := cell_of T6.out rfl
        have r0 : wc.cell? ⟨s5, 0, none⟩ = some (.int .u16 (st : Int)) := cell_of R6.out rfl
        have r1 : wc.cell? ⟨s5, 1, none⟩ = some (.int .u16 (sq : Int)) := cell_of R6.out rfl
        have r2 : wc.cell? ⟨s5, 2, none⟩ = some (.bool un) := cell_of R6.out rfl
        have r3 : wc.cell? ⟨s5, 3, none⟩ = some (.int .u32 ((add t i : Nat) : Int)) := cell_of R6.out rfl
        obtain ⟨o1, hd1, hm1⟩ := run_delS (P := Try.prog) mkP und73 0 (M6.out.P.keep (w' := wc.drew) rfl) (k := ((st, sq, un), add t i)) ⟨⟨hst, hsq⟩, add_lt _ _⟩ HGET.out
        have hd1' : (Builtin.delete_ #[73, 94] 0 #[.map (some m1), .agg #[.int .u16 (st : Int), .int .u16 (sq : Int), .bool un, .int .u32 ((add t i : Nat) : Int)]]).run Try.prog wc.drew = .ok (.tuple #[]) (setBl wc.drew m1 o1) := hd1
        have O7 := Lib.hid (((Up.drew wc).out (fun k => k = m1)).trans (setBl_out wc.drew m1 o1) (Sub.refl _ _))
        have HM1 := Lib.hid hm1
        clear hd1 hm1
        go_cut [] (fun wx => wx = setBl wc.drew m1 o1)
        case first =>
          go_region
          all_goals
            go_wp2_with fail
            go_meet
            rfl
        case rest =>
          subst hcut
          clear hd1'
          generalize setBl wc.drew m1 o1 = w7 at HM1 O7 ⊢
          have hbm1 : b ≠ m1 := not_cells (mapS_blk M6.out.P) T6.out
          have hbm2 : b ≠ m2 := not_cells (by obtain ⟨E, hE, _⟩ := M6.out.T; exact mapU_blk hE) T6.out
          have k1 : w7.cell? ⟨b, 1, none⟩ = some (.map (some m2)) := cell_out (cell_of T6.out rfl : wc.cell? ⟨b, 1, none⟩ = some (.map (some m2))) O7.out hbm1
          obtain ⟨E, hE, hEk⟩ := M6.out.T
          have hE7 : MapU w7 m2 E := hE.keep (O7.out.block m2 hE.lt (fun e => M6.out.n12 e.symm))
          obtain ⟨o2, hd2, hm2⟩ := run_delU (P := Try.prog) und74 (by kernel_rfl : Try.prog.underlying 49 = some (.int .u32)) 0 hE7 ((add t i : Nat) : Int) (by
            rw [hEk, ← HX.out.2.1]
            exact List.mem_map.2 ⟨x, HX.out.1, rfl⟩)
          have O8 := Lib.hid (setBk_out w7 m2 o2)
          have HM2 := Lib.hid hm2
          have HEK := Lib.hid (tnE_less _ (add t i) E hEk)
          clear hm2 hEk hE7 hE
          go_wp2_with fail
          generalize setBk w7 m2 o2 = w8 at HM2 O8 ⊢
          rw [add_next t i]
          have hleft := left_filter (l := l) (t := t) (i := i) ht (by omega) HBD.out
          have HLE := Lib.hid hleft
          have O78 : Hid (Out (fun k => k = m1 ∨ k = m2) wc w8) := Lib.hid ((O7.out.mono (fun k hk => .inl hk)).trans (O8.out.mono (fun k hk => .inr hk)) (Sub.refl _ _))
          have HO8 : Hid (Out (BS b (some m1) (some m2) (some m3)) w w8) := Lib.hid (OO6.out.trans O78.out (fun k hk => .inl (by
            rcases hk with e | e
            · exact .inr (.inl (by rw [e]))
            · exact .inr (.inr (.inl (by rw [e]))))))
          have HM8 : Hid (Maps w8 m1 m2 m3 (left l t (i + 1)) m) := Lib.hid (by
            have hap := apart_sub HA.out (left_sub l t i)
            refine ⟨?_, ⟨_, HM2.out, ?_⟩, ?_, M6.out.n12, M6.out.n13, M6.out.n23⟩
            · have h1 := HM1.out.keep (O8.out.block m1 HM1.out.lt M6.out.n12)
              have h2 := plE_less hap HX.out.1
              have h3 : ((x.p.st, x.p.sq, x.p.un), x.p.tsn) = ((st, sq, un), add t i) := by
                show (kdOf x.p, x.p.tsn) = _
                rw [HX.out.2.2.1, HX.out.2.1]
              rw [h3] at h2
              rw [h2, HX.out.2.1, ← HLE.out] at h1
              exact h1
            · rw [HEK.out, ← HLE.out]
            · exact M6.out.W.keep (O78.out.block m3 M6.out.lt.2.2 (fun e => by
                rcases e with e | e
                · exact M6.out.n13 e.symm
                · exact M6.out.n23 e.symm)))
          clear hleft
          go_roundw
          case rel =>
            have hbb : ¬ (b = m1 ∨ b = m2) := fun e => e.elim hbm1 hbm2
            have hqq2 : ¬ (q = m1 ∨ q = m2) := fun e => e.elim (not_cells (mapS_blk M6.out.P) Q6.out) (not_cells (by obtain ⟨E, hE, _⟩ := M6.out.T; exact mapU_blk hE) Q6.out)
            refine ⟨i + 1, A3, N' + x.p.bs.length, c3, rfl, rfl, by omega, by omega, Lib.hid ?_, Lib.hid (O78.out.blk T6.out hbb), HM8, Lib.hid (O78.out.blk Q6.out hqq2), HO8⟩
            refine Out.own O78.out A6.out (fun g hg e => ?_)
            have h1 : ∃ o : Obj, wc.heap[g]? = some o ∧ o.isCells = false := by
              rcases e with e | e
              · rw [e]; exact mapS_blk M6.out.P
              · rw [e]; obtain ⟨E, hE, _⟩ := M6.out.T; exact mapU_blk hE
            obtain ⟨o, h1, h2⟩ := h1
            have h3 := row_isCells A6.out (k := g) (by rw [ownBlock_slice] at hg; exact hg) h1
            rw [h3] at h2; cases h2
          case measure => rw [msF_at ht (by omega), msF_at ht (by omega)]; omega
    · obtain rfl : i = n := by omega
      have d1 : (((add t i : Nat) : Int) != ((add t i : Nat) : Int)) = false := by simp
      go_wp2_with fail
      go_ret
      refine ⟨A', N', c', rfl, Lib.hid (by rw [hqq]; exact hA.out), Lib.hid ⟨hT.out, .inr ⟨m1, m2, m3, rfl, rfl, rfl, hM.out⟩, fun y hy => ?_, fun y hy => ?_⟩, hO⟩
      · have h1 := HB.out.by_ y ((left_sub l t i).subset hy)
        exact ⟨Out.own hO.out h1.1 (HB.out.off h1.1 (by decide)), h1.2⟩
      · have h1 := HB.out.byW y hy
        exact ⟨Out.own hO.out h1.1 (HB.out.off h1.1 (by decide)), h1.2⟩
end Go.Proofs.Ytgcabidhpnaoiaa
