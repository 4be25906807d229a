import Derived.Test.YtgcabidhpnaoiaaBx5
import Derived.Test.YtgcabidhpnaoiaaFgR6
namespace Go.Proofs.Ytgcabidhpnaoiaa
open Go Go.RowKit Fg
set_option linter.unusedVariables false
set_option linter.unusedSimpArgs false
/-! The program's pass. -/
namespace Fg
theorem bx_nx (q1 q2 q3 : Option Nat) (nx : Nat → Nat) {s : Nat} (hs : s < 8) : (bxBlk q1 q2 q3 nx)[3 + s]? = some (.int .u16 (nx s)) := by
  have : s = 0 ∨ s = 1 ∨ s = 2 ∨ s = 3 ∨ s = 4 ∨ s = 5 ∨ s = 6 ∨ s = 7 := by omega
  rcases this with rfl | rfl | rfl | rfl | rfl | rfl | rfl | rfl <;> rfl
theorem bx_upd (q1 q2 q3 : Option Nat) (nx : Nat → Nat) {s : Nat} (hs : s < 8) : (bxBlk q1 q2 q3 nx).setIfInBounds (3 + s) (.int .u16 (((nx s + 1) % 65536 : Nat) : Int)) = bxBlk q1 q2 q3 (upd nx s) := by
  have : s = 0 ∨ s = 1 ∨ s = 2 ∨ s = 3 ∨ s = 4 ∨ s = 5 ∨ s = 6 ∨ s = 7 := by omega
  rcases this with rfl | rfl | rfl | rfl | rfl | rfl | rfl | rfl <;> simp [bxBlk, upd]
theorem wt_some {m : List LtB} {s q : Nat} {y : LtB} (h : mget (m.map wtE) (s, q, false) = some y) : y ∈ m ∧ y.x.1 = s ∧ y.x.2.1 = q := by
  obtain ⟨z, hz, e⟩ := List.mem_map.1 (mget_mem h)
  unfold wtE at e
  have e1 : z = y := congrArg (·.2) e
  subst e1
  have e2 := congrArg (·.1) e
  exact ⟨hz, congrArg (·.1) e2, congrArg (·.2.1) e2⟩
theorem wt_none {m : List LtB} {s q : Nat} (h : mget (m.map wtE) (s, q, false) = none) : ∀ y ∈ m, y.x.1 = s → y.x.2.1 = q → False := fun y hy e1 e2 => by
  refine mget_none.1 h ?_
  rw [List.map_map]
  refine List.mem_map.2 ⟨y, hy, ?_⟩
  show ((y.x.1, y.x.2.1, false) : Kd) = (s, q, false)
  rw [e1, e2]
theorem wtE_less (m : List LtB) (s q : Nat) : (m.map wtE).filter (fun y => decide (y.1 ≠ (s, q, false))) = (m.filter fun y => !(decide (y.x.1 = s) && decide (y.x.2.1 = q))).map wtE := by
  rw [List.filter_map]
  congr 1
  refine List.filter_congr fun y hy => ?_
  rw [Bool.eq_iff_iff]
  simp [wtE]
theorem ts_less (m : List LtB) (s q : Nat) : ts (m.filter fun y => !(decide (y.x.1 = s) && decide (y.x.2.1 = q))) = (ts m).filter fun y => !(decide (y.1 = s) && decide (y.2.1 = q)) := by
  unfold ts
  rw [List.filter_map]
  rfl
theorem wt_apart {m : List LtB} (h : ((m.map wtE).map (·.1)).Nodup) : KApart (ts m) := by
  unfold KApart ts
  rw [List.pairwise_map]
  rw [List.map_map] at h
  have h2 : List.Pairwise (fun a b => ¬ (((fun x => x.1) ∘ wtE) a = ((fun x => x.1) ∘ wtE) b)) m := by
    have := List.pairwise_map.1 h
    exact this
  refine h2.imp fun {a b} hab e => hab ?_
  show ((a.x.1, a.x.2.1, false) : Kd) = (b.x.1, b.x.2.1, false)
  rw [e.1, e.2]
/-- One goes, of those that are apart. -/
theorem one_less {m : List LtB} (h : KApart (ts m)) {y : LtB} (hy : y ∈ m) : (m.filter fun z => !(decide (z.x.1 = y.x.1) && decide (z.x.2.1 = y.x.2.1))).length + 1 = m.length := by
  obtain ⟨l1, l2, rfl⟩ := List.append_of_mem hy
  unfold ts KApart at h
  rw [List.map_append, List.map_cons, List.pairwise_append, List.pairwise_cons] at h
  obtain ⟨_, ⟨p2, _⟩, p3⟩ := h
  have e1 : (l1.filter fun z => !(decide (z.x.1 = y.x.1) && decide (z.x.2.1 = y.x.2.1))) = l1 := by
    rw [List.filter_eq_self]
    intro z hz
    have := p3 z.x (List.mem_map.2 ⟨z, hz, rfl⟩) y.x (by simp)
    simp; omega
  have e2 : (l2.filter fun z => !(decide (z.x.1 = y.x.1) && decide (z.x.2.1 = y.x.2.1))) = l2 := by
    rw [List.filter_eq_self]
    intro z hz
    have := p2 z.x (List.mem_map.2 ⟨z, hz, rfl⟩)
    simp; omega
  rw [List.filter_append, List.filter_cons, if_neg (by simp), e1, e2]
  simp; omega
/-- Where pass stands: what still waits, what is told. -/
structure PSt (w0 : World) (b st m1 m2 m3 : Nat) (l : List PcB) (ma : List LtB) (nx0 : Nat → Nat) (w : World) (A : Option Addr) (N cA : Nat) (m o : List LtB) (nx : Nat → Nat) : Prop where
  row : w.ownsRow w0.heap.size 32 2 (.slice A N cA) N (o.flatMap (msc st))
  top : w.heap[b]? = some (.cells (bxBlk (some m1) (some m2) (some m3) nx) 77 (0, 0))
  mp : Maps w m1 m2 m3 l m
  len : N = o.length
  le : m.length + o.length = ma.length
  sub : m.Sublist ma
  told : ∀ y ∈ o, y ∈ ma
  lt : ∀ s, nx s < 65536
  go : ∀ (ms : List (Nat × List Int)) (W' : List Lt) (nx' : Nat → Nat), Turns st (ts m) nx ms W' nx' → Turns st (ts ma) nx0 ((o.map fun y => (st, y.x.2.2)) ++ ms) W' nx'
  out : Out (BS b (some m1) (some m2) (some m3)) w0 w
theorem PSt.up {w0 w w' : World} {b st m1 m2 m3 : Nat} {l : List PcB} {ma : List LtB} {nx0 : Nat → Nat} {A : Option Addr} {N cA : Nat} {m o : List LtB} {nx : Nat → Nat} (h : PSt w0 b st m1 m2 m3 l ma nx0 w A N cA m o nx) (hu : Up w w') : PSt w0 b st m1 m2 m3 l ma nx0 w' A N cA m o nx :=
  ⟨own_up h.row hu, (hu.block b (lt_of_blk h.top)).trans h.top, h.mp.keep (hu.block _ h.mp.lt.1) (hu.block _ h.mp.lt.2.1) (hu.block _ h.mp.lt.2.2), h.len, h.le, h.sub, h.told, h.lt, h.go, h.out.trans (hu.out _) (Sub.refl _ _)⟩
/-- Those that wait, and one more. -/
def more (m : List LtB) (y : LtB) : List LtB := if m.any (fun z => decide (z.x.1 = y.x.1) && decide (z.x.2.1 = y.x.2.1)) then m else m ++ [y]
def PaPost (b st m1 m2 m3 : Nat) (l : List PcB) (ma : List LtB) (nx0 : Nat → Nat) (w : World) (e : Ending) (w' : World) : Prop :=
  ∃ A N cA m o nx, e = .returned (.slice A N cA) ∧ Hid (PSt w b st m1 m2 m3 l ma nx0 w' A N cA m o nx) ∧ Hid (∀ y ∈ m, ¬ hit st nx y)
end Fg
set_option maxRecDepth 100000 in
set_option maxHeartbeats 1000000 in
theorem pass_un (b st sq n c : Nat) (A : Option Addr) (w : World) (hbl : b < w.heap.size) :
    Calls Try.prog 27 #[.pointer (some ⟨b, 0, none⟩), .agg #[.int .u16 (st : Int), .int .u16 (sq : Int), .bool true], .slice A n c] w fun e w' => ∃ g, e = .returned (.slice (some ⟨g, 0, none⟩) 1 1) ∧ Hid (w'.ownsRow w.heap.size 32 2 (.slice (some ⟨g, 0, none⟩) 1 1) 1 [.int .u16 (st : Int), .slice A n c]) ∧ Hid (Up w w') := by
  go_enter Try.func27, Try.ntmps27
  go_upto_region 1 with (fail)
  have P1 := Lib.hid (new_at w (.cells #[.int .u16 (st : Int), .int .u16 (sq : Int), .bool true] 81))
  have HU := Lib.hid (up_alloc w (.cells #[.int .u16 (st : Int), .int .u16 (sq : Int), .bool true] 81))
  generalize w.alloc (.cells #[.int .u16 (st : Int), .int .u16 (sq : Int), .bool true] 81) = W at P1 HU ⊢
  generalize hqq : w.heap.size = q at P1 ⊢
  have a0 : W.cell? ⟨q, 0, none⟩ = some (.int .u16 (st : Int)) := cell_of P1.out rfl
  have a2 : W.cell? ⟨q, 2, none⟩ = some (.bool true) := cell_of P1.out rfl
  go_wp2_with fail
  go_ret
  exact ⟨W.heap.size, rfl, Lib.hid ⟨rfl, .inr ⟨W.heap.size, 1, _, rfl, HU.out.size, new_at W _, by omega, by unfold maxLen; omega, rfl, rfl⟩⟩, Lib.hid (HU.out.trans (up_alloc W _))⟩
set_option maxRecDepth 100000 in
set_option maxHeartbeats 4000000 in
theorem pass_any (base b st sq n c : Nat) (A : Option Addr) (bs : List Int) (m1 m2 m3 : Nat) (l : List PcB) (m : List LtB) (nx : Nat → Nat) (w : World) (hB : BX base w b (some m1) (some m2) (some m3) l m nx) (hst : st < 8) (hsq : sq < 65536) (hnx : ∀ s, nx s < 65536) (hm : m.length ≤ 4096) (hn : n = bs.length) :
    Calls Try.prog 27 #[.pointer (some ⟨b, 0, none⟩), .agg #[.int .u16 (st : Int), .int .u16 (sq : Int), .bool false], .slice A n c] w (PaPost b st m1 m2 m3 l (more m ⟨(st, sq, bs), A, c⟩) nx w) := by
  have HB := Lib.hid hB
  have HNX := Lib.hid hnx
  have HNN := Lib.hid hn
  clear hB hnx hn
  go_enter Try.func27, Try.ntmps27
  go_upto_region 1 with (fail)
  have P1 := Lib.hid (new_at w (.cells #[.int .u16 (st : Int), .int .u16 (sq : Int), .bool false] 81))
  have HU := Lib.hid (up_alloc w (.cells #[.int .u16 (st : Int), .int .u16 (sq : Int), .bool false] 81))
  generalize w.alloc (.cells #[.int .u16 (st : Int), .int .u16 (sq : Int), .bool false] 81) = W at P1 HU ⊢
  generalize hqq : w.heap.size = q at P1 ⊢
  have HB1 := Lib.hid (HB.out.up HU.out)
  have M1 : Hid (Maps W m1 m2 m3 l m) := Lib.hid (by
        rcases HB1.out.maps with ⟨e, _⟩ | ⟨n1, n2, n3, e1, e2, e3, hm⟩
        · cases e
        · cases e1; cases e2; cases e3; exact hm)
  have a0 : W.cell? ⟨q, 0, none⟩ = some (.int .u16 (st : Int)) := cell_of P1.out rfl
  have a1 : W.cell? ⟨q, 1, none⟩ = some (.int .u16 (sq : Int)) := cell_of P1.out rfl
  have a2 : W.cell? ⟨q, 2, none⟩ = some (.bool false) := cell_of P1.out rfl
  have k2 : W.cell? ⟨b, 2, none⟩ = some (.map (some m3)) := cell_of HB1.out.top rfl
  obtain ⟨v0, hv0⟩ : ∃ v0, v0 = ((mget (m.map wtE) (st, sq, false)).map wtV).getD (.slice none 0 0) := ⟨_, rfl⟩
  have vL : ∀ j, (Instr.lookup 75 (.map (some m3)) (.agg #[.int .u16 (st : Int), .int .u16 (sq : Int), .bool false]) true).run Try.prog (W.drewN j) = .ok (.tuple #[v0, .bool (mget (m.map wtE) (st, sq, false)).isSome]) (W.drewN j) := fun j => by
    have h1 := run_lookS (P := Try.prog) mkW und75 zero30 (M1.out.W.keep (w' := W.drewN j) rfl) (k := (st, sq, false)) ⟨by show st < 65536; omega, hsq⟩
    rw [← hv0] at h1
    exact h1
  generalize hgg : (mget (m.map wtE) (st, sq, false)).isSome = bG at vL
  have HGG := Lib.hid hgg
  clear hgg hv0
  go_upto_region 3 with (fail)
  go_quiet (fail)
  have HU3 := Lib.hid (HU.out.trans (up_drewN W nq))
  have HB3 : Hid (BX base (W.drewN nq) b (some m1) (some m2) (some m3) l m nx) := Lib.hid (HB1.out.up (up_drewN W nq))
  have P3 : Hid ((W.drewN nq).heap[q]? = some (.cells #[.int .u16 (st : Int), .int .u16 (sq : Int), .bool false] 81 (0, 0))) := P1
  clear vL k2 a0 a1 a2 HB1 P1 M1 HU
  generalize W.drewN nq = w3 at HU3 HB3 P3 ⊢
  have M3 : Hid (Maps w3 m1 m2 m3 l m) := Lib.hid (by
        rcases HB3.out.maps with ⟨e, _⟩ | ⟨n1, n2, n3, e1, e2, e3, hm⟩
        · cases e
        · cases e1; cases e2; cases e3; exact hm)
  have hq3 : q < w3.heap.size := lt_of_blk P3.out
  go_upto_if 30 with (fail)
  go_cut [] (fun wx => ∃ ma, Hid (ma = more m ⟨(st, sq, bs), A, c⟩) ∧ Hid (Maps wx m1 m2 m3 l ma) ∧ Hid (wx.heap[b]? = some (.cells (bxBlk (some m1) (some m2) (some m3) nx) 77 (0, 0))) ∧ Hid (wx.heap[q]? = some (.cells #[.int .u16 (st : Int), .int .u16 (sq : Int), .bool false] 81 (0, 0))) ∧ Hid (Out (fun k => k = m3) w3 wx))
  case first =>
    cases bG with
    | true =>
      go_wp2_with fail
      go_meet
      refine ⟨m, Lib.hid ?_, M3, Lib.hid HB3.out.top, P3, Lib.hid (Out.refl _ _)⟩
      obtain ⟨y, hy⟩ := Option.isSome_iff_exists.1 HGG.out
      obtain ⟨h1, h2, h3⟩ := wt_some hy
      unfold more
      rw [if_pos]
      rw [List.any_eq_true]
      exact ⟨y, h1, by simp [h2, h3]⟩
    | false =>
      have hnone : mget (m.map wtE) (st, sq, false) = none := by
        have := HGG.out
        simpa using this
      have a0 : w3.cell? ⟨q, 0, none⟩ = some (.int .u16 (st : Int)) := cell_of P3.out rfl
      have a1 : w3.cell? ⟨q, 1, none⟩ = some (.int .u16 (sq : Int)) := cell_of P3.out rfl
      have a2 : w3.cell? ⟨q, 2, none⟩ = some (.bool false) := cell_of P3.out rfl
      have k2 : w3.cell? ⟨b, 2, none⟩ = some (.map (some m3)) := cell_of HB3.out.top rfl
      obtain ⟨o1, hu1, hm1⟩ := run_updS (P := Try.prog) mkW und75 (M3.out.W.keep (w' := w3.drew) rfl) (k := (st, sq, false)) ⟨by show st < 65536; omega, hsq⟩ hnone ⟨(st, sq, bs), A, c⟩
      have hu1' : (Instr.mapUpdate 75 (.map (some m3)) (.agg #[.int .u16 (st : Int), .int .u16 (sq : Int), .bool false]) (.slice A n c)).run Try.prog w3.drew = .ok () (setBl w3.drew m3 o1) := by
        rw [HNN.out]; exact hu1
      have O6 := Lib.hid (((up_drewN w3 1).out (fun k => k = m3)).trans (setBl_out w3.drew m3 o1) (Sub.refl _ _))
      have HM1 := Lib.hid hm1
      clear hu1 hm1
      have HNO := Lib.hid hnone
      clear hnone
      go_upto_region 5 with (fail)
      go_region
      all_goals
        go_wp2_with fail
        go_meet
        refine ⟨m ++ [⟨(st, sq, bs), A, c⟩], Lib.hid ?_, Lib.hid ?_, Lib.hid (O6.out.blk HB3.out.top (not_cells (mapS_blk M3.out.W) HB3.out.top)), Lib.hid (O6.out.blk P3.out (not_cells (mapS_blk M3.out.W) P3.out)), O6⟩
        · unfold more
          rw [if_neg]
          intro h
          rw [List.any_eq_true] at h
          obtain ⟨y, h1, h2⟩ := h
          simp at h2
          exact wt_none HNO.out y h1 h2.1 h2.2
        · obtain ⟨E, hE, hEk⟩ := M3.out.T
          refine ⟨M3.out.P.keep (O6.out.block _ M3.out.lt.1 M3.out.n13), ⟨E, hE.keep (O6.out.block _ M3.out.lt.2.1 M3.out.n23), hEk⟩, ?_, M3.out.n12, M3.out.n13, M3.out.n23⟩
          rw [List.map_append]
          exact HM1.out
  case rest =>
    obtain ⟨ma, HMA, MX, TX, PX, OX⟩ := hcut
    have HML : ma.length ≤ 4097 := by
      rw [HMA.out]
      unfold more
      split
      · omega
      · simp; omega
    have HST : Hid (PSt w b st m1 m2 m3 l ma nx wc none 0 0 ma [] nx) := Lib.hid ⟨World.ownsRow_nil _ _ _ _, TX.out, MX.out, rfl, by simp, List.Sublist.refl _, by simp, HNX.out, fun _ _ _ h => by simpa using h, (HU3.out.out _).trans (OX.out.mono (fun k hk => .inr (.inr (.inr (by rw [hk]))))) (Sub.refl _ _)⟩
    go_wp2_with fail
    go_loopw [9] (fun av wr => ∃ (A2 : Option Addr) (N2 cA2 : Nat) (mc oc : List LtB) (nc : Nat → Nat), av = .slice A2 N2 cA2 ∧ Hid (PSt w b st m1 m2 m3 l ma nx wr A2 N2 cA2 mc oc nc) ∧ Hid (wr.heap[q]? = some (.cells #[.int .u16 (st : Int), .int .u16 (sq : Int), .bool false] 81 (0, 0)))) (fun av _ => ma.length - lenV av)
    case atStart => exact ⟨none, 0, 0, ma, [], nx, rfl, HST, PX⟩
    case round =>
      obtain ⟨A2, N2, cA2, mc, oc, nc, rfl, hT, hP⟩ := hrel
      have NU := Lib.hid (up_alloc wr (.cells #[.int .u16 0, .int .u16 0, .bool false] 81))
      have N1 := Lib.hid (new_at wr (.cells #[.int .u16 0, .int .u16 0, .bool false] 81))
      have NU' : Hid (Up wr (wr.alloc (.cells #[.int .u16 0, .int .u16 0, .bool false] 81)).drew) := Lib.hid (NU.out.trans (Up.drew _))
      have N1' : Hid ((wr.alloc (.cells #[.int .u16 0, .int .u16 0, .bool false] 81)).drew.heap[wr.heap.size]? = some (.cells #[.int .u16 0, .int .u16 0, .bool false] 81)) := N1
      have a0 : wr.cell? ⟨q, 0, none⟩ = some (.int .u16 (st : Int)) := cell_of hP.out rfl
      have kx : wr.cell? ⟨b, 3 + st, none⟩ = some (.int .u16 (nc st : Int)) := cell_of hT.out.top (bx_nx _ _ _ _ hst)
      have a0' := cell_up a0 NU'.out
      have kx' := cell_up kx NU'.out
      have n0 : (wr.alloc (.cells #[.int .u16 0, .int .u16 0, .bool false] 81)).drew.cell? ⟨wr.heap.size, 0, none⟩ = some (.int .u16 0) := cell_of N1'.out rfl
      have f0 : (wr.alloc (.cells #[.int .u16 0, .int .u16 0, .bool false] 81)).drew.frozen? ⟨wr.heap.size, 0, none⟩ = false := frozen_at N1'.out
      have hs8 : (st : Int) < 8 := by omega
      go_upto_region 7 with (fail)
      go_cut [10] (fun v wx => v = .pointer (some ⟨wr.heap.size, 0, none⟩) ∧ wx = (wr.alloc (.cells #[.int .u16 (st : Int), .int .u16 (nc st : Int), .bool false] 81)).drew)
      case first =>
        go_region
        all_goals
          go_wp2_with fail
          go_meet
          exact ⟨rfl, rfl⟩
      case rest =>
        obtain ⟨rfl, rfl⟩ := hcut
        have R5 := Lib.hid (new_at wr (.cells #[.int .u16 (st : Int), .int .u16 (nc st : Int), .bool false] 81))
        have U5 := Lib.hid ((up_alloc wr (.cells #[.int .u16 (st : Int), .int .u16 (nc st : Int), .bool false] 81)).trans (Up.drew _))
        have R5' : Hid ((wr.alloc (.cells #[.int .u16 (st : Int), .int .u16 (nc st : Int), .bool false] 81)).drew.heap[wr.heap.size]? = some (.cells #[.int .u16 (st : Int), .int .u16 (nc st : Int), .bool false] 81)) := R5
        have hs5 : w.heap.size ≤ wr.heap.size := hT.out.out.size
        have hl5 : wr.heap.size < (wr.alloc (.cells #[.int .u16 (st : Int), .int .u16 (nc st : Int), .bool false] 81)).drew.heap.size := lt_of_blk R5'.out
        have hqr : q < wr.heap.size := lt_of_blk hP.out
        clear a0 kx a0' kx' n0 f0 N1 N1' NU NU' R5
        have T5 := Lib.hid (hT.out.up U5.out)
        have Q5 := Lib.hid ((U5.out.block _ (lt_of_blk hP.out)).trans hP.out)
        clear hT hP U5
        generalize (wr.alloc (.cells #[.int .u16 (st : Int), .int .u16 (nc st : Int), .bool false] 81)).drew = w5 at R5' T5 Q5 hl5 ⊢
        generalize wr.heap.size = s5 at R5' hs5 hl5 hqr ⊢
        have k2 : w5.cell? ⟨b, 2, none⟩ = some (.map (some m3)) := cell_of T5.out.top rfl
        have r0 : w5.cell? ⟨s5, 0, none⟩ = some (.int .u16 (st : Int)) := cell_of R5'.out rfl
        have r1 : w5.cell? ⟨s5, 1, none⟩ = some (.int .u16 (nc st : Int)) := cell_of R5'.out rfl
        have r2 : w5.cell? ⟨s5, 2, none⟩ = some (.bool false) := cell_of R5'.out rfl
        have hnc := T5.out.lt st
        have gL : ∀ j, (Instr.lookup 75 (.map (some m3)) (.agg #[.int .u16 (st : Int), .int .u16 (nc st : Int), .bool false]) true).run Try.prog (w5.drewN j) = .ok (.tuple #[((mget (mc.map wtE) (st, nc st, false)).map wtV).getD (.slice none 0 0), .bool (mget (mc.map wtE) (st, nc st, false)).isSome]) (w5.drewN j) := fun j =>
          run_lookS (P := Try.prog) mkW und75 zero30 (T5.out.mp.W.keep (w' := w5.drewN j) rfl) (k := (st, nc st, false)) ⟨by show st < 65536; omega, hnc⟩
        cases hg : mget (mc.map wtE) (st, nc st, false) with
        | none =>
          have vL : ∀ j, (Instr.lookup 75 (.map (some m3)) (.agg #[.int .u16 (st : Int), .int .u16 (nc st : Int), .bool false]) true).run Try.prog (w5.drewN j) = .ok (.tuple #[.slice none 0 0, .bool false]) (w5.drewN j) := fun j => by have h1 := gL j; rw [hg] at h1; exact h1
          have HG := Lib.hid hg
          clear gL hg
          go_upto_region 8 with (fail)
          go_quiet (fail)
          have T6 := Lib.hid (T5.out.up (up_drewN w5 nq))
          go_wp2_with fail
          go_ret
          exact ⟨A2, N2, cA2, mc, oc, nc, rfl, by rw [← HMA.out]; exact T6, Lib.hid (fun y hy hh => wt_none HG.out y hy hh.1 hh.2)⟩
        | some y =>
          have vL : ∀ j, (Instr.lookup 75 (.map (some m3)) (.agg #[.int .u16 (st : Int), .int .u16 (nc st : Int), .bool false]) true).run Try.prog (w5.drewN j) = .ok (.tuple #[.slice y.A y.x.2.2.length y.c, .bool true]) (w5.drewN j) := fun j => by have h1 := gL j; rw [hg] at h1; exact h1
          have HG := Lib.hid hg
          clear gL hg
          go_upto_region 8 with (fail)
          go_quiet (fail)
          have T6 := Lib.hid (T5.out.up (up_drewN w5 nq))
          have Q6 : Hid ((w5.drewN nq).heap[q]? = _) := Q5
          have R6 : Hid ((w5.drewN nq).heap[s5]? = _) := R5'
          have hl6 : s5 < (w5.drewN nq).heap.size := lt_of_blk R6.out
          clear vL k2 r0 r1 r2 T5 Q5 R5' hl5
          generalize w5.drewN nq = w6 at T6 Q6 R6 hl6 ⊢
          go_upto_region 11 with (fail)
          have k2 : w6.cell? ⟨b, 2, none⟩ = some (.map (some m3)) := cell_of T6.out.top rfl
          have r0 : w6.cell? ⟨s5, 0, none⟩ = some (.int .u16 (st : Int)) := cell_of R6.out rfl
          have r1 : w6.cell? ⟨s5, 1, none⟩ = some (.int .u16 (nc st : Int)) := cell_of R6.out rfl
          have r2 : w6.cell? ⟨s5, 2, none⟩ = some (.bool false) := cell_of R6.out rfl
          obtain ⟨o1, hd1, hm1⟩ := run_delS (P := Try.prog) mkW und75 0 (T6.out.mp.W.keep (w' := w6.drew) rfl) (k := (st, nc st, false)) ⟨by show st < 65536; omega, hnc⟩ HG.out
          have hd1' : (Builtin.delete_ #[75, 81] 0 #[.map (some m3), .agg #[.int .u16 (st : Int), .int .u16 (nc st : Int), .bool false]]).run Try.prog w6.drew = .ok (.tuple #[]) (setBl w6.drew m3 o1) := hd1
          have O7 := Lib.hid (((Up.drew w6).out (fun k => k = m3)).trans (setBl_out w6.drew m3 o1) (Sub.refl _ _))
          have HM1 := Lib.hid hm1
          clear hd1 hm1
          go_cut [] (fun wx => wx = setBl w6.drew m3 o1)
          case first =>
            go_region
            all_goals
              go_wp2_with fail
              go_meet
              rfl
          case rest =>
            subst hcut
            clear hd1' k2 r0 r1 r2
            generalize setBl w6.drew m3 o1 = w7 at HM1 O7 ⊢
            have T7 := Lib.hid (O7.out.blk T6.out.top (not_cells (mapS_blk T6.out.mp.W) T6.out.top))
            have Q7 := Lib.hid (O7.out.blk Q6.out (not_cells (mapS_blk T6.out.mp.W) Q6.out))
            have kx : w7.cell? ⟨b, 3 + st, none⟩ = some (.int .u16 (nc st : Int)) := cell_of T7.out (bx_nx _ _ _ _ hst)
            have fx : w7.frozen? ⟨b, 3 + st, none⟩ = false := frozen_at T7.out
            have a0 : w7.cell? ⟨q, 0, none⟩ = some (.int .u16 (st : Int)) := cell_of Q7.out rfl
            go_upto_region 12 with (fail)
            go_cut [] (fun wx => Hid (wx.heap[b]? = some (.cells (bxBlk (some m1) (some m2) (some m3) (Fg.upd nc st)) 77 (0, 0))) ∧ Hid (Out (fun k => k = b) w7 wx))
            case first =>
              go_region
              all_goals
                rw [show IntKind.u16.wrap ((nc st : Int) + 1) = (((nc st + 1) % 65536 : Nat) : Int) by simp [IntKind.wrap_u16]]
                have hT8 := setCell_at (j := 3 + st) (.int .u16 (((nc st + 1) % 65536 : Nat) : Int)) T7.out
                rw [bx_upd _ _ _ _ hst] at hT8
                have hO8 := setCell_out w7 b (3 + st) (.int .u16 (((nc st + 1) % 65536 : Nat) : Int))
                have H4 := Lib.hid hT8
                have H5 := Lib.hid hO8
                clear hT8 hO8
                go_wp2_with fail
                go_meet
                exact ⟨H4, Lib.hid (H5.out.trans ((Up.drew _).out _) (Sub.refl _ _))⟩
            case rest =>
              obtain ⟨T8, O8⟩ := hcut
              have Q8 := Lib.hid (O8.out.blk Q7.out (fun e => by rw [e] at Q7; have h1 := T7.out; rw [Q7.out] at h1; injection h1 with h1; injection h1 with _ h1; exact absurd h1 (by decide)))
              have hb3 : b ≠ m3 := not_cells (mapS_blk T6.out.mp.W) T6.out.top
              have hb1 : b ≠ m1 := not_cells (mapS_blk T6.out.mp.P) T6.out.top
              have hb2 : b ≠ m2 := not_cells (by obtain ⟨E, hE, _⟩ := T6.out.mp.T; exact mapU_blk hE) T6.out.top
              have hl7 := O7.out.size
              have hlt6 := T6.out.mp.lt
              have HY := Lib.hid (wt_some HG.out)
              have hkap : KApart (ts mc) := by obtain ⟨_, _, _, _, hn, _⟩ := T6.out.mp.W; exact wt_apart hn
              have M8 : Hid (Maps wc m1 m2 m3 l (mc.filter fun z => !(decide (z.x.1 = st) && decide (z.x.2.1 = nc st)))) := Lib.hid (by
                obtain ⟨E, hE, hEk⟩ := T6.out.mp.T
                refine ⟨(T6.out.mp.P.keep (O7.out.block _ hlt6.1 T6.out.mp.n13)).keep (O8.out.block _ (by omega) (fun e => hb1 e.symm)), ⟨E, (hE.keep (O7.out.block _ hlt6.2.1 T6.out.mp.n23)).keep (O8.out.block _ (by omega) (fun e => hb2 e.symm)), hEk⟩, ?_, T6.out.mp.n12, T6.out.mp.n13, T6.out.mp.n23⟩
                have h1 := HM1.out.keep (O8.out.block _ (by omega) (fun e => hb3 e.symm))
                rw [wtE_less] at h1
                exact h1)
              have A7 : w7.ownsRow w.heap.size 32 2 (.slice A2 N2 cA2) N2 (oc.flatMap (msc st)) := Out.own O7.out T6.out.row (fun g hg e => by
                obtain ⟨o, h1, h2⟩ := mapS_blk T6.out.mp.W
                rw [← e] at h1
                have h3 := row_isCells T6.out.row (k := g) (by rw [ownBlock_slice] at hg; exact hg) h1
                rw [h3] at h2; cases h2)
              have A8 := Lib.hid (Out.own O8.out A7 (own_ne A7 T7.out (by decide)))
              have O68 : Hid (Out (BS b (some m1) (some m2) (some m3)) w wc) := Lib.hid ((T6.out.out.trans O7.out (fun k hk => .inl (.inr (.inr (.inr (by rw [hk])))))).trans O8.out (fun k hk => .inl (.inl hk)))
              have hlen := T6.out.len
              have hle := T6.out.le
              have HLE2 := Lib.hid (one_less hkap HY.out.1)
              have hgo := Lib.hid T6.out.go
              have hsub := Lib.hid T6.out.sub
              have htold := Lib.hid T6.out.told
              have hltn := Lib.hid T6.out.lt
              have hsz8 := O68.out.size
              clear kx fx a0 A7 T7 Q7 O8 HM1 O7 T6 Q6 R6 hl6 hl7 hlt6
              have HLN := Lib.hid hlen
              have HN4 : N2 ≤ 4097 := by omega
              clear hlen
              have a0 : wc.cell? ⟨q, 0, none⟩ = some (.int .u16 (st : Int)) := cell_of Q8.out rfl
              go_wp2_with (at_builtin; have HM := Lib.hid (new_at wc (.cells #[.int .u16 (st : Int), .slice y.A y.x.2.2.length y.c] 32)); have HV := Lib.hid (up_alloc wc (.cells #[.int .u16 (st : Int), .slice y.A y.x.2.2.length y.c] 32)); clear a0; generalize hW4 : wc.alloc (.cells #[.int .u16 (st : Int), .slice y.A y.x.2.2.length y.c] 32) = W4 at HM HV ⊢; have T9 := Lib.hid ((HV.out.block _ (lt_of_blk T8.out)).trans T8.out); have Q9 := Lib.hid ((HV.out.block _ (lt_of_blk Q8.out)).trans Q8.out); have A9 := Lib.hid (own_up A8.out HV.out); have M9 := Lib.hid (M8.out.keep (HV.out.block _ M8.out.lt.1) (HV.out.block _ M8.out.lt.2.1) (HV.out.block _ M8.out.lt.2.2)); have O9 := Lib.hid (O68.out.trans (HV.out.out (BS b (some m1) (some m2) (some m3))) (Sub.refl _ _)); refine wpList_appendG rfl (.tmp 75) (.tmp 80) 52 rfl w.heap.size 32 (.agg #[.int .u16 0, .slice none 0 0]) 2 32 Try.underlying52 info32 rfl (by omega) A2 N2 cA2 (oc.flatMap (msc st)) rfl A9.out (some ⟨wc.heap.size, 0, none⟩) 1 1 (msc st y) rfl rfl (fun _ => ⟨_, 0, rfl, lt_of_blk HM.out, fun j u hu => by rw [Nat.zero_add]; exact cell_of HM.out (by simpa [msc] using hu)⟩) (by have := msc_one st [y]; simpa using this) (by omega) (by omega) O9.out.size ?_; intro A5 N5 c5 w5 HN5 HW5 HO5 HE5)
              have hne : ∀ {k T : Nat} {cs : Array Value}, W4.heap[k]? = some (.cells cs T (0, 0)) → 32 ≠ T → ¬ blk? A2 = some k := fun {k T cs} h h2 e => own_ne A9.out h h2 k (by rw [ownBlock_slice]; exact e) rfl
              have hnm : ∀ {k : Nat}, (∃ o : Obj, W4.heap[k]? = some o ∧ o.isCells = false) → ¬ blk? A2 = some k := fun {k} ⟨o, h1, h2⟩ e => by
                rw [row_isCells A9.out e h1] at h2; cases h2
              have hN5 : N5 = N2 + 1 := by have := HN5.out; omega
              have HTN : Hid (PSt w b st m1 m2 m3 l ma nx w5 A5 N5 c5 (mc.filter fun z => !(decide (z.x.1 = st) && decide (z.x.2.1 = nc st))) (oc ++ [y]) (Fg.upd nc st)) := Lib.hid {
                row := by have h1 := HW5.out; rw [List.flatMap_append]; simpa using h1
                top := HO5.out.blk T9.out (hne T9.out (by decide))
                mp := M9.out.keep (HO5.out.block _ M9.out.lt.1 (hnm (mapS_blk M9.out.P))) (HO5.out.block _ M9.out.lt.2.1 (hnm (by obtain ⟨E, hE, _⟩ := M9.out.T; exact mapU_blk hE))) (HO5.out.block _ M9.out.lt.2.2 (hnm (mapS_blk M9.out.W)))
                len := by rw [hN5, HLN.out]; simp
                le := by
                  have h1 := HLE2.out
                  rw [HY.out.2.1, HY.out.2.2] at h1
                  rw [List.length_append]
                  simp only [List.length_cons, List.length_nil]
                  omega
                sub := List.filter_sublist.trans hsub.out
                told := fun z hz => by
                  rcases List.mem_append.1 hz with h1 | h1
                  · exact htold.out z h1
                  · rw [List.mem_singleton.1 h1]; exact hsub.out.subset HY.out.1
                lt := fun s => by
                  unfold Fg.upd
                  split
                  · omega
                  · exact hltn.out s
                go := fun ms W' nx' hh => by
                  rw [ts_less] at hh
                  have h1 := hgo.out _ _ _ (Turns.go y.x (List.mem_map.2 ⟨y, HY.out.1, rfl⟩) HY.out.2.1 HY.out.2.2 hh)
                  simpa using h1
                out := O9.out.trans HO5.out (fun k hk => .inr (row_lt A9.out hk).1) }
              have QN : Hid (w5.heap[q]? = _) := Lib.hid (HO5.out.blk Q9.out (hne Q9.out (by decide)))
              have hN2m : N2 < ma.length := by have h1 := HLE2.out; have h2 := HLN.out; omega
              go_roundw
              case rel => exact ⟨A5, N5, c5, _, oc ++ [y], Fg.upd nc st, rfl, HTN, QN⟩
              case measure => simp [lenV]; omega
end Go.Proofs.Ytgcabidhpnaoiaa
