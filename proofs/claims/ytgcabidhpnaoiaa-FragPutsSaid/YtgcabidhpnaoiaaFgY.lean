import Derived.Test.YtgcabidhpnaoiaaFgG
import Derived.Test.YtgcabidhpnaoiaaFgR6
import Derived.Test.YtgcabidhpnaoiaaFgS
import Derived.Test.YtgcabidhpnaoiaaBx7
import Derived.Deep.RegionLaw
namespace Go.Proofs.Ytgcabidhpnaoiaa
open Go Go.RowKit Fg
set_option linter.unusedVariables false
set_option linter.unusedSimpArgs false
/-! The reference's Put: a piece that is held. -/
/-- 'append' within a region that draws. -/
theorem step_app {P : Program} {ops : Array Oper} {o : Oper} {a : Act} {w : World} {K : Act → World → Prop} {Q : Exit → Act → World → Prop} {E : Prop} (hg : o.guard = none) (s x : Operand) (t e : TypeId) (z : Value) (sz bytes : Nat) (hop : o.op = .call { callee := .builtin .append, args := #[s, x], argTypes := #[t, t] })
    (ht : P.underlying t = some (.slice e)) (hinfo : (P.info? e).map (fun i => (i.zero, i.size, i.bytes)) = some (some z, sz, bytes)) (hz : z.cells.size = sz) (hsz : 0 < sz)
    {A : Option Addr} {n c : Nat} {xs : List Value} (hs : a.eval s = .slice A n c) (hown : w.ownsRow 0 e sz (.slice A n c) n xs) {B : Option Addr} {m d : Nat} {news : List Value} (hx : a.eval x = .slice B m d) (hl : news.length = m * sz) (hc : Cells w B news) (h1 : ∀ u ∈ news, u.oneCell' = true)
    (h63 : n + m ≤ 9223372036854775807) (hbytes : (n + m) * bytes ≤ 140737488355328)
    (hK : ∀ A' c' w', Hid (w'.ownsRow 0 e sz (.slice A' (n + m) c') (n + m) (xs ++ news)) → Hid (Out (fun k => blk? A = some k) w w') → Hid (blk? A' = blk? A ∨ blk? A' = some w.heap.size) → K (a.put o.dst (.slice A' (n + m) c')) w') :
    if Region.wanted o (yielded ops a.tmps) = true then Oper.wp P o a w K Q else E := by
  have hw : Region.wanted o (yielded ops a.tmps) = true := by simp [Region.wanted, hg]
  rw [if_pos hw]
  obtain ⟨A', c', w', hr, h2, h3, h4⟩ := append_G (ty := o.type) ht hinfo hz hsz hown B m d news hl hc h1 h63 hbytes (Nat.zero_le _)
  unfold Oper.wp
  rw [x_append s x t t hop hs hx hr]
  exact hK A' c' w' h3 h2 h4
namespace Fg
theorem Turns.nx_lt {s : Nat} {W W' : List Lt} {nx nx' : Nat → Nat} {ms : List (Nat × List Int)} (h : Turns s W nx ms W' nx') (hn : ∀ k, nx k < 65536) : ∀ k, nx' k < 65536 := by
  induction h with
  | stop _ _ => exact hn
  | go x hx h1 h2 h ih =>
    refine ih fun k => ?_
    unfold upd
    split
    · omega
    · exact hn k
theorem ts_more (m : List LtB) (y : LtB) : (ts (more m y)).Perm (addW (ts m) y.x) := by
  have h9 := addW_end (ts m) y.x
  have h10 : ts (more m y) = if (ts m).any (fun z => decide (z.1 = y.x.1) && decide (z.2.1 = y.x.2.1)) then ts m else ts m ++ [y.x] := by
    unfold more ts
    rw [List.any_map]
    split
    · rename_i hh; rw [if_pos]; exact hh
    · rename_i hh; rw [if_neg, List.map_append]
      · rfl
      · exact hh
  rw [h10]; exact h9
theorem more_mem {m : List LtB} {y z : LtB} (h : z ∈ more m y) : z ∈ m ∨ z = y := by
  unfold more at h
  split at h
  · exact .inl h
  · rcases List.mem_append.1 h with h | h
    · exact .inl h
    · exact .inr (List.mem_singleton.1 h)
theorem more_len (m : List LtB) (y : LtB) : (more m y).length ≤ m.length + 1 := by
  unfold more
  split
  · omega
  · simp
structure RPutP (b : Nat) (H W : Option Addr) (l : List PcB) (m : List LtB) (nx : Nat → Nat) (p : Pc) (w w' : World) (r : Int) (A : Option Addr) (N c : Nat) (ms : List MsB) (H' : Option Addr) (cH' : Nat) (l' : List PcB) (W' : Option Addr) (d' : Nat) (m' : List LtB) (nx' : Nat → Nat) : Prop where
  rb : RB w' b H' cH' l' W' d' m' nx'
  row : w'.ownsRow w.heap.size 32 2 (.slice A N c) N (ms.flatMap mc)
  len : N = ms.length
  by_ : ∀ x ∈ ms, OwnI .u8 5 0 w' x.A x.m.2.length x.c x.m.2 ∧ Byt x.m.2 ∧ x.m.2.length ≤ 131072
  put : PutR ⟨ps l, ts m, nx⟩ p r (ms.map (·.m)) ⟨ps l', ts m', nx'⟩
  out : Out (fun k => k = b ∨ blk? H = some k ∨ blk? W = some k) w w'
  subH : ∀ k, blk? H' = some k → blk? H = some k ∨ w.heap.size ≤ k
  subW : ∀ k, blk? W' = some k → blk? W = some k ∨ w.heap.size ≤ k
  lt : ∀ s, nx' s < 65536
  le : m'.length ≤ m.length + 1
  l256 : ∀ y ∈ l', y.p.bs.length ≤ 256
  mW : ∀ y ∈ m', y.x.2.2.length ≤ 131072
def RPost (b : Nat) (H W : Option Addr) (l : List PcB) (m : List LtB) (nx : Nat → Nat) (p : Pc) (w : World) (e : Ending) (w' : World) : Prop :=
  ∃ r A N c ms H' cH' l' W' d' m' nx', e = .returned (.tuple #[.slice A N c, .int .i64 r]) ∧ Hid (RPutP b H W l m nx p w w' r A N c ms H' cH' l' W' d' m' nx')
end Fg
set_option maxRecDepth 100000 in
set_option maxHeartbeats 8000000 in
theorem rput_ok (b t st sq n c : Nat) (bg en un : Bool) (A H W : Option Addr) (cH d : Nat) (nx : Nat → Nat) (l : List PcB) (m : List LtB) (bs : List Int) (w : World) (hn0 : 0 < n) (hn1 : n ≤ 256) (hst : st < 8) (hb : l.length < 512) (hRB : RB w b H cH l W d m nx)
    (ht : ∀ q ∈ ps l, q.tsn ≠ t) (hin : InB w A n c bs) (ht32 : t < 4294967296) (hsq : sq < 65536) (ha : Apart (ps l)) (hkw : KApart (ts m)) (h256 : ∀ y ∈ l, y.p.bs.length ≤ 256) (hmW : ∀ y ∈ m, y.x.2.2.length ≤ 131072) (hnx : ∀ s, nx s < 65536) (hmm : m.length ≤ 4000) :
    Calls Try.prog 17 #[.pointer (some ⟨b, 0, none⟩), .agg #[.int .u32 (t : Int), .int .u16 (st : Int), .int .u16 (sq : Int), .bool bg, .bool en, .bool un, .slice A n c]] w (RPost b H W l m nx ⟨t, st, sq, un, bg, en, bs⟩ w) := by
  have htop := hRB.top
  have hr := hRB.row
  have hrW := hRB.rowW
  have hbyW := hRB.byW
  have hbd0 := hRB.bd
  have hby : ∀ y ∈ l, OwnI .u8 5 0 w y.A y.p.bs.length y.c y.p.bs ∧ y.p.bs.length ≤ 256 := fun y hy => ⟨(hRB.by_ y hy).1, h256 y hy⟩
  have hbyt : ∀ y ∈ l, Byt y.p.bs := fun y hy => (hRB.by_ y hy).2
  have HRW := Lib.hid hrW
  have HBW := Lib.hid hbyW
  have HKW := Lib.hid hkw
  have HMW := Lib.hid hmW
  have HNX := Lib.hid hnx
  have HBYT := Lib.hid hbyt
  have HINB := Lib.hid hin.byt
  have HIN0 := Lib.hid hin.len
  have hWt : ∀ k, blk? W = some k → k < w.heap.size := fun k hk => (row_lt hrW hk).2
  have HWT := Lib.hid hWt
  clear hRB hrW hbyW hkw hmW hnx hbyt hWt
  have hq := new_at w (.cells #[.int .u32 (t : Int), .int .u16 (st : Int), .int .u16 (sq : Int), .bool bg, .bool en, .bool un, .slice A n c] 51)
  have hu := up_alloc w (.cells #[.int .u32 (t : Int), .int .u16 (st : Int), .int .u16 (sq : Int), .bool bg, .bool en, .bool un, .slice A n c] 51)
  have HU := Lib.hid hu
  have HHQ := Lib.hid (fun k (hk : blk? H = some k) => (row_lt hr hk).2)
  have HQ := Lib.hid hq
  have HK := Lib.hid (ix_no ht)
  have HR := Lib.hid (own_up hr HU.out)
  have HT := Lib.hid ((hu.block b (lt_of_blk htop)).trans htop)
  have HI := Lib.hid (hin.up hu)
  have hbl := lt_of_blk htop
  have HT0 := Lib.hid ht
  have HA0 := Lib.hid ha
  have HB0 := Lib.hid hbd0
  have HY0 := Lib.hid hby
  have HR00 := Lib.hid hr
  have HT00 := Lib.hid htop
  clear hr ht htop hin hu hq ha hbd0 hby
  have t0 : ((n : Int) == 0) = false := by rw [beq_eq_false_iff_ne]; omega
  have t1 : decide ((256 : Int) < (n : Int)) = false := by simp; omega
  have t2 : decide ((8 : Int) ≤ (st : Int)) = false := by simp; omega
  have t3 : decide ((512 : Int) ≤ (l.length : Int)) = false := by simp; omega
  go_enter Try.func17, Try.ntmps17
  go_upto_region 3 with (fail)
  generalize w.alloc (.cells #[.int .u32 (t : Int), .int .u16 (st : Int), .int .u16 (sq : Int), .bool bg, .bool en, .bool un, .slice A n c] 51) = W1 at HU HQ HR HT HI ⊢
  have hsz : w.heap.size < W1.heap.size := lt_of_blk HQ.out
  generalize hqq : w.heap.size = q at HQ HHQ hbl hsz ⊢
  have q0 : W1.cell? ⟨q, 0, none⟩ = some (.int .u32 (t : Int)) := cell_of HQ.out rfl
  have q6 : W1.cell? ⟨q, 6, none⟩ = some (.slice A n c) := cell_of HQ.out rfl
  have k0 : W1.cell? ⟨b, 0, none⟩ = some (.slice H l.length cH) := cell_of HT.out rfl
  go_wp2_with fail
  refine (piece_any b t H cH l _ (by omega) k0 HR.out).mono ?_
  rintro e w2 ⟨rfl, rfl⟩
  rw [HK.out]
  unfold ixV
  go_upto_region 8 with (at_builtin; refine wpList_appendI rfl (.tmp 38) (.tmp 40) 30 rfl .u8 w2.heap.size 5 1 Try.underlying30 info5 (some ⟨w2.heap.size, 0, none⟩) 0 0 [] rfl (ownI_new _ _ _) A n c bs rfl HI.out.len (HI.out.cells.alloc _) (by omega) (by omega) (by simp) ((Below.refl _ _).alloc (Nat.le_refl _) _) ?_; intro A3 N3 c3 w3 HN3 HW3 HU3 hsz3; have HQ3 := Lib.hid ((HU3.out.block q (lt_of_blk HQ.out)).trans HQ.out); have q6' : w3.cell? ⟨q, 6, none⟩ = some (.slice A n c) := cell_of HQ3.out rfl; have f6' : w3.frozen? ⟨q, 6, none⟩ = false := frozen_at HQ3.out; have k0' : w3.cell? ⟨b, 0, none⟩ = some (.slice H l.length cH) := cell_up k0 HU3.out; clear q0 q6 k0)
  have hq4 := setCell_at (j := 6) (.slice A3 N3 c3) HQ3.out
  have hO4 := setCell_out w3 q 6 (.slice A3 N3 c3)
  have hbq : ¬ b = q := by omega
  have hT4 := hO4.blk ((HU3.out.block b (lt_of_blk HT.out)).trans HT.out) hbq
  have hR4 := Out.own hO4 (own_up HR.out HU3.out) (fun g hg e => by have := HHQ.out g (by rw [ownBlock_slice] at hg; exact hg); have : g = q := e; omega)
  have HO4 := Lib.hid hO4
  have HT4 := Lib.hid hT4
  have HR4 := Lib.hid hR4
  have HQ4 := Lib.hid hq4
  clear hO4 hT4 hR4 hq4 q6' f6' k0'
  generalize w3.setCell ⟨q, 6, none⟩ (.slice A3 N3 c3) = w4 at HO4 HT4 HR4 HQ4 ⊢
  have k0 : w4.cell? ⟨b, 0, none⟩ = some (.slice H l.length cH) := cell_of HT4.out rfl
  have f0 : w4.frozen? ⟨b, 0, none⟩ = false := frozen_at HT4.out
  have q0 : w4.cell? ⟨q, 0, none⟩ = some (.int .u32 (t : Int)) := cell_of HQ4.out rfl
  have q1 : w4.cell? ⟨q, 1, none⟩ = some (.int .u16 (st : Int)) := cell_of HQ4.out rfl
  have q2 : w4.cell? ⟨q, 2, none⟩ = some (.int .u16 (sq : Int)) := cell_of HQ4.out rfl
  have q3 : w4.cell? ⟨q, 3, none⟩ = some (.bool bg) := cell_of HQ4.out rfl
  have q4 : w4.cell? ⟨q, 4, none⟩ = some (.bool en) := cell_of HQ4.out rfl
  have q5 : w4.cell? ⟨q, 5, none⟩ = some (.bool un) := cell_of HQ4.out rfl
  have q6 : w4.cell? ⟨q, 6, none⟩ = some (.slice A3 N3 c3) := cell_of HQ4.out rfl
  have HV : Hid (Up w4 (w4.alloc (.cells #[.int .u32 (t : Int), .int .u16 (st : Int), .int .u16 (sq : Int), .bool bg, .bool en, .bool un, .slice A3 N3 c3] 51)).drew) := Lib.hid ((up_alloc w4 (.cells #[.int .u32 (t : Int), .int .u16 (st : Int), .int .u16 (sq : Int), .bool bg, .bool en, .bool un, .slice A3 N3 c3] 51)).trans (Up.drew _))
  have HRV := Lib.hid (own_up HR4.out HV.out)
  have HTV := Lib.hid ((HV.out.block b (lt_of_blk HT4.out)).trans HT4.out)
  have HNV : Hid ((w4.alloc (.cells #[.int .u32 (t : Int), .int .u16 (st : Int), .int .u16 (sq : Int), .bool bg, .bool en, .bool un, .slice A3 N3 c3] 51)).drew.heap[w4.heap.size]? = some (.cells #[.int .u32 (t : Int), .int .u16 (st : Int), .int .u16 (sq : Int), .bool bg, .bool en, .bool un, .slice A3 N3 c3] 51)) := Lib.hid (((Up.drew _).block _ (lt_of_blk (new_at w4 (.cells #[.int .u32 (t : Int), .int .u16 (st : Int), .int .u16 (sq : Int), .bool bg, .bool en, .bool un, .slice A3 N3 c3] 51)))).trans (new_at w4 (.cells #[.int .u32 (t : Int), .int .u16 (st : Int), .int .u16 (sq : Int), .bool bg, .bool en, .bool un, .slice A3 N3 c3] 51)))
  have HCV : Hid (Cells (w4.alloc (.cells #[.int .u32 (t : Int), .int .u16 (st : Int), .int .u16 (sq : Int), .bool bg, .bool en, .bool un, .slice A3 N3 c3] 51)).drew (some ⟨w4.heap.size, 0, none⟩) [.int .u32 (t : Int), .int .u16 (st : Int), .int .u16 (sq : Int), .bool bg, .bool en, .bool un, .slice A3 N3 c3]) := Lib.hid (fun _ => ⟨_, 0, rfl, lt_of_blk HNV.out, fun j u hu => by rw [Nat.zero_add]; exact cell_of HNV.out (by simpa using hu)⟩)
  have HbH : Hid (¬ blk? H = some b) := Lib.hid (fun e => own_ne HR4.out HT4.out (by decide) b (by rw [ownBlock_slice]; exact e) rfl)
  have kV : (w4.alloc (.cells #[.int .u32 (t : Int), .int .u16 (st : Int), .int .u16 (sq : Int), .bool bg, .bool en, .bool un, .slice A3 N3 c3] 51)).drew.cell? ⟨b, 0, none⟩ = some (.slice H l.length cH) := cell_of HTV.out rfl
  go_cut [43] (fun s wx => s = .pointer (some ⟨b, 0, none⟩) ∧ ∃ (A5 : Option Addr) (c5 : Nat), Hid (wx.heap[b]? = some (.cells (rbBlk A5 (l.length + 1) c5 W m.length d nx) 48 (0, 0))) ∧ Hid (wx.ownsRow 0 51 7 (.slice A5 (l.length + 1) c5) (l.length + 1) (l.flatMap pcc ++ [.int .u32 (t : Int), .int .u16 (st : Int), .int .u16 (sq : Int), .bool bg, .bool en, .bool un, .slice A3 N3 c3])) ∧ Hid (Out (fun k => k = b ∨ blk? H = some k) w4 wx) ∧ Hid (∀ k, blk? A5 = some k → blk? H = some k ∨ w4.heap.size ≤ k))
  case first =>
    go_region_law (refine step_app rfl (.tmp 47) (.tmp 49) 35 51 (.agg #[.int .u32 0, .int .u16 0, .int .u16 0, .bool false, .bool false, .bool false, .slice none 0 0]) 7 40 rfl Try.underlying35 info51 rfl (by omega) (A := H) (n := l.length) (c := cH) (by simp [Act.eval, Act.put]) HRV.out (B := some ⟨w4.heap.size, 0, none⟩) (m := 1) (d := 1) (by simp [Act.eval, Act.put]) (by rfl) HCV.out (by simp [Value.oneCell']) (by omega) (by omega) ?_; intro A5 c5 w5 HR5 HO5 HE5; have T5 := Lib.hid (HO5.out.blk HTV.out HbH.out); have k5 : w5.cell? ⟨b, 0, none⟩ = some (.slice H l.length cH) := cell_of T5.out rfl; have f5 : w5.frozen? ⟨b, 0, none⟩ = false := frozen_at T5.out; clear k0 f0)
    all_goals
      have hO6 := setCell_out w5 b 0 (.slice A5 (l.length + 1) c5)
      have hT6 := setCell_at (j := 0) (.slice A5 (l.length + 1) c5) T5.out
      rw [rb_held] at hT6
      have hR6 := Out.own hO6 HR5.out (own_ne HR5.out T5.out (by decide))
      have hOO := ((HV.out.out (fun k => k = b ∨ blk? H = some k)).trans (HO5.out.mono (fun k hk => .inr hk)) (Sub.refl _ _)).trans (hO6.mono (fun k hk => .inl hk)) (Sub.refl _ _)
      have hA5 : ∀ k, blk? A5 = some k → blk? H = some k ∨ w4.heap.size ≤ k := fun k hk => by
        rcases HE5.out with e | e
        · exact .inl (by rw [← e]; exact hk)
        · rw [e] at hk
          have h1 := HV.out.size
          have h2 : _ = k := Option.some.inj hk
          exact .inr (by omega)
      have T6 := Lib.hid hT6
      have R6 := Lib.hid hR6
      have O6 := Lib.hid hOO
      have A6 := Lib.hid hA5
      clear hO6 hT6 hR6 hOO hA5
      go_wp2_with fail
      go_meet
      exact ⟨rfl, A5, c5, T6, R6, O6, A6⟩
  case rest =>
    obtain ⟨rfl, A5, c5, T6, R6, O6, A6⟩ := hcut
    have hN3 : N3 = n := by have := HN3.out; omega
    have hbn := HI.out.len
    obtain ⟨x, hx⟩ : ∃ x : PcB, x = ⟨⟨t, st, sq, un, bg, en, bs⟩, A3, c3⟩ := ⟨_, rfl⟩
    have hl1 : (l ++ [x]).length = l.length + 1 := by simp
    have hrow : (l ++ [x]).flatMap pcc = l.flatMap pcc ++ [.int .u32 (t : Int), .int .u16 (st : Int), .int .u16 (sq : Int), .bool bg, .bool en, .bool un, .slice A3 N3 c3] := by rw [hx, List.flatMap_append]; simp [pcc, hbn, hN3]
    have R7 : Hid (wc.ownsRow 0 51 7 (.slice A5 (l ++ [x]).length c5) (l ++ [x]).length ((l ++ [x]).flatMap pcc)) := Lib.hid (by rw [hrow, hl1]; exact R6.out)
    have T7 : Hid (wc.heap[b]? = some (.cells (rbBlk A5 (l ++ [x]).length c5 W m.length d nx) 48 (0, 0))) := Lib.hid (by rw [hl1]; exact T6.out)
    have Q7 : Hid (wc.heap[q]? = _) := Lib.hid (O6.out.blk HQ4.out (fun e => by
      rcases e with e | e
      · omega
      · have := HHQ.out q e; omega))
    have HX := Lib.hid hx
    have HYX : Hid (∀ y ∈ l ++ [x], OwnI .u8 5 0 wc y.A y.p.bs.length y.c y.p.bs ∧ y.p.bs.length ≤ 256) := Lib.hid (by
      have key : ∀ {A : Option Addr} {N c : Nat} {zs : List Int}, OwnI .u8 5 0 w3 A N c zs → OwnI .u8 5 0 wc A N c zs := fun {A N c zs} h => by
        have h1 : OwnI .u8 5 0 w4 A N c zs := Out.own HO4.out h (own_ne h HQ3.out (by decide))
        refine Out.own O6.out h1 (fun g hg e => ?_)
        rcases e with e | e
        · exact own_ne h1 HT4.out (by decide) g hg e
        · exact rows_ne h1 HR4.out (by decide) g hg (by rw [ownBlock_slice]; exact e)
      intro y hy
      rcases List.mem_append.1 hy with h1 | h1
      · obtain ⟨h2, h3⟩ := HY0.out y h1
        exact ⟨key (own_up (own_up h2 HU.out) HU3.out), h3⟩
      · rw [List.mem_singleton.1 h1, hx]
        refine ⟨?_, by show bs.length ≤ 256; omega⟩
        have h4 : OwnI .u8 5 0 w3 A3 N3 c3 bs := by
          have := HW3.out
          rw [List.nil_append] at this
          exact this.mono (Nat.zero_le _)
        show OwnI .u8 5 0 wc A3 bs.length c3 bs
        rw [hbn, ← hN3]
        exact key h4)
    have keyR : ∀ {e s N c : Nat} {A : Option Addr} {zs : List Value}, e ≠ 51 → e ≠ 48 → w.ownsRow 0 e s (.slice A N c) N zs → wc.ownsRow 0 e s (.slice A N c) N zs := fun {e s N c A zs} h51 h48 h => by
      have h1 : w4.ownsRow 0 e s (.slice A N c) N zs := Out.own HO4.out (own_up (own_up h HU.out) HU3.out) (own_ne (own_up (own_up h HU.out) HU3.out) HQ3.out h51)
      refine Out.own O6.out h1 (fun g hg e => ?_)
      rcases e with e | e
      · exact own_ne h1 HT4.out h48 g hg e
      · exact rows_ne h1 HR4.out h51 g hg (by rw [ownBlock_slice]; exact e)
    have RW7 := Lib.hid (keyR (by decide) (by decide) HRW.out)
    have BW7 : Hid (∀ y ∈ m, OwnI .u8 5 0 wc y.A y.x.2.2.length y.c y.x.2.2 ∧ Byt y.x.2.2) := Lib.hid (fun y hy => ⟨keyR (by decide) (by decide) (HBW.out y hy).1, (HBW.out y hy).2⟩)
    have OW7 : Hid (Out (fun k => k = b ∨ blk? H = some k ∨ blk? W = some k) w wc) := Lib.hid (by
      have h1 : Out (fun k => k = q) w w4 := ((HU.out.trans HU3.out).out _).trans HO4.out (Sub.refl _ _)
      have h2 : Out (fun k => k = q ∨ (k = b ∨ blk? H = some k)) w wc := (h1.mono (fun k hk => .inl hk)).trans (O6.out.mono (fun k hk => .inr hk)) (Sub.refl _ _)
      exact ⟨h2.os, h2.tape, h2.output, h2.size, fun k hk hn => h2.block k hk (fun h => by
        rcases h with h | h | h
        · omega
        · exact hn (.inl h)
        · exact hn (.inr (.inl h)))⟩)
    have A7 : Hid (∀ k, blk? A5 = some k → blk? H = some k ∨ w.heap.size ≤ k) := Lib.hid (fun k hk => by
      rcases A6.out k hk with h | h
      · exact .inl h
      · exact .inr (by have := (HU.out.trans HU3.out).size; have := HO4.out.size; omega))
    have hLp : Hid (ps (l ++ [x]) = ps l ++ [⟨t, st, sq, un, bg, en, bs⟩]) := Lib.hid (by unfold ps; rw [List.map_append, hx]; rfl)
    have hLb : Hid (∀ y ∈ l ++ [x], Byt y.p.bs) := Lib.hid (fun y hy => by
      rcases List.mem_append.1 hy with h1 | h1
      · exact HBYT.out y h1
      · rw [List.mem_singleton.1 h1, hx]; exact HINB.out)
    have hap : Hid (Apart (ps (l ++ [x]))) := Lib.hid (by
      unfold ps Apart
      rw [List.map_append, List.pairwise_append]
      refine ⟨HA0.out, by simp, fun y hy z hz => ?_⟩
      have hz2 : z = x.p := by simpa using hz
      rw [hz2, hx]
      exact HT0.out y hy)
    have hbd : Hid (∀ y ∈ l ++ [x], y.p.tsn < 4294967296 ∧ y.p.st < 65536 ∧ y.p.sq < 65536) := Lib.hid (fun y hy => by
      rcases List.mem_append.1 hy with h1 | h1
      · exact HB0.out y h1
      · rw [List.mem_singleton.1 h1, hx]
        exact ⟨ht32, by show st < 65536; omega, hsq⟩)
    have hL : (l ++ [x]).length ≤ 512 := by rw [hl1]; omega
    generalize hll : l ++ [x] = L at R7 T7 hap hbd hL HYX hLp hLb ⊢
    clear hrow hl1 hx R6 T6 keyR k0 f0 q0 q1 q2 q3 q4 q5 q6 kV hbn hN3
    go_wp2_with fail
    go_loopw [6] (fun kv wr => ∃ k : Nat, k ≤ 512 ∧ kv = .int .u32 (k : Int) ∧ Hid (∀ j, j < k → ∃ n', FromR (ps L) (Fg.sub t j) n' ∧ n' ≤ j) ∧ Hid (Up wc wr)) (fun kv _ => 512 - (intOf kv).toNat)
    case atStart => exact ⟨0, by omega, rfl, Lib.hid (fun j hj => by omega), Lib.hid (Up.refl _)⟩
    case round =>
      obtain ⟨k, hk, rfl, hA, hU⟩ := hrel
      have Q8 := Lib.hid ((hU.out.block _ (lt_of_blk Q7.out)).trans Q7.out)
      have q0 : wr.cell? ⟨q, 0, none⟩ = some (.int .u32 (t : Int)) := cell_of Q8.out rfl
      by_cases hlt : k < 512
      · have d1 : decide ((k : Int) < 512) = true := by simp; omega
        have e1 : ((t : Int) - (k : Int)) % 4294967296 = ((Fg.sub t k : Nat) : Int) := by unfold Fg.sub; omega
        have T8 := Lib.hid ((hU.out.block b (lt_of_blk T7.out)).trans T7.out)
        have R8 := Lib.hid (own_up R7.out hU.out)
        have k8 : wr.cell? ⟨b, 0, none⟩ = some (.slice A5 L.length c5) := cell_of T8.out rfl
        go_wp2_with fail
        rw [e1]
        refine (from_any b (Fg.sub t k) A5 c5 L wr hL (sub_lt t k) hbd.out hap.out k8 R8.out).mono ?_
        rintro e w9 ⟨n', rfl, hF, hU9⟩
        have HF := Lib.hid hF
        clear hF e1 q0 k8
        by_cases hnk : n' ≤ k
        · have d2 : decide ((n' : Int) ≤ (k : Int)) = true := by simp; omega
          have HA2 : Hid (∀ j, j < k + 1 → ∃ n', FromR (ps L) (Fg.sub t j) n' ∧ n' ≤ j) := Lib.hid (fun j hj => by
            by_cases e : j = k
            · subst e; exact ⟨n', HF.out, hnk⟩
            · exact hA.out j (by omega))
          go_wp2_with fail
          go_roundw
          case rel => exact ⟨k + 1, by omega, by go_num, HA2, Lib.hid (hU.out.trans hU9.out)⟩
          case measure => simp [intOf]; omega
        · have HM : Hid (Mine (ps L) t (Fg.sub t k) n') := Lib.hid (mine_of_from ht32 hlt HF.out (by omega))
          have d2 : decide ((n' : Int) ≤ (k : Int)) = false := by simp; omega
          have T9 := Lib.hid ((hU9.out.block b (lt_of_blk T8.out)).trans T8.out)
          have R9 := Lib.hid (own_up R8.out hU9.out)
          have Y9 : Hid (∀ y ∈ L, OwnI .u8 5 0 w9 y.A y.p.bs.length y.c y.p.bs ∧ y.p.bs.length ≤ 256) := Lib.hid (fun y hy => ⟨own_up (own_up (HYX.out y hy).1 hU.out) hU9.out, (HYX.out y hy).2⟩)
          have HD1 : Hid (∀ y ∈ L, y.p.tsn < 4294967296) := Lib.hid (fun y hy => (hbd.out y hy).1)
          go_wp2_with fail
          refine (out_any b (Fg.sub t k) n' A5 c5 L W m.length d nx w9 hL HM.out.1 HD1.out hap.out T9.out R9.out Y9.out).mono ?_
          rintro e w10 ⟨A10, N10, c10, H10, cH10, rfl, Z1, Z2, Z3, Z4⟩
          have Q10 := Lib.hid (Z4.out.blk ((hU9.out.block _ (lt_of_blk Q8.out)).trans Q8.out) (by have := HHQ.out; have h9 := hbl; omega))
          have keyS : ∀ {e s N c : Nat} {A : Option Addr} {zs : List Value}, e ≠ 48 → wc.ownsRow 0 e s (.slice A N c) N zs → w10.ownsRow 0 e s (.slice A N c) N zs := fun {e s N c A zs} h48 h =>
            Out.own Z4.out (own_up (own_up h hU.out) hU9.out) (own_ne (own_up (own_up h hU.out) hU9.out) T9.out h48)
          have RW10 := Lib.hid (keyS (by decide) RW7.out)
          have BW10 : Hid (∀ y ∈ m, OwnI .u8 5 0 w10 y.A y.x.2.2.length y.c y.x.2.2 ∧ Byt y.x.2.2) := Lib.hid (fun y hy => ⟨keyS (by decide) (BW7.out y hy).1, (BW7.out y hy).2⟩)
          have BY10 : Hid (∀ y ∈ L, OwnI .u8 5 0 w10 y.A y.p.bs.length y.c y.p.bs) := Lib.hid (fun y hy => keyS (by decide) (HYX.out y hy).1)
          have OW10 : Hid (Out (fun k => k = b ∨ blk? H = some k ∨ blk? W = some k) w w10) := Lib.hid ((OW7.out.trans ((hU.out.trans hU9.out).out (fun k => k = b)) (fun k hk => .inl (.inl hk))).trans Z4.out (fun k hk => .inl (.inl hk)))
          have hsz9 : w.heap.size ≤ w9.heap.size := by have h1 := OW7.out.size; have h2 := (hU.out.trans hU9.out).size; omega
          have hsz10 : w9.heap.size ≤ w10.heap.size := Z4.out.size
          have HPERM : Hid ((ps L).Perm (⟨t, st, sq, un, bg, en, bs⟩ :: ps l)) := Lib.hid (by rw [hLp.out]; exact List.perm_append_singleton _ _)
          have HMN : Hid (Mine (⟨t, st, sq, un, bg, en, bs⟩ :: ps l) t (Fg.sub t k) n') := Lib.hid (HM.out.perm HPERM.out)
          have HBYE : Hid (bytesOf (ps L) (Fg.sub t k) n' = bytesOf (⟨t, st, sq, un, bg, en, bs⟩ :: ps l) (Fg.sub t k) n') := Lib.hid (bytesOf_perm hap.out HPERM.out HM.out.1)
          have HRST : Hid ((ps (left L (Fg.sub t k) n')).Perm (rest (⟨t, st, sq, un, bg, en, bs⟩ :: ps l) (Fg.sub t k) n')) := Lib.hid (by
            rw [← rest_left]
            exact HPERM.out.filter _)
          have HFORM : Hid (Fg.Form ⟨t, st, sq, un, bg, en, bs⟩) := Lib.hid (by unfold Fg.Form; simp only; have h3 := HIN0.out; omega)
          have HLEN : Hid ((ps l).length < 512) := Lib.hid (by unfold ps; simpa using hb)
          have HBL : Hid ((bytesOf (ps L) (Fg.sub t k) n').length ≤ 131072 ∧ Byt (bytesOf (ps L) (Fg.sub t k) n')) := Lib.hid (by
            have h5 := HM.out.1.le
            refine ⟨Nat.le_trans (bytesOf_len (fun p hp => ?_) _ n') (by omega), bytesOf_byt (fun p hp => ?_) _ n'⟩
            · obtain ⟨y, hy, rfl⟩ := List.mem_map.1 hp
              exact (HYX.out y hy).2
            · obtain ⟨y, hy, rfl⟩ := List.mem_map.1 hp
              exact hLb.out y hy)
          have HAF : Hid (∀ k, blk? H10 = some k → blk? H = some k ∨ w.heap.size ≤ k) := Lib.hid (fun k hk => .inr (by have := (row_lt Z3.out hk).1; omega))
          have HLBD : Hid (∀ y ∈ left L (Fg.sub t k) n', OwnI .u8 5 0 w10 y.A y.p.bs.length y.c y.p.bs ∧ Byt y.p.bs ∧ y.p.bs.length ≤ 256 ∧ y.p.tsn < 4294967296 ∧ y.p.st < 65536 ∧ y.p.sq < 65536) := Lib.hid (fun y hy => by
            have h1 := (left_sub L (Fg.sub t k) n').subset hy
            exact ⟨BY10.out y h1, hLb.out y h1, (HYX.out y h1).2, hbd.out y h1⟩)
          have b5 : w10.cell? ⟨q, 5, none⟩ = some (.bool un) := cell_of Q10.out rfl
          have b1 : w10.cell? ⟨q, 1, none⟩ = some (.int .u16 (st : Int)) := cell_of Q10.out rfl
          have b2 : w10.cell? ⟨q, 2, none⟩ = some (.int .u16 (sq : Int)) := cell_of Q10.out rfl
          clear keyS RW7 BW7 BY10 OW7 T9 T8 R8 Q8 R9 Y9 Q7 R7 T7 HYX hLb hbd HF hA hU hU9 Z4 d2 d1
          cases un with
          | true =>
            have HP : Hid (RPost b H W l m nx ⟨t, st, sq, true, bg, en, bs⟩ w (.returned (.tuple #[.slice (some ⟨w10.heap.size, 0, none⟩) 1 1, .int .i64 0])) (w10.alloc (.cells #[.int .u16 (st : Int), .slice A10 N10 c10] 32))) := Lib.hid (by
              have hN := Z1.out.len
              have hu := up_alloc w10 (.cells #[.int .u16 (st : Int), .slice A10 N10 c10] 32)
              refine ⟨0, some ⟨w10.heap.size, 0, none⟩, 1, 1, [⟨(st, bytesOf (ps L) (Fg.sub t k) n'), A10, c10⟩], H10, cH10, left L (Fg.sub t k) n', W, d, m, nx, rfl, Lib.hid ⟨⟨(hu.block _ (lt_of_blk Z2.out)).trans Z2.out, own_up (row_mono Z3.out (Nat.zero_le _)) hu, own_up RW10.out hu, fun y hy => ⟨own_up (HLBD.out y hy).1 hu, (HLBD.out y hy).2.1⟩, fun y hy => ⟨own_up (BW10.out y hy).1 hu, (BW10.out y hy).2⟩, fun y hy => (HLBD.out y hy).2.2.2⟩, ?_, rfl, ?_, ?_, OW10.out.trans (hu.out (fun k => k = b)) (fun k hk => .inl (.inl hk)), HAF.out, fun k hk => .inl hk, HNX.out, by omega, fun y hy => (HLBD.out y hy).2.2.1, HMW.out⟩⟩
              · refine ⟨rfl, .inr ⟨w10.heap.size, 1, _, rfl, by omega, new_at w10 _, by omega, by unfold maxLen; omega, rfl, ?_⟩⟩
                simp [mc, hN]
              · intro y hy
                rw [List.mem_singleton.1 hy]
                refine ⟨?_, HBL.out.2, HBL.out.1⟩
                have h6 : OwnI .u8 5 w9.heap.size w10 A10 (bytesOf (ps L) (Fg.sub t k) n').length c10 (bytesOf (ps L) (Fg.sub t k) n') := by
                  have h7 := Z1.out
                  rw [← hN] at h7
                  rwa [hN] at h7 ⊢
                exact row_mono (own_up h6 hu) (Nat.zero_le _)
              · refine .inr (.inr (.inr ⟨HFORM.out, HT0.out, HLEN.out, rfl, .inr ⟨Fg.sub t k, n', HMN.out, HRST.out, .inl ⟨rfl, ?_, rfl, rfl⟩⟩⟩))
                rw [← HBYE.out]; rfl)
            go_wp2_with fail
            go_ret2
            exact HP.out
          | false =>
            have kw : w10.cell? ⟨b, 1, none⟩ = some (.slice W m.length d) := cell_of Z2.out rfl
            go_wp2_with fail
            go_loopw [10, 11] (fun fv iv wr2 => ∃ (i : Nat) (f : Bool), fv = .bool f ∧ iv = .int .i64 (i : Int) ∧ i ≤ m.length ∧ Hid (f = (m.take i).any (fun z => decide (z.x.1 = st) && decide (z.x.2.1 = sq))) ∧ Hid (Up w10 wr2)) (fun _ iv _ => m.length - (intOf iv).toNat)
            case atStart => exact ⟨0, false, rfl, rfl, by omega, Lib.hid (by simp), Lib.hid (Up.refl _)⟩
            case round =>
              obtain ⟨i, f, rfl, rfl, him, hf, hu⟩ := hrel
              have T11 := Lib.hid ((hu.out.block _ (lt_of_blk Z2.out)).trans Z2.out)
              have Q11 := Lib.hid ((hu.out.block _ (lt_of_blk Q10.out)).trans Q10.out)
              have kw : wr.cell? ⟨b, 1, none⟩ = some (.slice W m.length d) := cell_of T11.out rfl
              have b1 : wr.cell? ⟨q, 1, none⟩ = some (.int .u16 (st : Int)) := cell_of Q11.out rfl
              have b2 : wr.cell? ⟨q, 2, none⟩ = some (.int .u16 (sq : Int)) := cell_of Q11.out rfl
              by_cases hlt : i < m.length
              · have d1 : decide ((i : Int) < (m.length : Int)) = true := by simp; omega
                have hiI : (i : Int) < (m.length : Int) := by omega
                obtain ⟨y, hy⟩ : ∃ y, m[i]? = some y := ⟨_, List.getElem?_eq_getElem hlt⟩
                have hany : ∀ f', f' = (f || (decide (y.x.1 = st) && decide (y.x.2.1 = sq))) → Hid (f' = (m.take (i + 1)).any (fun z => decide (z.x.1 = st) && decide (z.x.2.1 = sq))) := fun f' hf' => Lib.hid (by
                  rw [List.take_add_one, hy, List.any_append, ← hf.out, hf']; simp)
                have HANY := Lib.hid hany
                clear hany
                cases f with
                | true =>
                  go_upto_region 22 with (fail)
                  go_quiet (fail)
                  go_wp2_with fail
                  go_roundw
                  case rel => exact ⟨i + 1, true, rfl, by go_num, by omega, HANY.out true rfl, Lib.hid (hu.out.trans (up_drewN _ _))⟩
                  case measure => simp [intOf]; omega
                | false =>
                  obtain ⟨g, hg, hc⟩ := row_lt_ (own_up RW10.out hu.out) hy
                  subst hg
                  have c0 : wr.cell? ⟨g, i * 3, none⟩ = some (.int .u16 (y.x.1 : Int)) := by have := hc 0 _ rfl; rwa [Nat.add_zero] at this
                  have c1 : wr.cell? ⟨g, i * 3 + 1, none⟩ = some (.int .u16 (y.x.2.1 : Int)) := hc 1 _ rfl
                  clear hc hy
                  by_cases h1 : y.x.1 = st
                  · have e1 : ((y.x.1 : Int) == (st : Int)) = true := by rw [h1]; simp
                    by_cases h2 : y.x.2.1 = sq
                    · have e2 : ((y.x.2.1 : Int) == (sq : Int)) = true := by rw [h2]; simp
                      have HNX2 := HANY.out true (by simp [h1, h2])
                      clear h1 h2
                      go_upto_region 22 with (fail)
                      go_quiet (fail)
                      go_wp2_with fail
                      go_roundw
                      case rel => exact ⟨i + 1, true, rfl, by go_num, by omega, HNX2, Lib.hid (hu.out.trans (up_drewN _ _))⟩
                      case measure => simp [intOf]; omega
                    · have e2 : ((y.x.2.1 : Int) == (sq : Int)) = false := by rw [beq_eq_false_iff_ne]; omega
                      have HNX2 := HANY.out false (by simp [h2])
                      clear h1 h2
                      go_upto_region 22 with (fail)
                      go_quiet (fail)
                      go_wp2_with fail
                      go_roundw
                      case rel => exact ⟨i + 1, false, rfl, by go_num, by omega, HNX2, Lib.hid (hu.out.trans (up_drewN _ _))⟩
                      case measure => simp [intOf]; omega
                  · have e1 : ((y.x.1 : Int) == (st : Int)) = false := by rw [beq_eq_false_iff_ne]; omega
                    have HNX2 := HANY.out false (by simp [h1])
                    clear h1
                    go_upto_region 22 with (fail)
                    go_quiet (fail)
                    go_wp2_with fail
                    go_roundw
                    case rel => exact ⟨i + 1, false, rfl, by go_num, by omega, HNX2, Lib.hid (hu.out.trans (up_drewN _ _))⟩
                    case measure => simp [intOf]; omega
              · obtain rfl : i = m.length := by omega
                have d1 : decide ((m.length : Int) < (m.length : Int)) = false := by simp
                rw [List.take_length] at hf
                go_upto_if 116 with (fail)
                go_cut [] (fun wx => ∃ (W' : Option Addr) (d' : Nat) (ma : List LtB), Hid (ma = (Fg.more m ⟨(st, sq, bytesOf (ps L) (Fg.sub t k) n'), A10, c10⟩)) ∧ Hid (wx.heap[b]? = some (.cells (rbBlk H10 (left L (Fg.sub t k) n').length cH10 W' ma.length d' nx) 48 (0, 0))) ∧ Hid (wx.ownsRow 0 90 3 (.slice W' ma.length d') ma.length (ma.flatMap ltc)) ∧ Hid (Out (fun k => k = b ∨ blk? W = some k) wr wx) ∧ Hid (∀ k, blk? W' = some k → blk? W = some k ∨ wr.heap.size ≤ k))
                case first =>
                  cases f with
                  | true =>
                    go_wp2_with fail
                    go_meet
                    exact ⟨W, d, m, Lib.hid (by unfold Fg.more; rw [if_pos hf.out.symm]), T11, Lib.hid (own_up RW10.out hu.out), Lib.hid (Out.refl _ _), Lib.hid (fun k hk => .inl hk)⟩
                  | false =>
                    have hmore : (Fg.more m ⟨(st, sq, bytesOf (ps L) (Fg.sub t k) n'), A10, c10⟩) = m ++ [⟨(st, sq, bytesOf (ps L) (Fg.sub t k) n'), A10, c10⟩] := by
                      unfold Fg.more
                      rw [if_neg (by rw [← hf.out]; simp)]
                    have HMO := Lib.hid hmore
                    clear hmore
                    have NV := Lib.hid (new_at wr (.cells #[.int .u16 (st : Int), .int .u16 (sq : Int), .slice A10 N10 c10] 90))
                    have HV : Hid (Up wr (wr.alloc (.cells #[.int .u16 (st : Int), .int .u16 (sq : Int), .slice A10 N10 c10] 90)).drew) := Lib.hid ((up_alloc wr (.cells #[.int .u16 (st : Int), .int .u16 (sq : Int), .slice A10 N10 c10] 90)).trans (Up.drew _))
                    have NV' : Hid ((wr.alloc (.cells #[.int .u16 (st : Int), .int .u16 (sq : Int), .slice A10 N10 c10] 90)).drew.heap[wr.heap.size]? = some (.cells #[.int .u16 (st : Int), .int .u16 (sq : Int), .slice A10 N10 c10] 90)) := NV
                    have TV := Lib.hid ((HV.out.block _ (lt_of_blk T11.out)).trans T11.out)
                    have RV := Lib.hid (own_up (own_up RW10.out hu.out) HV.out)
                    have CV : Hid (Cells (wr.alloc (.cells #[.int .u16 (st : Int), .int .u16 (sq : Int), .slice A10 N10 c10] 90)).drew (some ⟨wr.heap.size, 0, none⟩) [.int .u16 (st : Int), .int .u16 (sq : Int), .slice A10 N10 c10]) := Lib.hid (fun _ => ⟨_, 0, rfl, lt_of_blk NV'.out, fun j u hu => by rw [Nat.zero_add]; exact cell_of NV'.out (by simpa using hu)⟩)
                    have HbW : Hid (¬ blk? W = some b) := Lib.hid (fun e => own_ne RV.out TV.out (by decide) b (by rw [ownBlock_slice]; exact e) rfl)
                    have kV : (wr.alloc (.cells #[.int .u16 (st : Int), .int .u16 (sq : Int), .slice A10 N10 c10] 90)).drew.cell? ⟨b, 1, none⟩ = some (.slice W m.length d) := cell_of TV.out rfl
                    have HFIN4 : Hid (∀ (w5 : World) (A5' : Option Addr) (c5' : Nat), Hid (w5.ownsRow 0 90 3 (.slice A5' (m.length + 1) c5') (m.length + 1) (m.flatMap ltc ++ [.int .u16 (st : Int), .int .u16 (sq : Int), .slice A10 N10 c10])) → Hid (Out (fun k => blk? W = some k) (wr.alloc (.cells #[.int .u16 (st : Int), .int .u16 (sq : Int), .slice A10 N10 c10] 90)).drew w5) → Hid (blk? A5' = blk? W ∨ blk? A5' = some (wr.alloc (.cells #[.int .u16 (st : Int), .int .u16 (sq : Int), .slice A10 N10 c10] 90)).drew.heap.size) → Hid (w5.heap[b]? = some (.cells (rbBlk H10 (left L (Fg.sub t k) n').length cH10 W m.length d nx) 48 (0, 0))) →
                        ∃ (W' : Option Addr) (d' : Nat) (ma : List LtB), (.slice A5' (m.length + 1) c5' : Value) = .slice W' ma.length d' ∧ Hid (ma = (Fg.more m ⟨(st, sq, bytesOf (ps L) (Fg.sub t k) n'), A10, c10⟩)) ∧ Hid ((w5.setCell ⟨b, 1, none⟩ (.slice A5' (m.length + 1) c5')).heap[b]? = some (.cells (rbBlk H10 (left L (Fg.sub t k) n').length cH10 W' ma.length d' nx) 48 (0, 0))) ∧ Hid ((w5.setCell ⟨b, 1, none⟩ (.slice A5' (m.length + 1) c5')).ownsRow 0 90 3 (.slice W' ma.length d') ma.length (ma.flatMap ltc)) ∧ Hid (Out (fun k => k = b ∨ blk? W = some k) wr (w5.setCell ⟨b, 1, none⟩ (.slice A5' (m.length + 1) c5'))) ∧ Hid (∀ k, blk? W' = some k → blk? W = some k ∨ wr.heap.size ≤ k)) := Lib.hid (fun w5 A5' c5' h1 h2 h3 h4 => by
                      have hN := Z1.out.len
                      have hl : (m ++ [(⟨(st, sq, bytesOf (ps L) (Fg.sub t k) n'), A10, c10⟩ : LtB)]).length = m.length + 1 := by simp
                      have hO6 := setCell_out w5 b 1 (.slice A5' (m.length + 1) c5')
                      have hT6 := setCell_at (j := 1) (.slice A5' (m.length + 1) c5') h4.out
                      rw [rb_wait] at hT6
                      have hrow : (m ++ [(⟨(st, sq, bytesOf (ps L) (Fg.sub t k) n'), A10, c10⟩ : LtB)]).flatMap ltc = m.flatMap ltc ++ [.int .u16 (st : Int), .int .u16 (sq : Int), .slice A10 N10 c10] := by rw [List.flatMap_append]; simp [ltc, hN]
                      refine ⟨A5', c5', m ++ [⟨(st, sq, bytesOf (ps L) (Fg.sub t k) n'), A10, c10⟩], by rw [hl], Lib.hid HMO.out.symm, Lib.hid (by rw [hl]; exact hT6), Lib.hid ?_, Lib.hid ?_, Lib.hid (fun k hk => ?_)⟩
                      · rw [hl, hrow]
                        exact Out.own hO6 h1.out (own_ne h1.out h4.out (by decide))
                      · exact ((HV.out.out (fun k => k = b ∨ blk? W = some k)).trans (h2.out.mono (fun k hk => .inr hk)) (Sub.refl _ _)).trans (hO6.mono (fun k hk => .inl hk)) (Sub.refl _ _)
                      · rcases h3.out with e | e
                        · exact .inl (by rw [← e]; exact hk)
                        · rw [e] at hk
                          have h5 := HV.out.size
                          have h6 : _ = k := Option.some.inj hk
                          exact .inr (by omega))
                    go_upto_region 24 with (fail)
                    go_region_law (refine step_app rfl (.tmp 121) (.tmp 128) 46 90 (.agg #[.int .u16 0, .int .u16 0, .slice none 0 0]) 3 32 rfl Try.underlying46 info90 rfl (by omega) (A := W) (n := m.length) (c := d) (by simp [Act.eval, Act.put]) RV.out (B := some ⟨wr.heap.size, 0, none⟩) (m := 1) (d := 1) (by simp [Act.eval, Act.put]) (by rfl) CV.out (by simp [Value.oneCell']) (by omega) (by omega) ?_; intro A5' c5' w5 HR5 HO5 HE5; have T5 := Lib.hid (HO5.out.blk TV.out HbW.out); have k5 : w5.cell? ⟨b, 1, none⟩ = some (.slice W m.length d) := cell_of T5.out rfl; have f5 : w5.frozen? ⟨b, 1, none⟩ = false := frozen_at T5.out; clear kw)
                    all_goals
                      obtain ⟨W', d', ma, he, g1, g2, g3, g4, g5⟩ := HFIN4.out w5 A5' c5' HR5 HO5 HE5 T5
                      go_wp2_with fail
                      go_meet
                      exact ⟨W', d', ma, g1, g2, g3, g4, g5⟩
                case rest =>
                  obtain ⟨W', d', ma, HMA, TC, RC, OC, SC⟩ := hcut
                  have hWq : ¬ blk? W = some q := fun e => own_ne (own_up RW10.out hu.out) Q11.out (by decide) q (by rw [ownBlock_slice]; exact e) rfl
                  have hbq2 : ¬ q = b := fun e => by
                    have h1 := Q11.out
                    rw [e, T11.out] at h1
                    injection h1 with h1
                    injection h1 with _ h1
                    exact absurd h1 (by decide)
                  have QC := Lib.hid (OC.out.blk Q11.out (fun e => e.elim hbq2 hWq))
                  have b1' : wc.cell? ⟨q, 1, none⟩ = some (.int .u16 (st : Int)) := cell_of QC.out rfl
                  have hmal : ma.length ≤ m.length + 1 := by rw [HMA.out]; exact more_len _ _
                  have hkma : KApart (ts ma) := by
                    rw [HMA.out]
                    exact (addW_apart HKW.out _).perm (ts_more _ _).symm
                  have hnxs := HNX.out st
                  have HOW : Hid (Out (fun k => k = b ∨ blk? H = some k ∨ blk? W = some k) w wc) := Lib.hid ((OW10.out.trans (hu.out.out (fun k => k = b)) (fun k hk => .inl (.inl hk))).trans OC.out (fun k hk => .inl (by
                    rcases hk with e | e
                    · exact .inl e
                    · exact .inr (.inr e))))
                  have keyT : ∀ {e s N c base : Nat} {A : Option Addr} {zs : List Value}, e ≠ 48 → e ≠ 90 → w10.ownsRow base e s (.slice A N c) N zs → wc.ownsRow base e s (.slice A N c) N zs := fun {e s N c base A zs} h48 h90 h => by
                    have h1 := own_up h hu.out
                    refine Out.own OC.out h1 (fun g hg e => ?_)
                    rcases e with e | e
                    · exact own_ne h1 T11.out h48 g hg e
                    · exact rows_ne h1 (own_up RW10.out hu.out) h90 g hg (by rw [ownBlock_slice]; exact e)
                  have Z3c := Lib.hid (keyT (by decide) (by decide) Z3.out)
                  have Z1c : Hid (OwnI .u8 5 w9.heap.size wc A10 N10 c10 (bytesOf (ps L) (Fg.sub t k) n')) := Lib.hid (keyT (by decide) (by decide) Z1.out)
                  have LBc : Hid (∀ y ∈ left L (Fg.sub t k) n', OwnI .u8 5 0 wc y.A y.p.bs.length y.c y.p.bs) := Lib.hid (fun y hy => keyT (by decide) (by decide) (HLBD.out y hy).1)
                  have BWc : Hid (∀ y ∈ m, OwnI .u8 5 0 wc y.A y.x.2.2.length y.c y.x.2.2) := Lib.hid (fun y hy => keyT (by decide) (by decide) (BW10.out y hy).1)
                  have hszc : w10.heap.size ≤ wc.heap.size := by have h1 := hu.out.size; have h2 := OC.out.size; omega
                  clear keyT kw b1 b2 hWq hbq2 T11 Q11 QC
                  go_wp2_with fail
                  refine (turns_any b st H10 (left L (Fg.sub t k) n').length cH10 ma W' d' nx wc hst (by omega) hnxs hkma TC.out RC.out).mono ?_
                  rintro e w12 ⟨A12, N12, c12, m12, o12, W12, d12, nx12, rfl, HT, HNO⟩
                  have HP : Hid (RPost b H W l m nx ⟨t, st, sq, false, bg, en, bs⟩ w (.returned (.tuple #[.slice A12 N12 c12, .int .i64 0])) w12) := Lib.hid (by
                    have hown : ∀ {e s N c base : Nat} {A : Option Addr} {zs : List Value}, e ≠ 48 → wc.ownsRow base e s (.slice A N c) N zs → w12.ownsRow base e s (.slice A N c) N zs := fun {e s N c base A zs} h48 h => Out.own HT.out h (own_ne h TC.out h48)
                    have hN := Z1.out.len
                    have hma : ∀ y ∈ ma, OwnI .u8 5 0 w12 y.A y.x.2.2.length y.c y.x.2.2 ∧ Byt y.x.2.2 ∧ y.x.2.2.length ≤ 131072 := fun y hy => by
                      rw [HMA.out] at hy
                      rcases more_mem hy with hy | hy
                      · exact ⟨hown (by decide) (BWc.out y hy), (BW10.out y hy).2, HMW.out y hy⟩
                      · rw [hy]
                        have h7 : OwnI .u8 5 0 w12 A10 N10 c10 (bytesOf (ps L) (Fg.sub t k) n') := row_mono (hown (by decide) Z1c.out) (Nat.zero_le _)
                        rw [← hN] at h7
                        exact ⟨h7, HBL.out.2, HBL.out.1⟩
                    refine ⟨0, A12, N12, c12, o12.map (fun y => ⟨(st, y.x.2.2), y.A, y.c⟩), H10, cH10, left L (Fg.sub t k) n', W12, d12, m12, nx12, rfl, Lib.hid ⟨⟨HT.top, row_mono (hown (by decide) Z3c.out) (Nat.zero_le _), HT.rowW, fun y hy => ⟨hown (by decide) (LBc.out y hy), (HLBD.out y hy).2.1⟩, fun y hy => ⟨(hma y (HT.sub.subset hy)).1, (hma y (HT.sub.subset hy)).2.1⟩, fun y hy => (HLBD.out y hy).2.2.2⟩, ?_, by rw [List.length_map]; exact HT.len, ?_, ?_, HOW.out.trans HT.out (fun k hk => .inl (.inl hk)), HAF.out, fun k hk => ?_, ?_, ?_, fun y hy => (HLBD.out y hy).2.2.1, fun y hy => (hma y (HT.sub.subset hy)).2.2⟩⟩
                    · have h7 := row_mono (base' := w.heap.size) HT.row (by omega)
                      have h8 : (o12.map (fun y => (⟨(st, y.x.2.2), y.A, y.c⟩ : MsB))).flatMap mc = o12.flatMap (msc st) := by rw [List.flatMap_map]; rfl
                      rw [h8]; exact h7
                    · intro z hz
                      obtain ⟨y, hy, rfl⟩ := List.mem_map.1 hz
                      exact hma y (HT.told y hy)
                    · refine .inr (.inr (.inr ⟨HFORM.out, HT0.out, HLEN.out, rfl, .inr ⟨Fg.sub t k, n', HMN.out, HRST.out, .inr ⟨rfl, ?_⟩⟩⟩))
                      have h8 := ts_more m ⟨(st, sq, bytesOf (ps L) (Fg.sub t k) n'), A10, c10⟩
                      rw [← HMA.out] at h8
                      have h9 := (HT.all HNO).perm h8
                      have e1 : (o12.map fun y => (st, y.x.2.2)) = (o12.map (fun y => (⟨(st, y.x.2.2), y.A, y.c⟩ : MsB))).map (·.m) := by rw [List.map_map]; rfl
                      rw [e1, HBYE.out] at h9
                      exact h9
                    · rcases HT.old k hk with h | h
                      · rcases SC.out k h with h2 | h2
                        · exact .inl h2
                        · exact .inr (by have := hu.out.size; omega)
                      · exact .inr (by omega)
                    · exact Turns.nx_lt (HT.all HNO) HNX.out
                    · have h7 := HT.le
                      omega)
                  clear HT HNO
                  go_wp2_with fail
                  go_ret2
                  exact HP.out
      · have d1 : decide ((k : Int) < 512) = false := by simp; omega
        obtain rfl : k = 512 := by omega
        have hno := none_mine hap.out ht32 hA.out
        have HPERM : (ps L).Perm (⟨t, st, sq, un, bg, en, bs⟩ :: ps l) := by rw [hLp.out]; exact List.perm_append_singleton _ _
        have HP : Hid (RPost b H W l m nx ⟨t, st, sq, un, bg, en, bs⟩ w (.returned (.tuple #[.slice none 0 0, .int .i64 0])) wr) := Lib.hid ⟨0, none, 0, 0, [], A5, c5, L, W, d, m, nx, rfl, Lib.hid ⟨⟨(hU.out.block _ (lt_of_blk T7.out)).trans T7.out, own_up R7.out hU.out, own_up RW7.out hU.out, fun y hy => ⟨own_up (HYX.out y hy).1 hU.out, hLb.out y hy⟩, fun y hy => ⟨own_up (BW7.out y hy).1 hU.out, (BW7.out y hy).2⟩, hbd.out⟩, World.ownsRow_nil _ _ _ _, rfl, by simp, .inr (.inr (.inr ⟨by unfold Fg.Form; simp only; have h3 := HIN0.out; omega, HT0.out, by unfold ps; simpa using hb, rfl, .inl ⟨fun t' n hm => hno t' n (hm.perm HPERM.symm), rfl, HPERM, rfl, rfl⟩⟩)), OW7.out.trans (hU.out.out (fun k => k = b)) (fun k hk => .inl (.inl hk)), A7.out, fun k hk => .inl hk, HNX.out, by omega, fun y hy => (HYX.out y hy).2, HMW.out⟩⟩
        clear hno HPERM
        go_wp2_with fail
        go_ret2
        exact HP.out
end Go.Proofs.Ytgcabidhpnaoiaa
