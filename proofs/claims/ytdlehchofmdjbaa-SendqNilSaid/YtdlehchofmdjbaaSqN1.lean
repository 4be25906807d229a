import Derived.Test.YtdlehchofmdjbaaSqX
import Derived.Test.YtdlehchofmdjbaaCk17
namespace Go.Proofs.Ytdlehchofmdjbaa
open Go Go.RowKit Sq
set_option linter.unusedVariables false
set_option linter.unusedSimpArgs false
/-! Next. -/
theorem below_setRow {B : Nat} {a w : World} (h : Below B a w) {g : Nat} (hg : B ≤ g) (cs : Array Value) : Below B a (w.setRow g cs) :=
  ⟨h.os, h.tape, h.output, by rw [size_setRow]; exact h.size, fun i hi => (setRow_other w g i cs (by omega)).trans (h.block i hi)⟩
theorem setRow_out (w : World) (g : Nat) (cs : Array Value) : Out (fun k => k = g) w (w.setRow g cs) := ⟨rfl, rfl, rfl, by rw [size_setRow]; exact Nat.le_refl _, fun k _ hn => setRow_other w g k cs hn⟩
namespace Sq
/-- A piece is answered, with bytes of its own. -/
def Piece (x : Pm) (Q : QS) (IsQ : (Nat → Prop) → World → Addr → QS → Prop) (p : Addr) (S : Nat → Prop) (w : World) (e : Ending) (w' : World) : Prop := ∃ S' A n c, e = .returned (.tuple #[pcv x A n c, .bool true]) ∧ Hid (n = x.bs.length) ∧ Hid (OwnI .u8 5 w.heap.size w' A n c x.bs) ∧ Hid (∀ q, blk? A = some q → ¬ S' q) ∧ Hid (IsQ S' w' p Q) ∧ Hid (Sub S' S w) ∧ Hid (Out S w w')
/-- An item that is sent. -/
def goB (path : Int) (y : ItB) : ItB := ⟨go path y.x, y.A, y.c⟩
theorem set_map {L : List ItB} {k : Nat} {y : ItB} (h : L[k]? = some y) (path : Int) : (L.set k (goB path y)).map (·.x) = (L.map (·.x)).modify k (go path) := by
  have hk : k < L.length := (List.getElem?_eq_some_iff.1 h).1
  apply List.ext_getElem?
  intro i
  rw [List.getElem?_map, List.getElem?_set, List.getElem?_modify, List.getElem?_map]
  by_cases e : k = i
  · subst e; rw [if_pos rfl, if_pos hk, h]; simp [goB]
  · rw [if_neg e]; simp [e]
theorem set_mem {L : List ItB} {k : Nat} {y : ItB} (h : L[k]? = some y) (path : Int) : ∀ y' ∈ L.set k (goB path y), ∃ y0 ∈ L, y'.A = y0.A ∧ y'.c = y0.c ∧ y'.x.p = y0.x.p := fun y' hy' => by
  rcases List.mem_or_eq_of_mem_set hy' with h1 | h1
  · exact ⟨y', h1, rfl, rfl, rfl⟩
  · exact ⟨y, List.mem_of_getElem? h, by rw [h1]; rfl, by rw [h1]; rfl, by rw [h1]; rfl⟩
/-- Three stores: path, misses, mark. -/
theorem row_go {w : World} {g c : Nat} {L : List ItB} {n k : Nat} {y : ItB} (h : w.ownsRow 0 56 11 (.slice (some ⟨g, 0, none⟩) n c) n (L.flatMap itc)) (hy : L[k]? = some y) (path : Int) :
    (((w.setCell ⟨g, k * 11 + 7, none⟩ (.int .i64 path)).setCell ⟨g, k * 11 + 8, none⟩ (.int .i64 0)).setCell ⟨g, k * 11 + 10, none⟩ (.bool false)).ownsRow 0 56 11 (.slice (some ⟨g, 0, none⟩) n c) n ((L.set k (goB path y)).flatMap itc) ∧
    Out (fun j => j = g) w (((w.setCell ⟨g, k * 11 + 7, none⟩ (.int .i64 path)).setCell ⟨g, k * 11 + 8, none⟩ (.int .i64 0)).setCell ⟨g, k * 11 + 10, none⟩ (.bool false)) := by
  have hk : k < L.length := (List.getElem?_eq_some_iff.1 hy).1
  let y1 : ItB := ⟨{ y.x with path := path }, y.A, y.c⟩
  let y2 : ItB := ⟨{ y.x with path := path, miss := 0 }, y.A, y.c⟩
  let y3 : ItB := ⟨{ y.x with path := path, miss := 0, mkd := false }, y.A, y.c⟩
  have e1 : (L.flatMap itc).set (k * 11 + 7) (.int .i64 path) = (L.set k y1).flatMap itc := flat_set itc 11 itc_len hy (by omega) rfl
  have e2 : ((L.set k y1).flatMap itc).set (k * 11 + 8) (.int .i64 0) = (L.set k y2).flatMap itc := by
    have := flat_set itc 11 itc_len (l := L.set k y1) (i := k) (y := y1) (y' := y2) (by rw [List.getElem?_set_self hk]) (j := 8) (v := .int .i64 0) (by omega) rfl
    rwa [List.set_set] at this
  have e3 : ((L.set k y2).flatMap itc).set (k * 11 + 10) (.bool false) = (L.set k (goB path y)).flatMap itc := by
    have := flat_set itc 11 itc_len (l := L.set k y2) (i := k) (y := y2) (y' := goB path y) (by rw [List.getElem?_set_self hk]) (j := 10) (v := .bool false) (by omega) rfl
    rwa [List.set_set] at this
  have h1 := (World.ownsRow.stored h (k * 11 + 7) (.int .i64 path)).1
  rw [e1] at h1
  have h2 := (World.ownsRow.stored h1 (k * 11 + 8) (.int .i64 0)).1
  rw [e2] at h2
  have h3 := (World.ownsRow.stored h2 (k * 11 + 10) (.bool false)).1
  rw [e3] at h3
  exact ⟨h3, ((setCell_out _ _ _ _).trans (setCell_out _ _ _ _) (Sub.refl _ _)).trans (setCell_out _ _ _ _) (Sub.refl _ _)⟩
end Sq
set_option maxRecDepth 100000 in
set_option maxHeartbeats 4000000 in
theorem next_marked (S : Nat → Prop) (q : Nat) (g c : Nat) (L : List ItB) (Q : QS) (k : Nat) (y : ItB) (path : Int) (w : World) (h : IQ S w q (some ⟨g, 0, none⟩) c L Q) (hy : L[k]? = some y) (hf : Q.l.findIdx? (·.mkd) = some k) (hk : k < outN Q.l) :
    Calls Try.prog 9 #[.pointer (some ⟨q, 0, none⟩), .int .i64 path] w (Piece y.x.p (sent Q k path) IsQ ⟨q, 0, none⟩ S w) := by
  have H := Lib.hid h
  have HY := Lib.hid hy
  have HF := Lib.hid hf
  have HK := Lib.hid hk
  have hkL : k < L.length := (List.getElem?_eq_some_iff.1 hy).1
  have hL256 : L.length ≤ 256 := by rw [h.len]; exact h.ok.len
  obtain ⟨m, hml⟩ : ∃ m, m = L.length := ⟨_, rfl⟩
  rw [← hml] at hkL hL256
  have HM := Lib.hid hml
  have hcap := (row_cap h.row).1
  rw [← hml] at hcap
  have HZ := Lib.hid (new_at w (.cells #[.int .u32 0, .int .u16 0, .int .u16 0, .bool false, .bool false, .bool false, .slice none 0 0] 32))
  have HU := Lib.hid (up_alloc w (.cells #[.int .u32 0, .int .u16 0, .int .u16 0, .bool false, .bool false, .bool false, .slice none 0 0] 32))
  clear h hy hml hf hk
  go_enter Try.func9, Try.ntmps9
  go_upto_region 1 with (fail)
  generalize w.alloc (.cells #[.int .u32 0, .int .u16 0, .int .u16 0, .bool false, .bool false, .bool false, .slice none 0 0] 32) = w1 at HZ HU ⊢
  obtain ⟨r, hr⟩ : ∃ r, r = w.heap.size := ⟨_, rfl⟩
  rw [← hr] at HZ ⊢
  have HRR := Lib.hid hr
  clear hr
  have H1 := Lib.hid (H.out.up HU.out)
  have t1 : w1.cell? ⟨q, 1, none⟩ = some (.slice (some ⟨g, 0, none⟩) m c) := by have := H1.out.top; rw [← HM.out] at this; exact cell_of this rfl
  go_wp2_with fail
  refine (idxi_any (some ⟨g, 0, none⟩) m c L w1 (by rw [HM.out]; exact H1.out.row) HM.out (by omega)).mono ?_
  rintro e w2 ⟨rfl, HU2⟩
  rw [← H.out.eq, HF.out]
  simp only [idxI]
  have H2 := Lib.hid (H1.out.up HU2.out)
  have HZ2 := Lib.hid ((HU2.out.block _ (lt_of_blk HZ.out)).trans HZ.out)
  have HW2 := Lib.hid (HU.out.trans HU2.out)
  clear t1 H1 HU HU2 HZ
  have t1 : w2.cell? ⟨q, 1, none⟩ = some (.slice (some ⟨g, 0, none⟩) m c) := by have := H2.out.top; rw [← HM.out] at this; exact cell_of this rfl
  go_upto_region 10 with (fail)
  have HRS := Lib.hid (show w2.ownsRow 0 56 11 (.slice (some ⟨g, 0, none⟩) m c) m (L.flatMap itc) by rw [HM.out]; exact H2.out.row)
  have HTS := Lib.hid (show w2.heap[q]? = some (.cells (qcl (cum Q) (some ⟨g, 0, none⟩) m c (if k = outN Q.l then outN Q.l + 1 else outN Q.l)) 52 (0, 0)) by rw [HM.out, if_neg (by have := HK.out; omega)]; exact H2.out.top)
  have HZS := HZ2
  have HOS := Lib.hid (show Out (fun j => j = q) w w2 from HW2.out.out _)
  have HKL := Lib.hid (show k ≤ outN Q.l by have := HK.out; omega)
  clear t1 H2 HZ2
  have HR4 := Lib.hid (row_go (w := w2) HRS.out HY.out path)
  have k0 : ∀ (j : Nat) (v : Value), (itc y)[j]? = some v → w2.cell? ⟨g, k * 11 + j, none⟩ = some v := fun j v hj => row_cell HRS.out (rowG_at itc 11 itc_len HY.out hj)
  have k7 := k0 7 _ rfl
  have k8 := k0 8 _ rfl
  have k10 := k0 10 _ rfl
  have f7 : ∀ j, w2.frozen? ⟨g, j, none⟩ = false := fun j => World.ownsRow.frozenAt HRS.out j
  have f7a := f7 (k * 11 + 7)
  have f8a := f7 (k * 11 + 8)
  have f10a := f7 (k * 11 + 10)
  clear k0 f7
  go_upto_region 11 with (fail)
  generalize hw4 : (((w2.setCell ⟨g, k * 11 + 7, none⟩ (.int .i64 path)).setCell ⟨g, k * 11 + 8, none⟩ (.int .i64 0)).setCell ⟨g, k * 11 + 10, none⟩ (.bool false)) = w4 at HR4 ⊢
  clear hw4 k7 k8 k10 f7a f8a f10a
  have hgq : g ≠ q := (H.out.inA g rfl).2
  have hgr : g ≠ r := fun e => by have := H.out.lt g (H.out.inA g rfl).1; have := HRR.out; omega
  have HT4 := Lib.hid (HR4.out.2.blk HTS.out (fun e => hgq e.symm))
  have HZ4 := Lib.hid (HR4.out.2.blk HZS.out (fun e => hgr e.symm))
  have HO4 := Lib.hid (show Out (fun j => j = q ∨ blk? (some ⟨g, 0, none⟩) = some j) w w4 from (HOS.out.mono fun j hj => .inl hj).trans (HR4.out.2.mono fun j hj => .inr (by rw [hj]; rfl)) (Sub.refl _ _))
  have HQ4 := Lib.hid (show IQ S w4 q (some ⟨g, 0, none⟩) c (L.set k (goB path y)) (sent Q k path) from by
    have hg := sent_good H.out.ok (k := k) (by have := (List.getElem?_eq_some_iff.1 HY.out).1; rw [H.out.len] at this; exact this) path HKL.out
    refine H.out.changed (by simp) (by rw [set_map HY.out, ← H.out.eq]; rfl) hg.2.2 hg.1 (set_mem HY.out path) ?_ (by rw [← HM.out]; exact HR4.out.1) HO4.out
    rw [hg.2.1, ← HM.out]
    exact HT4.out)
  have HB := Lib.hid (H.out.ok.bs y.x (by rw [H.out.eq]; exact List.mem_map.2 ⟨y, List.mem_of_getElem? HY.out, rfl⟩))
  have HI := Lib.hid (show InB w4 y.A y.x.p.bs.length y.c y.x.p.bs from by
    have hm : goB path y ∈ L.set k (goB path y) := List.mem_of_getElem? (i := k) (by rw [List.getElem?_set_self (List.getElem?_eq_some_iff.1 HY.out).1])
    have := HQ4.out.by_ _ hm
    exact own_inB (show OwnI .u8 5 0 w4 y.A y.x.p.bs.length y.c y.x.p.bs from this) HB.out.2.2)
  obtain ⟨yb, yo, hyA⟩ := inB_some HI.out HB.out.1
  have hci : ∀ (j : Nat) (v : Value), (itc y)[j]? = some v → j < 7 → w4.cell? ⟨g, k * 11 + j, none⟩ = some v := fun j v hj h7 => by
    refine row_cell HR4.out.1 (rowG_at itc 11 itc_len (i := k) (x := goB path y) (by rw [List.getElem?_set_self (List.getElem?_eq_some_iff.1 HY.out).1]) ?_)
    rw [← hj]
    match j, h7 with
    | 0, _ => rfl
    | 1, _ => rfl
    | 2, _ => rfl
    | 3, _ => rfl
    | 4, _ => rfl
    | 5, _ => rfl
    | 6, _ => rfl
  have i0 := hci 0 _ rfl (by omega)
  have i1 := hci 1 _ rfl (by omega)
  have i2 := hci 2 _ rfl (by omega)
  have i3 := hci 3 _ rfl (by omega)
  have i4 := hci 4 _ rfl (by omega)
  have i5 := hci 5 _ rfl (by omega)
  have i6 := hci 6 _ rfl (by omega)
  rw [Nat.add_zero] at i0
  rw [hyA] at i6 HI
  clear hci hyA HRS HTS HZS HOS HT4 HR4
  obtain ⟨n, hn⟩ : ∃ n, n = y.x.p.bs.length := ⟨_, rfl⟩
  rw [← hn] at HI i6
  have HN := Lib.hid hn
  have hn2 : n ≤ 256 := by rw [hn]; exact HB.out.2.1
  clear hn
  have HP4 := Lib.hid (new_at w4 (.cells #[.int .u32 0, .int .u16 0, .int .u16 0, .bool false, .bool false, .bool false, .slice none 0 0] 32))
  have HU4 := Lib.hid (up_alloc w4 (.cells #[.int .u32 0, .int .u16 0, .int .u16 0, .bool false, .bool false, .bool false, .slice none 0 0] 32))
  go_upto_region 12 with (with_reducible refine wpList_store_row rfl 32 _ _ rfl w4.heap.size (pcl y.x.p.tsn y.x.p.st y.x.p.sq y.x.p.bg y.x.p.en y.x.p.un (some ⟨yb, yo, none⟩) n y.c).toArray rfl rfl 32 _ HP4.out (by kernel_rfl) rfl (by simp [pcl, Value.oneCell']) ?_)
  have hs := setRow_heap _ _ _ (pcl y.x.p.tsn y.x.p.st y.x.p.sq y.x.p.bg y.x.p.en y.x.p.un (some ⟨yb, yo, none⟩) n y.c).toArray _ _ HP4.out
  have hso := below_setRow (B := w4.heap.size) HU4.out (Nat.le_refl _) (pcl y.x.p.tsn y.x.p.st y.x.p.sq y.x.p.bg y.x.p.en y.x.p.un (some ⟨yb, yo, none⟩) n y.c).toArray
  generalize (w4.alloc (.cells #[.int .u32 0, .int .u16 0, .int .u16 0, .bool false, .bool false, .bool false, .slice none 0 0] 32)).setRow w4.heap.size (pcl y.x.p.tsn y.x.p.st y.x.p.sq y.x.p.bg y.x.p.en y.x.p.un (some ⟨yb, yo, none⟩) n y.c).toArray = w5 at hs hso ⊢
  clear HP4 HU4 i0 i1 i2 i3 i4 i5 i6
  obtain ⟨b, hb⟩ : ∃ b, b = w4.heap.size := ⟨_, rfl⟩
  rw [← hb] at hs ⊢
  have HBB := Lib.hid hb
  have HC5 := Lib.hid hs
  have HU5 := Lib.hid (show Up w4 w5 from hso)
  have p6 : w5.cell? ⟨b, 6, none⟩ = some (.slice (some ⟨yb, yo, none⟩) n y.c) := cell_of HC5.out rfl
  clear hs hso hb
  go_wp2_with fail
  refine (clone_any ⟨yb, yo, none⟩ n y.c y.x.p.bs w5 (HI.out.up HU5.out) (by omega)).mono ?_
  rintro e w6 ⟨B, d6, rfl, HO6, HU6⟩
  have HC6 := Lib.hid ((HU6.out.block _ (lt_of_blk HC5.out)).trans HC5.out)
  have p6 : w6.cell? ⟨b, 6, none⟩ = some (.slice (some ⟨yb, yo, none⟩) n y.c) := cell_of HC6.out rfl
  have pf6 : w6.frozen? ⟨b, 6, none⟩ = false := frozen_at HC6.out
  go_upto_region 13 with (fail)
  have hs := setCell_at (j := 6) (.slice B n d6) HC6.out
  have hso := setCell_out w6 b 6 (.slice B n d6)
  generalize w6.setCell ⟨b, 6, none⟩ (.slice B n d6) = w7 at hs hso ⊢
  have HC7 := Lib.hid (show w7.heap[b]? = some (.cells (pcl y.x.p.tsn y.x.p.st y.x.p.sq y.x.p.bg y.x.p.en y.x.p.un B n d6).toArray 32 (0, 0)) from hs)
  have hb4 : w4.heap.size ≤ b := by rw [HBB.out]; exact Nat.le_refl _
  have HU7 := Lib.hid (show Up w4 w7 from Below.out (HU5.out.trans HU6.out) hso (fun k hk => by rw [hk]; exact hb4) (HU5.out.trans HU6.out).size)
  have gB : ∀ k, blk? B = some k → w5.heap.size ≤ k := fun k hk => (World.ownsRow.lt HO6.out k (by rw [ownBlock_slice]; exact hk)).1
  have hb5 : b < w5.heap.size := lt_of_blk HC5.out
  have HO7 := Lib.hid (show OwnI .u8 5 w5.heap.size w7 B n d6 y.x.p.bs from hso.own HO6.out (fun k hk e => by rw [ownBlock_slice] at hk; have := gB k hk; omega))
  have HGB := Lib.hid gB
  have HB5 := Lib.hid (show w4.heap.size ≤ w5.heap.size from HU5.out.size)
  clear p6 pf6 hs hso gB hb5 HC6 HC5 HI HU6 HU5 HO6 HBB hb4
  have q0 := cell_of HC7.out (j := 0) rfl
  have q1 := cell_of HC7.out (j := 1) rfl
  have q2 := cell_of HC7.out (j := 2) rfl
  have q3 := cell_of HC7.out (j := 3) rfl
  have q4 := cell_of HC7.out (j := 4) rfl
  have q5 := cell_of HC7.out (j := 5) rfl
  have q6 := cell_of HC7.out (j := 6) rfl
  have HZ7 := Lib.hid ((HU7.out.block _ (lt_of_blk HZ4.out)).trans HZ4.out)
  go_wp2_with (with_reducible refine wpList_store_row rfl 32 _ _ rfl r (pcl y.x.p.tsn y.x.p.st y.x.p.sq y.x.p.bg y.x.p.en y.x.p.un B n d6).toArray rfl rfl 32 _ HZ7.out (by kernel_rfl) rfl (by simp [pcl, Value.oneCell']) ?_)
  have hs := setRow_heap _ _ _ (pcl y.x.p.tsn y.x.p.st y.x.p.sq y.x.p.bg y.x.p.en y.x.p.un B n d6).toArray _ _ HZ7.out
  refine bodyPost_ret (results_row_tmp (fn := Try.f9) (p := 4) (u := 5) (ty := 32) rfl _ _ r 32 _ (0, 0) _ rfl hs Try.underlying32 rfl (by kernel_rfl)) rfl ?_
  have hso := setRow_out w7 r (pcl y.x.p.tsn y.x.p.st y.x.p.sq y.x.p.bg y.x.p.en y.x.p.un B n d6).toArray
  have hw4 := HO4.out.size
  have hb5 := HB5.out
  refine ⟨S, B, n, d6, rfl, HN, Lib.hid (OwnI.rebase (B := w5.heap.size) (hso.own HO7.out (fun k hk e => by rw [ownBlock_slice] at hk; have := HGB.out k hk; have := lt_of_blk HZ4.out; omega)) (fun k hk => by have := HGB.out k hk; omega)), Lib.hid (fun k hk hS => by have := HGB.out k hk; have := H.out.lt k hS; omega), Lib.hid ⟨q, _, _, _, rfl, (HQ4.out.up HU7.out).keep (fun k hk => hso.block k (by have := H.out.lt k hk; have := HU7.out.size; omega) (fun e => by have := H.out.lt k hk; have := HRR.out; omega)) hso.size⟩, Lib.hid (Sub.refl _ _), Lib.hid ?_⟩
  exact ((HO4.out.mono fun k hk => (by
    rcases hk with rfl | hk
    · exact H.out.inq
    · exact (H.out.inA k hk).1)).trans (HU7.out.out S) (Sub.refl _ _)).trans hso (fun k hk => .inr (by rw [hk, HRR.out]; exact Nat.le_refl _))
set_option maxRecDepth 100000 in
set_option maxHeartbeats 4000000 in
theorem next_waits (S : Nat → Prop) (q : Nat) (g c : Nat) (L : List ItB) (Q : QS) (k : Nat) (y : ItB) (path : Int) (w : World) (h : IQ S w q (some ⟨g, 0, none⟩) c L Q) (hy : L[k]? = some y) (hf : Q.l.findIdx? (·.mkd) = none) (hk : k = outN Q.l) :
    Calls Try.prog 9 #[.pointer (some ⟨q, 0, none⟩), .int .i64 path] w (Piece y.x.p (sent Q k path) IsQ ⟨q, 0, none⟩ S w) := by
  have H := Lib.hid h
  have HY := Lib.hid hy
  have HF := Lib.hid hf
  have HK := Lib.hid hk
  have hkL : k < L.length := (List.getElem?_eq_some_iff.1 hy).1
  have hL256 : L.length ≤ 256 := by rw [h.len]; exact h.ok.len
  obtain ⟨m, hml⟩ : ∃ m, m = L.length := ⟨_, rfl⟩
  rw [← hml] at hkL hL256
  have HM := Lib.hid hml
  have hcap := (row_cap h.row).1
  rw [← hml] at hcap
  have HZ := Lib.hid (new_at w (.cells #[.int .u32 0, .int .u16 0, .int .u16 0, .bool false, .bool false, .bool false, .slice none 0 0] 32))
  have HU := Lib.hid (up_alloc w (.cells #[.int .u32 0, .int .u16 0, .int .u16 0, .bool false, .bool false, .bool false, .slice none 0 0] 32))
  clear h hy hml hf hk
  go_enter Try.func9, Try.ntmps9
  go_upto_region 1 with (fail)
  generalize w.alloc (.cells #[.int .u32 0, .int .u16 0, .int .u16 0, .bool false, .bool false, .bool false, .slice none 0 0] 32) = w1 at HZ HU ⊢
  obtain ⟨r, hr⟩ : ∃ r, r = w.heap.size := ⟨_, rfl⟩
  rw [← hr] at HZ ⊢
  have HRR := Lib.hid hr
  clear hr
  have H1 := Lib.hid (H.out.up HU.out)
  have t1 : w1.cell? ⟨q, 1, none⟩ = some (.slice (some ⟨g, 0, none⟩) m c) := by have := H1.out.top; rw [← HM.out] at this; exact cell_of this rfl
  go_wp2_with fail
  refine (idxi_any (some ⟨g, 0, none⟩) m c L w1 (by rw [HM.out]; exact H1.out.row) HM.out (by omega)).mono ?_
  rintro e w2 ⟨rfl, HU2⟩
  rw [← H.out.eq, HF.out]
  simp only [idxI]
  have H2 := Lib.hid (H1.out.up HU2.out)
  have HZ2 := Lib.hid ((HU2.out.block _ (lt_of_blk HZ.out)).trans HZ.out)
  have HW2 := Lib.hid (HU.out.trans HU2.out)
  clear t1 H1 HU HU2 HZ
  have hT2 := H2.out.top
  rw [← HM.out, ← HK.out] at hT2
  have HT2 := Lib.hid hT2
  clear hT2
  have t1 : w2.cell? ⟨q, 1, none⟩ = some (.slice (some ⟨g, 0, none⟩) m c) := cell_of HT2.out rfl
  have t2 : w2.cell? ⟨q, 2, none⟩ = some (.int .i64 (k : Int)) := cell_of HT2.out rfl
  have t2f : w2.frozen? ⟨q, 2, none⟩ = false := frozen_at HT2.out
  have hne : ¬ (k : Int) = (m : Int) := by omega
  have hne2 : ((k : Int) == (m : Int)) = false := by simpa using hne
  go_upto_region 5 with (fail)
  go_quiet (fail)
  go_upto_region 9 with (fail)
  have hud := up_drewN w2 nq
  have hTd := (hud.block _ (lt_of_blk HT2.out)).trans HT2.out
  have hs := setCell_at (j := 2) (.int .i64 ((k : Int) + 1)) hTd
  have hso := setCell_out (w2.drewN nq) q 2 (.int .i64 ((k : Int) + 1))
  generalize (w2.drewN nq).setCell ⟨q, 2, none⟩ (.int .i64 ((k : Int) + 1)) = w3 at hs hso ⊢
  have HRS := Lib.hid (show w3.ownsRow 0 56 11 (.slice (some ⟨g, 0, none⟩) m c) m (L.flatMap itc) by rw [HM.out]; exact hso.own (own_up H2.out.row hud) (fun j hj e => by rw [ownBlock_slice] at hj; exact (H.out.inA j hj).2 e))
  have HTS := Lib.hid (show w3.heap[q]? = some (.cells (qcl (cum Q) (some ⟨g, 0, none⟩) m c (if k = outN Q.l then outN Q.l + 1 else outN Q.l)) 52 (0, 0)) by rw [if_pos HK.out, ← HK.out]; exact hs)
  have HZS := Lib.hid (hso.blk ((hud.block _ (lt_of_blk HZ2.out)).trans HZ2.out) (fun e => by have := H.out.lt q H.out.inq; have := HRR.out; omega))
  have HOS := Lib.hid (show Out (fun j => j = q) w w3 from ((HW2.out.trans hud).out _).trans hso (Sub.refl _ _))
  have HKL := Lib.hid (show k ≤ outN Q.l by have := HK.out; omega)
  have t1 : w3.cell? ⟨q, 1, none⟩ = some (.slice (some ⟨g, 0, none⟩) m c) := cell_of HTS.out rfl
  clear t2 t2f hud hTd hs hso hne hne2 HT2 HW2 H2 HZ2
  go_upto_region 10 with (fail)
  have HR4 := Lib.hid (row_go (w := w3) HRS.out HY.out path)
  have k0 : ∀ (j : Nat) (v : Value), (itc y)[j]? = some v → w3.cell? ⟨g, k * 11 + j, none⟩ = some v := fun j v hj => row_cell HRS.out (rowG_at itc 11 itc_len HY.out hj)
  have k7 := k0 7 _ rfl
  have k8 := k0 8 _ rfl
  have k10 := k0 10 _ rfl
  have f7 : ∀ j, w3.frozen? ⟨g, j, none⟩ = false := fun j => World.ownsRow.frozenAt HRS.out j
  have f7a := f7 (k * 11 + 7)
  have f8a := f7 (k * 11 + 8)
  have f10a := f7 (k * 11 + 10)
  clear k0 f7
  go_upto_region 11 with (fail)
  generalize hw4 : (((w3.setCell ⟨g, k * 11 + 7, none⟩ (.int .i64 path)).setCell ⟨g, k * 11 + 8, none⟩ (.int .i64 0)).setCell ⟨g, k * 11 + 10, none⟩ (.bool false)) = w4 at HR4 ⊢
  clear hw4 k7 k8 k10 f7a f8a f10a
  have hgq : g ≠ q := (H.out.inA g rfl).2
  have hgr : g ≠ r := fun e => by have := H.out.lt g (H.out.inA g rfl).1; have := HRR.out; omega
  have HT4 := Lib.hid (HR4.out.2.blk HTS.out (fun e => hgq e.symm))
  have HZ4 := Lib.hid (HR4.out.2.blk HZS.out (fun e => hgr e.symm))
  have HO4 := Lib.hid (show Out (fun j => j = q ∨ blk? (some ⟨g, 0, none⟩) = some j) w w4 from (HOS.out.mono fun j hj => .inl hj).trans (HR4.out.2.mono fun j hj => .inr (by rw [hj]; rfl)) (Sub.refl _ _))
  have HQ4 := Lib.hid (show IQ S w4 q (some ⟨g, 0, none⟩) c (L.set k (goB path y)) (sent Q k path) from by
    have hg := sent_good H.out.ok (k := k) (by have := (List.getElem?_eq_some_iff.1 HY.out).1; rw [H.out.len] at this; exact this) path HKL.out
    refine H.out.changed (by simp) (by rw [set_map HY.out, ← H.out.eq]; rfl) hg.2.2 hg.1 (set_mem HY.out path) ?_ (by rw [← HM.out]; exact HR4.out.1) HO4.out
    rw [hg.2.1, ← HM.out]
    exact HT4.out)
  have HB := Lib.hid (H.out.ok.bs y.x (by rw [H.out.eq]; exact List.mem_map.2 ⟨y, List.mem_of_getElem? HY.out, rfl⟩))
  have HI := Lib.hid (show InB w4 y.A y.x.p.bs.length y.c y.x.p.bs from by
    have hm : goB path y ∈ L.set k (goB path y) := List.mem_of_getElem? (i := k) (by rw [List.getElem?_set_self (List.getElem?_eq_some_iff.1 HY.out).1])
    have := HQ4.out.by_ _ hm
    exact own_inB (show OwnI .u8 5 0 w4 y.A y.x.p.bs.length y.c y.x.p.bs from this) HB.out.2.2)
  obtain ⟨yb, yo, hyA⟩ := inB_some HI.out HB.out.1
  have hci : ∀ (j : Nat) (v : Value), (itc y)[j]? = some v → j < 7 → w4.cell? ⟨g, k * 11 + j, none⟩ = some v := fun j v hj h7 => by
    refine row_cell HR4.out.1 (rowG_at itc 11 itc_len (i := k) (x := goB path y) (by rw [List.getElem?_set_self (List.getElem?_eq_some_iff.1 HY.out).1]) ?_)
    rw [← hj]
    match j, h7 with
    | 0, _ => rfl
    | 1, _ => rfl
    | 2, _ => rfl
    | 3, _ => rfl
    | 4, _ => rfl
    | 5, _ => rfl
    | 6, _ => rfl
  have i0 := hci 0 _ rfl (by omega)
  have i1 := hci 1 _ rfl (by omega)
  have i2 := hci 2 _ rfl (by omega)
  have i3 := hci 3 _ rfl (by omega)
  have i4 := hci 4 _ rfl (by omega)
  have i5 := hci 5 _ rfl (by omega)
  have i6 := hci 6 _ rfl (by omega)
  rw [Nat.add_zero] at i0
  rw [hyA] at i6 HI
  clear hci hyA HRS HTS HZS HOS HT4 HR4
  obtain ⟨n, hn⟩ : ∃ n, n = y.x.p.bs.length := ⟨_, rfl⟩
  rw [← hn] at HI i6
  have HN := Lib.hid hn
  have hn2 : n ≤ 256 := by rw [hn]; exact HB.out.2.1
  clear hn
  have HP4 := Lib.hid (new_at w4 (.cells #[.int .u32 0, .int .u16 0, .int .u16 0, .bool false, .bool false, .bool false, .slice none 0 0] 32))
  have HU4 := Lib.hid (up_alloc w4 (.cells #[.int .u32 0, .int .u16 0, .int .u16 0, .bool false, .bool false, .bool false, .slice none 0 0] 32))
  go_upto_region 12 with (with_reducible refine wpList_store_row rfl 32 _ _ rfl w4.heap.size (pcl y.x.p.tsn y.x.p.st y.x.p.sq y.x.p.bg y.x.p.en y.x.p.un (some ⟨yb, yo, none⟩) n y.c).toArray rfl rfl 32 _ HP4.out (by kernel_rfl) rfl (by simp [pcl, Value.oneCell']) ?_)
  have hs := setRow_heap _ _ _ (pcl y.x.p.tsn y.x.p.st y.x.p.sq y.x.p.bg y.x.p.en y.x.p.un (some ⟨yb, yo, none⟩) n y.c).toArray _ _ HP4.out
  have hso := below_setRow (B := w4.heap.size) HU4.out (Nat.le_refl _) (pcl y.x.p.tsn y.x.p.st y.x.p.sq y.x.p.bg y.x.p.en y.x.p.un (some ⟨yb, yo, none⟩) n y.c).toArray
  generalize (w4.alloc (.cells #[.int .u32 0, .int .u16 0, .int .u16 0, .bool false, .bool false, .bool false, .slice none 0 0] 32)).setRow w4.heap.size (pcl y.x.p.tsn y.x.p.st y.x.p.sq y.x.p.bg y.x.p.en y.x.p.un (some ⟨yb, yo, none⟩) n y.c).toArray = w5 at hs hso ⊢
  clear HP4 HU4 i0 i1 i2 i3 i4 i5 i6
  obtain ⟨b, hb⟩ : ∃ b, b = w4.heap.size := ⟨_, rfl⟩
  rw [← hb] at hs ⊢
  have HBB := Lib.hid hb
  have HC5 := Lib.hid hs
  have HU5 := Lib.hid (show Up w4 w5 from hso)
  have p6 : w5.cell? ⟨b, 6, none⟩ = some (.slice (some ⟨yb, yo, none⟩) n y.c) := cell_of HC5.out rfl
  clear hs hso hb
  go_wp2_with fail
  refine (clone_any ⟨yb, yo, none⟩ n y.c y.x.p.bs w5 (HI.out.up HU5.out) (by omega)).mono ?_
  rintro e w6 ⟨B, d6, rfl, HO6, HU6⟩
  have HC6 := Lib.hid ((HU6.out.block _ (lt_of_blk HC5.out)).trans HC5.out)
  have p6 : w6.cell? ⟨b, 6, none⟩ = some (.slice (some ⟨yb, yo, none⟩) n y.c) := cell_of HC6.out rfl
  have pf6 : w6.frozen? ⟨b, 6, none⟩ = false := frozen_at HC6.out
  go_upto_region 13 with (fail)
  have hs := setCell_at (j := 6) (.slice B n d6) HC6.out
  have hso := setCell_out w6 b 6 (.slice B n d6)
  generalize w6.setCell ⟨b, 6, none⟩ (.slice B n d6) = w7 at hs hso ⊢
  have HC7 := Lib.hid (show w7.heap[b]? = some (.cells (pcl y.x.p.tsn y.x.p.st y.x.p.sq y.x.p.bg y.x.p.en y.x.p.un B n d6).toArray 32 (0, 0)) from hs)
  have hb4 : w4.heap.size ≤ b := by rw [HBB.out]; exact Nat.le_refl _
  have HU7 := Lib.hid (show Up w4 w7 from Below.out (HU5.out.trans HU6.out) hso (fun k hk => by rw [hk]; exact hb4) (HU5.out.trans HU6.out).size)
  have gB : ∀ k, blk? B = some k → w5.heap.size ≤ k := fun k hk => (World.ownsRow.lt HO6.out k (by rw [ownBlock_slice]; exact hk)).1
  have hb5 : b < w5.heap.size := lt_of_blk HC5.out
  have HO7 := Lib.hid (show OwnI .u8 5 w5.heap.size w7 B n d6 y.x.p.bs from hso.own HO6.out (fun k hk e => by rw [ownBlock_slice] at hk; have := gB k hk; omega))
  have HGB := Lib.hid gB
  have HB5 := Lib.hid (show w4.heap.size ≤ w5.heap.size from HU5.out.size)
  clear p6 pf6 hs hso gB hb5 HC6 HC5 HI HU6 HU5 HO6 HBB hb4
  have q0 := cell_of HC7.out (j := 0) rfl
  have q1 := cell_of HC7.out (j := 1) rfl
  have q2 := cell_of HC7.out (j := 2) rfl
  have q3 := cell_of HC7.out (j := 3) rfl
  have q4 := cell_of HC7.out (j := 4) rfl
  have q5 := cell_of HC7.out (j := 5) rfl
  have q6 := cell_of HC7.out (j := 6) rfl
  have HZ7 := Lib.hid ((HU7.out.block _ (lt_of_blk HZ4.out)).trans HZ4.out)
  go_wp2_with (with_reducible refine wpList_store_row rfl 32 _ _ rfl r (pcl y.x.p.tsn y.x.p.st y.x.p.sq y.x.p.bg y.x.p.en y.x.p.un B n d6).toArray rfl rfl 32 _ HZ7.out (by kernel_rfl) rfl (by simp [pcl, Value.oneCell']) ?_)
  have hs := setRow_heap _ _ _ (pcl y.x.p.tsn y.x.p.st y.x.p.sq y.x.p.bg y.x.p.en y.x.p.un B n d6).toArray _ _ HZ7.out
  refine bodyPost_ret (results_row_tmp (fn := Try.f9) (p := 4) (u := 5) (ty := 32) rfl _ _ r 32 _ (0, 0) _ rfl hs Try.underlying32 rfl (by kernel_rfl)) rfl ?_
  have hso := setRow_out w7 r (pcl y.x.p.tsn y.x.p.st y.x.p.sq y.x.p.bg y.x.p.en y.x.p.un B n d6).toArray
  have hw4 := HO4.out.size
  have hb5 := HB5.out
  refine ⟨S, B, n, d6, rfl, HN, Lib.hid (OwnI.rebase (B := w5.heap.size) (hso.own HO7.out (fun k hk e => by rw [ownBlock_slice] at hk; have := HGB.out k hk; have := lt_of_blk HZ4.out; omega)) (fun k hk => by have := HGB.out k hk; omega)), Lib.hid (fun k hk hS => by have := HGB.out k hk; have := H.out.lt k hS; omega), Lib.hid ⟨q, _, _, _, rfl, (HQ4.out.up HU7.out).keep (fun k hk => hso.block k (by have := H.out.lt k hk; have := HU7.out.size; omega) (fun e => by have := H.out.lt k hk; have := HRR.out; omega)) hso.size⟩, Lib.hid (Sub.refl _ _), Lib.hid ?_⟩
  exact ((HO4.out.mono fun k hk => (by
    rcases hk with rfl | hk
    · exact H.out.inq
    · exact (H.out.inA k hk).1)).trans (HU7.out.out S) (Sub.refl _ _)).trans hso (fun k hk => .inr (by rw [hk, HRR.out]; exact Nat.le_refl _))
set_option maxRecDepth 100000 in
theorem next_none (S : Nat → Prop) (q : Nat) (A : Option Addr) (c : Nat) (L : List ItB) (Q : QS) (path : Int) (w : World) (h : IQ S w q A c L Q) (hf : Q.l.findIdx? (·.mkd) = none) (hk : outN Q.l = Q.l.length) :
    Calls Try.prog 9 #[.pointer (some ⟨q, 0, none⟩), .int .i64 path] w (Nix (.tuple #[.agg #[.int .u32 0, .int .u16 0, .int .u16 0, .bool false, .bool false, .bool false, .slice none 0 0], .bool false]) w) := by
  have hT := h.top
  have hl := h.len
  obtain ⟨m, hml⟩ : ∃ m, m = L.length := ⟨_, rfl⟩
  rw [← hml] at hT hl
  have hL : m ≤ 256 := by rw [hl]; exact h.ok.len
  rw [hk, ← hl] at hT
  have HT := Lib.hid hT
  have HR := Lib.hid h.row
  have HM := Lib.hid hml
  have HF := Lib.hid hf
  have HE := Lib.hid h.eq
  have hcap := (row_cap h.row).1
  rw [← hml] at hcap
  have HZ := Lib.hid (new_at w (.cells #[.int .u32 0, .int .u16 0, .int .u16 0, .bool false, .bool false, .bool false, .slice none 0 0] 32))
  have HU := Lib.hid (up_alloc w (.cells #[.int .u32 0, .int .u16 0, .int .u16 0, .bool false, .bool false, .bool false, .slice none 0 0] 32))
  clear h hf hk hT hl hml
  go_enter Try.func9, Try.ntmps9
  go_upto_region 1 with (fail)
  generalize w.alloc (.cells #[.int .u32 0, .int .u16 0, .int .u16 0, .bool false, .bool false, .bool false, .slice none 0 0] 32) = w1 at HZ HU ⊢
  obtain ⟨r, hr⟩ : ∃ r, r = w.heap.size := ⟨_, rfl⟩
  rw [← hr] at HZ ⊢
  have HRR := Lib.hid hr
  clear hr
  have t1 : w1.cell? ⟨q, 1, none⟩ = some (.slice A m c) := cell_of ((HU.out.block _ (lt_of_blk HT.out)).trans HT.out) rfl
  go_wp2_with fail
  refine (idxi_any A m c L w1 (by rw [HM.out]; exact own_up HR.out HU.out) HM.out (by omega)).mono ?_
  rintro e w2 ⟨rfl, HU2⟩
  rw [← HE.out, HF.out]
  simp only [idxI]
  have HW2 := Lib.hid (HU.out.trans HU2.out)
  have HZ2 := Lib.hid ((HU2.out.block _ (lt_of_blk HZ.out)).trans HZ.out)
  have hT2 := (HW2.out.block _ (lt_of_blk HT.out)).trans HT.out
  have t1 : w2.cell? ⟨q, 1, none⟩ = some (.slice A m c) := cell_of hT2 rfl
  have t2 : w2.cell? ⟨q, 2, none⟩ = some (.int .i64 (m : Int)) := cell_of hT2 rfl
  clear hT2 HZ HU HU2
  go_upto_region 5 with (fail)
  go_quiet (fail)
  have HZ3 := Lib.hid (((up_drewN w2 nq).block _ (lt_of_blk HZ2.out)).trans HZ2.out)
  have HW3 := Lib.hid (HW2.out.trans (up_drewN w2 nq))
  generalize w2.drewN nq = w3 at HZ3 HW3 ⊢
  clear t1 t2
  go_wp2_with (with_reducible refine wpList_store_row rfl 32 _ _ rfl r #[.int .u32 0, .int .u16 0, .int .u16 0, .bool false, .bool false, .bool false, .slice none 0 0] rfl rfl 32 _ HZ3.out (by kernel_rfl) rfl (by simp [Value.oneCell']) ?_)
  have hs := setRow_heap _ _ _ #[.int .u32 0, .int .u16 0, .int .u16 0, .bool false, .bool false, .bool false, .slice none 0 0] _ _ HZ3.out
  refine bodyPost_ret (results_row_tmp (fn := Try.f9) (p := 4) (u := 5) (ty := 32) rfl _ _ r 32 _ (0, 0) _ rfl hs Try.underlying32 rfl (by kernel_rfl)) rfl ?_
  exact ⟨rfl, Lib.hid (below_setRow HW3.out (by rw [HRR.out]; exact Nat.le_refl _) _)⟩
set_option maxRecDepth 100000 in
theorem next0_any (path : Int) (w : World) : Calls Try.prog 9 #[.pointer none, .int .i64 path] w (Nix (.tuple #[.agg #[.int .u32 0, .int .u16 0, .int .u16 0, .bool false, .bool false, .bool false, .slice none 0 0], .bool false]) w) := by
  have HZ := Lib.hid (new_at w (.cells #[.int .u32 0, .int .u16 0, .int .u16 0, .bool false, .bool false, .bool false, .slice none 0 0] 32))
  have HU := Lib.hid (up_alloc w (.cells #[.int .u32 0, .int .u16 0, .int .u16 0, .bool false, .bool false, .bool false, .slice none 0 0] 32))
  go_enter Try.func9, Try.ntmps9
  go_upto_region 1 with (fail)
  generalize w.alloc (.cells #[.int .u32 0, .int .u16 0, .int .u16 0, .bool false, .bool false, .bool false, .slice none 0 0] 32) = w1 at HZ HU ⊢
  obtain ⟨r, hr⟩ : ∃ r, r = w.heap.size := ⟨_, rfl⟩
  rw [← hr] at HZ ⊢
  have HRR := Lib.hid hr
  clear hr
  go_wp2_with (with_reducible refine wpList_store_row rfl 32 _ _ rfl r #[.int .u32 0, .int .u16 0, .int .u16 0, .bool false, .bool false, .bool false, .slice none 0 0] rfl rfl 32 _ HZ.out (by kernel_rfl) rfl (by simp [Value.oneCell']) ?_)
  have hs := setRow_heap _ _ _ #[.int .u32 0, .int .u16 0, .int .u16 0, .bool false, .bool false, .bool false, .slice none 0 0] _ _ HZ.out
  refine bodyPost_ret (results_row_tmp (fn := Try.f9) (p := 4) (u := 5) (ty := 32) rfl _ _ r 32 _ (0, 0) _ rfl hs Try.underlying32 rfl (by kernel_rfl)) rfl ?_
  exact ⟨rfl, Lib.hid (below_setRow HU.out (by rw [HRR.out]; exact Nat.le_refl _) _)⟩
end Go.Proofs.Ytdlehchofmdjbaa
