import Derived.Test.YtdlehchofmdjbaaSqA
import Derived.Test.YtdlehchofmdjbaaCk17
namespace Go.Proofs.Ytdlehchofmdjbaa
open Go Go.RowKit Sq
set_option linter.unusedVariables false
set_option linter.unusedSimpArgs false
/-! Push. -/
namespace Sq
theorem cum_next {Q : QS} (h : Q.nx < 4294967296) (hl : Q.l.length ≤ 256) : (cum Q + Q.l.length + 1) % 4294967296 = Q.nx := by unfold cum; omega
theorem cum_push (Q : QS) (p : Pm) (h : Q.nx < 4294967296) (hl : Q.l.length < 256) : cum (push Q p) = cum Q := by unfold cum push; simp; omega
theorem outN_push (Q : QS) (p : Pm) : outN (push Q p).l = outN Q.l := by
  unfold push outN
  rw [List.takeWhile_append]
  split
  · rename_i h
    rw [show ([fresh p Q.nx].takeWhile (·.out)) = [] from rfl, List.append_nil]; exact h.symm
  · rfl
theorem good_push {Q : QS} (h : Good Q) (hl : Q.l.length < 256) {p : Pm} (hb : 0 < p.bs.length ∧ p.bs.length ≤ 256 ∧ Byt p.bs) (h1 : p.st < 65536) (h2 : p.sq < 65536) : Good (push Q p) := by
  refine ⟨by simp [push]; omega, Nat.mod_lt _ (by decide), fun i x hx => ?_, fun i x hx => ?_, fun x hx => ?_, fun x hx => ?_, fun x hx hm => ?_⟩
  · rw [outN_push]
    rcases Nat.lt_or_ge i Q.l.length with hi | hi
    · exact h.pre i x (by rwa [show (push Q p).l = Q.l ++ [fresh p Q.nx] from rfl, List.getElem?_append_left hi] at hx)
    · rw [show (push Q p).l = Q.l ++ [fresh p Q.nx] from rfl, List.getElem?_append_right hi] at hx
      obtain ⟨rfl, hi0⟩ : x = fresh p Q.nx ∧ i - Q.l.length = 0 := by
        rcases hj : i - Q.l.length with _ | j
        · rw [hj] at hx; simp at hx; exact ⟨hx.symm, rfl⟩
        · rw [hj] at hx; simp at hx
      have := outN_le Q.l
      simp [fresh]; omega
  · rw [cum_push Q p h.nx hl]
    rcases Nat.lt_or_ge i Q.l.length with hi | hi
    · exact h.tsn i x (by rwa [show (push Q p).l = Q.l ++ [fresh p Q.nx] from rfl, List.getElem?_append_left hi] at hx)
    · rw [show (push Q p).l = Q.l ++ [fresh p Q.nx] from rfl, List.getElem?_append_right hi] at hx
      obtain ⟨rfl, hi0⟩ : x = fresh p Q.nx ∧ i - Q.l.length = 0 := by
        rcases hj : i - Q.l.length with _ | j
        · rw [hj] at hx; simp at hx; exact ⟨hx.symm, rfl⟩
        · rw [hj] at hx; simp at hx
      have := cum_next h.nx h.len
      show Q.nx = _
      omega
  all_goals rcases List.mem_append.1 (show x ∈ Q.l ++ [fresh p Q.nx] from hx) with hx | hx
  · exact h.bs x hx
  · rw [List.mem_singleton.1 hx]; exact hb
  · exact h.bd x hx
  · rw [List.mem_singleton.1 hx]; exact ⟨h1, h2, Nat.zero_le _⟩
  · exact h.mo x hx hm
  · rw [List.mem_singleton.1 hx] at hm; cases hm
def pcv (p : Pm) (A : Option Addr) (n c : Nat) : Value := .agg #[.int .u32 (p.tsn : Int), .int .u16 (p.st : Int), .int .u16 (p.sq : Int), .bool p.bg, .bool p.en, .bool p.un, .slice A n c]
def Answer (v : Value) (Q : QS) (IsQ : (Nat → Prop) → World → Addr → QS → Prop) (p : Addr) (S : Nat → Prop) (w : World) (e : Ending) (w' : World) : Prop := ∃ S', e = .returned v ∧ Hid (IsQ S' w' p Q) ∧ Hid (Sub S' S w) ∧ Hid (Out S w w')
/-- What a new item makes of a queue's memory. -/
theorem IQ.pushed {S : Nat → Prop} {w w' : World} {q c c' d : Nat} {A A' B : Option Addr} {L : List ItB} {Q : QS} {p : Pm} (h : IQ S w q A c L Q) (hl : Q.l.length < 256) (hb : 0 < p.bs.length ∧ p.bs.length ≤ 256 ∧ Byt p.bs) (h1 : p.st < 65536) (h2 : p.sq < 65536)
    (htop : w'.heap[q]? = some (.cells (qcl (cum Q) A' (L.length + 1) c' (outN Q.l)) 52 (0, 0))) (hrow : w'.ownsRow 0 56 11 (.slice A' (L.length + 1) c') (L.length + 1) (L.flatMap itc ++ itc ⟨fresh p Q.nx, B, d⟩))
    (hbs : OwnI .u8 5 w.heap.size w' B p.bs.length d p.bs) (hA : ∀ k, blk? A' = some k → blk? A = some k ∨ w.heap.size ≤ k) (hne : ∀ k, blk? A' = some k → blk? B ≠ some k) (hout : Out (fun k => k = q ∨ blk? A = some k) w w') :
    ∃ S', IQ S' w' q A' c' (L ++ [⟨fresh p Q.nx, B, d⟩]) (push Q p) ∧ Sub S' S w ∧ Out S w w' := by
  have hq : q < w.heap.size := lt_of_blk h.top
  have hB : ∀ k, blk? B = some k → w.heap.size ≤ k ∧ k < w'.heap.size := fun k hk => World.ownsRow.lt hbs k (by rw [ownBlock_slice]; exact hk)
  have hA2 : ∀ k, blk? A' = some k → k < w'.heap.size := fun k hk => (World.ownsRow.lt hrow k (by rw [ownBlock_slice]; exact hk)).2
  refine ⟨fun k => S k ∨ blk? A' = some k ∨ blk? B = some k, ⟨?_, ?_, ?_, ?_, .inl h.inq, ?_, ?_, good_push h.ok hl hb h1 h2, ?_⟩, ?_, ?_⟩
  · rw [cum_push Q p h.ok.nx hl, outN_push, List.length_append]; exact htop
  · rw [List.length_append, List.flatMap_append]
    simpa using hrow
  · simp [push, h.eq]
  · intro y hy
    rcases List.mem_append.1 hy with hy | hy
    · refine own_blk (h.by_ y hy) (fun g hg => ?_)
      rw [ownBlock_slice] at hg
      have hi := h.inB y hy g hg
      exact hout.block g (h.lt g hi.1) (fun e => by rcases e with e | e; exact hi.2.1 e; exact hi.2.2 e)
    · rw [List.mem_singleton.1 hy]; exact hbs.rebase (fun _ _ => Nat.zero_le _)
  · intro k hk
    refine ⟨.inr (.inl hk), ?_⟩
    rcases hA k hk with h3 | h3
    · exact (h.inA k h3).2
    · omega
  · intro y hy k hk
    rcases List.mem_append.1 hy with hy | hy
    · have hi := h.inB y hy k hk
      refine ⟨.inl hi.1, hi.2.1, fun e => ?_⟩
      rcases hA k e with h3 | h3
      · exact hi.2.2 h3
      · have := h.lt k hi.1; omega
    · rw [List.mem_singleton.1 hy] at hk
      refine ⟨.inr (.inr hk), ?_, fun e => hne k e hk⟩
      have := hB k hk; omega
  · intro k hk
    rcases hk with hk | hk | hk
    · exact Nat.lt_of_lt_of_le (h.lt k hk) hout.size
    · exact hA2 k hk
    · exact (hB k hk).2
  · intro k hk
    rcases hk with hk | hk | hk
    · exact .inl hk
    · rcases hA k hk with h3 | h3
      · exact .inl (h.inA k h3).1
      · exact .inr h3
    · exact .inr (hB k hk).1
  · refine hout.mono fun k hk => ?_
    rcases hk with rfl | hk
    · exact h.inq
    · exact (h.inA k hk).1
end Sq
open Sq
set_option maxRecDepth 100000 in
set_option maxHeartbeats 4000000 in
theorem push_any (S : Nat → Prop) (q : Nat) (A : Option Addr) (c : Nat) (L : List ItB) (Q : QS) (x : Pm) (b o n d : Nat) (w : World) (h : IQ S w q A c L Q) (hb : InB w (some ⟨b, o, none⟩) n d x.bs) (h0 : 0 < n) (hn : n ≤ 256) (hl : Q.l.length < 256) (h1 : x.st < 65536) (h2 : x.sq < 65536) :
    Calls Try.prog 8 #[.pointer (some ⟨q, 0, none⟩), .agg #[.int .u32 (x.tsn : Int), .int .u16 (x.st : Int), .int .u16 (x.sq : Int), .bool x.bg, .bool x.en, .bool x.un, .slice (some ⟨b, o, none⟩) n d]] w (Answer (.tuple #[.int .u32 (Q.nx : Int), .int .i64 0]) (push Q x) IsQ ⟨q, 0, none⟩ S w) := by
  have H := Lib.hid h
  have HB := Lib.hid hb
  have HL := Lib.hid hl
  have HLL := Lib.hid h.len
  have H12 := Lib.hid (And.intro h1 h2)
  have hm : L.length < 256 := by rw [h.len]; exact hl
  obtain ⟨m, hml⟩ : ∃ m, m = L.length := ⟨_, rfl⟩
  have HM := Lib.hid hml
  rw [← hml] at hm
  have HC := Lib.hid (new_at w (.cells #[.int .u32 (x.tsn : Int), .int .u16 (x.st : Int), .int .u16 (x.sq : Int), .bool x.bg, .bool x.en, .bool x.un, .slice (some ⟨b, o, none⟩) n d] 32))
  have HU := Lib.hid (up_alloc w (.cells #[.int .u32 (x.tsn : Int), .int .u16 (x.st : Int), .int .u16 (x.sq : Int), .bool x.bg, .bool x.en, .bool x.un, .slice (some ⟨b, o, none⟩) n d] 32))
  have HG := Lib.hid (show w.heap.size = w.heap.size from rfl)
  clear h hb hl h1 h2 hml
  go_enter Try.func8, Try.ntmps8
  go_upto_region 1 with (fail)
  generalize w.alloc (.cells #[.int .u32 (x.tsn : Int), .int .u16 (x.st : Int), .int .u16 (x.sq : Int), .bool x.bg, .bool x.en, .bool x.un, .slice (some ⟨b, o, none⟩) n d] 32) = w1 at HC HU ⊢
  obtain ⟨g, hg⟩ : ∃ g, g = w.heap.size := ⟨_, rfl⟩
  rw [← hg] at HC ⊢
  have HGG := Lib.hid hg
  clear hg HG
  have H1 := Lib.hid (H.out.up HU.out)
  have HT := Lib.hid (show w1.heap[q]? = some (.cells (qcl (cum Q) A m c (outN Q.l)) 52 (0, 0)) by rw [HM.out]; exact H1.out.top)
  have t1 : w1.cell? ⟨q, 1, none⟩ = some (.slice A m c) := cell_of HT.out rfl
  have p6 : w1.cell? ⟨g, 6, none⟩ = some (.slice (some ⟨b, o, none⟩) n d) := cell_of HC.out rfl
  have p0 : w1.cell? ⟨g, 0, none⟩ = some (.int .u32 (x.tsn : Int)) := cell_of HC.out rfl
  have pf : ∀ j, w1.frozen? ⟨g, j, none⟩ = false := fun j => frozen_at HC.out
  have pf0 := pf 0
  clear pf
  go_wp2_with fail
  refine (after_any q m _ (cum Q) w1 HT.out rfl (by omega)).mono ?_
  rintro e w2 ⟨rfl, rfl⟩
  have HN := Lib.hid (show ((cum Q : Int) + (m : Int) + 1) % 4294967296 = (Q.nx : Int) by
    have := cum_next H.out.ok.nx H.out.ok.len
    have h3 := HM.out; have h4 := HLL.out
    omega)
  have hs := setCell_at (j := 0) (.int .u32 (Q.nx : Int)) HC.out
  have hso := setCell_out w2 g 0 (.int .u32 (Q.nx : Int))
  generalize hw3 : w2.setCell ⟨g, 0, none⟩ (.int .u32 (Q.nx : Int)) = w3 at hs hso
  have HW3 := Lib.hid hw3
  have HC3 := Lib.hid (show w3.heap[g]? = some (.cells #[.int .u32 (Q.nx : Int), .int .u16 (x.st : Int), .int .u16 (x.sq : Int), .bool x.bg, .bool x.en, .bool x.un, .slice (some ⟨b, o, none⟩) n d] 32 (0, 0)) from hs)
  have HU3 := Lib.hid (show Up w w3 from Below.out HU.out hso (fun k hk => by rw [hk, HGG.out]; exact Nat.le_refl _) HU.out.size)
  clear hs hso hw3
  go_upto_region 9 with (fail)
  rw [HN.out, HW3.out]
  have p6 : w3.cell? ⟨g, 6, none⟩ = some (.slice (some ⟨b, o, none⟩) n d) := cell_of HC3.out rfl
  clear t1 p0 pf0 HC
  go_wp2_with fail
  refine (clone_any ⟨b, o, none⟩ n d x.bs w3 (HB.out.up HU3.out) (by omega)).mono ?_
  rintro e w4 ⟨B, e4, rfl, HO4, HU4⟩
  have HC4 := Lib.hid ((HU4.out.block _ (lt_of_blk HC3.out)).trans HC3.out)
  have p6 : w4.cell? ⟨g, 6, none⟩ = some (.slice (some ⟨b, o, none⟩) n d) := cell_of HC4.out rfl
  have pf6 : w4.frozen? ⟨g, 6, none⟩ = false := frozen_at HC4.out
  go_upto_region 10 with (fail)
  have hs := setCell_at (j := 6) (.slice B n e4) HC4.out
  have hso := setCell_out w4 g 6 (.slice B n e4)
  generalize hw5 : w4.setCell ⟨g, 6, none⟩ (.slice B n e4) = w5 at hs hso ⊢
  have HU34 := Lib.hid (HU3.out.trans HU4.out)
  have HU5 := Lib.hid (show Up w w5 from Below.out HU34.out hso (fun k hk => by rw [hk, HGG.out]; exact Nat.le_refl _) HU34.out.size)
  have HC5 := Lib.hid (show w5.heap[g]? = some (.cells (pcl Q.nx x.st x.sq x.bg x.en x.un B n e4).toArray 32 (0, 0)) from hs)
  have gB : ∀ k, blk? B = some k → w3.heap.size ≤ k := fun k hk => (World.ownsRow.lt HO4.out k (by rw [ownBlock_slice]; exact hk)).1
  have hg3 : g < w3.heap.size := lt_of_blk HC3.out
  have HO5 := Lib.hid (show OwnI .u8 5 w3.heap.size w5 B n e4 x.bs from hso.own HO4.out (fun k hk e => by rw [ownBlock_slice] at hk; have := gB k hk; omega))
  clear hs hso hw5 p6 pf6 HC4 HU34
  -- the worlds of the append
  obtain ⟨wA, hwA⟩ : ∃ y, y = w5.drew := ⟨_, rfl⟩
  have UA : Up w5 wA := by rw [hwA]; exact Up.drew w5
  obtain ⟨wB, hwB⟩ : ∃ y, y = wA.alloc (.cells #[.int .u32 (Q.nx : Int), .int .u16 (x.st : Int), .int .u16 (x.sq : Int), .bool x.bg, .bool x.en, .bool x.un, .slice B n e4, .int .i64 0, .int .i64 0, .bool false, .bool false] 56) := ⟨_, rfl⟩
  have UB : Up wA wB := by rw [hwB]; exact up_alloc _ _
  have HBB : wB.heap[wA.heap.size]? = some (.cells #[.int .u32 (Q.nx : Int), .int .u16 (x.st : Int), .int .u16 (x.sq : Int), .bool x.bg, .bool x.en, .bool x.un, .slice B n e4, .int .i64 0, .int .i64 0, .bool false, .bool false] 56 (0, 0)) := by rw [hwB]; exact new_at _ _
  have hB : (Instr.buildSlice 50 1 #[(0, .agg #[.int .u32 (Q.nx : Int), .int .u16 (x.st : Int), .int .u16 (x.sq : Int), .bool x.bg, .bool x.en, .bool x.un, .slice B n e4, .int .i64 0, .int .i64 0, .bool false, .bool false])]).run Try.prog wA = .ok (.slice (some ⟨wA.heap.size, 0, none⟩) 1 1) wB := by rw [hwB]; exact bslice50 _ _ _ _ _ _ _ _ _ _
  have HH := H.out.up (HU5.out.trans (UA.trans UB))
  have hrow := HH.row
  rw [← HM.out] at hrow
  obtain ⟨A2, c2, wC, rC, OC, RC, EC⟩ := append_G (ty := 50) Try.underlying50 info56 rfl (by omega) hrow (some ⟨wA.heap.size, 0, none⟩) 1 1 (itc ⟨fresh x Q.nx, B, e4⟩) rfl (fun _ => ⟨_, 0, rfl, lt_of_blk HBB, fun j u hu => cell_of HBB (by rw [Nat.zero_add]; simpa [itc, fresh, HB.out.len] using hu)⟩) (by simp [itc, Value.oneCell']) (by omega) (by omega) (Nat.zero_le _)
  have hAq : ∀ k, blk? A = some k → k ≠ q := fun k hk => (H.out.inA k hk).2
  have hTB : wB.heap[q]? = some (.cells (qcl (cum Q) A m c (outN Q.l)) 52 (0, 0)) := by rw [HM.out]; exact HH.top
  have hTC := OC.blk hTB (fun e => hAq q e rfl)
  obtain ⟨wD, hwD⟩ : ∃ y, y = wC.setCell ⟨q, 1, none⟩ (.slice A2 (m + 1) c2) := ⟨_, rfl⟩
  have OD := setCell_out wC q 1 (.slice A2 (m + 1) c2)
  have TD := setCell_at (j := 1) (.slice A2 (m + 1) c2) hTC
  rw [← hwD] at OD TD
  have hqA2 : ∀ k, blk? A2 = some k → k ≠ q := fun k hk => by
    rcases EC with h3 | h3
    · exact hAq k (h3.symm.trans hk)
    · rw [hk] at h3; injection h3 with h3; have := lt_of_blk hTB; omega
  have RD := OD.own RC (fun k hk e => hqA2 k (by rwa [ownBlock_slice] at hk) e)
  have cA : wA.cell? ⟨q, 1, none⟩ = some (.slice A m c) := by
    have := (H.out.up (HU5.out.trans UA)).top
    rw [← HM.out] at this
    exact cell_of this rfl
  have cB : wB.cell? ⟨q, 1, none⟩ = some (.slice A m c) := cell_of hTB rfl
  refine staged_lit (by kernel_rfl) (facts [Is (.pointer (some ⟨q, 0, none⟩)), Is (.pointer (some ⟨q, 0, none⟩)), Is (.pointer (some ⟨q, 0, none⟩)), Is (.pointer (some ⟨q, 0 + 1, none⟩)), Is (.slice A m c), Is (.agg (pcl Q.nx x.st x.sq x.bg x.en x.un B n e4).toArray), Is (.agg #[.int .u32 (Q.nx : Int), .int .u16 (x.st : Int), .int .u16 (x.sq : Int), .bool x.bg, .bool x.en, .bool x.un, .slice B n e4, .int .i64 0, .int .i64 0, .bool false, .bool false]), Is (.slice (some ⟨wA.heap.size, 0, none⟩) 1 1), Is (.slice A2 (m + 1) c2), Is (.pointer (some ⟨q, 0, none⟩)), Is (.pointer (some ⟨q, 0 + 1, none⟩)), Tru]) (Stg [7, 8, 11] (fun k y => y = [wA, wB, wC].getD k wD)) 51 rfl rfl rfl (Stg.start (by rw [hwA]; rfl)) ?_ ?_
  · refine ⟨?_, ?_, ?_, ?_, ?_, ?_, ?_, ?_, ?_, ?_, ?_, ?_, trivial⟩
    · refine opS_same rfl rfl fun L ac w1 hJ hl hc ho hd => ?_
      have s0 : ac.eval (.tmp 0) = .pointer (some ⟨q, 0, none⟩) := ho 0 rfl
      exact ⟨_, x_move (.tmp 0) rfl s0, rfl⟩
    · refine opS_same rfl rfl fun L ac w1 hJ hl hc ho hd => ?_
      have s0 : ac.eval (.tmp 0) = .pointer (some ⟨q, 0, none⟩) := ho 0 rfl
      exact ⟨_, x_move (.tmp 0) rfl s0, rfl⟩
    · refine opS_same rfl rfl fun L ac w1 hJ hl hc ho hd => ?_
      have d1 : ac.eval (.tmp 39) = .pointer (some ⟨q, 0, none⟩) := hd 1 _ _ rfl rfl rfl
      exact ⟨_, x_nil (.tmp 39) rfl d1, rfl⟩
    · refine opS_same rfl rfl fun L ac w1 hJ hl hc ho hd => ?_
      have d2 : ac.eval (.tmp 40) = .pointer (some ⟨q, 0, none⟩) := hd 2 _ _ rfl rfl rfl
      exact ⟨_, x_field 52 (.tmp 40) 1 rfl d2 (fld521 _ _ _), rfl⟩
    · refine opS_same rfl rfl fun L ac w1 hJ hl hc ho hd => ?_
      have d3 : ac.eval (.tmp 41) = .pointer (some ⟨q, 0 + 1, none⟩) := hd 3 _ _ rfl rfl rfl
      obtain ⟨k, hk, hW⟩ := hJ.ahead (j := 1) (x := 8) rfl (reach_not hc (i := 4) (n := 12) rfl hl)
      have hcell : w1.cell? ⟨q, 0 + 1, none⟩ = some (.slice A m c) := by
        rcases (show k = 0 ∨ k = 1 by omega) with rfl | rfl
        · rw [show w1 = wA from hW]; exact cA
        · rw [show w1 = wB from hW]; exact cB
      exact ⟨_, x_load 50 (.tmp 41) rfl d3 (run_load1 agg50 hcell), rfl⟩
    · refine opS_same rfl rfl fun L ac w1 hJ hl hc ho hd => ?_
      have s3 : ac.eval (.tmp 3) = .pointer (some ⟨g, 0, none⟩) := ho 3 rfl
      have hW : w1 = wA := hJ.first (reach_not hc (i := 5) (n := 12) rfl hl)
      exact ⟨_, x_load 32 (.tmp 3) rfl s3 (run_load32 (pcl_len _ _ _ _ _ _ _ _ _) (fun j v hj => by rw [hW]; exact cell_of ((UA.block _ (lt_of_blk HC5.out)).trans HC5.out) (by rw [Nat.zero_add]; simpa using hj))), rfl⟩
    · refine opS_same rfl rfl fun L ac w1 hJ hl hc ho hd => ?_
      have d5 : ac.eval (.tmp 43) = .agg (pcl Q.nx x.st x.sq x.bg x.en x.un B n e4).toArray := hd 5 _ _ rfl rfl rfl
      exact ⟨_, x_build 56 _ rfl (by simp only [List.map_toArray, List.map_cons, List.map_nil, d5]; exact build56 _ _ _ _ _ _ _ _ _ _), rfl⟩
    · refine opS_writeV (j := 0) rfl (by decide) rfl (fun _ _ h => absurd h (by omega)) fun ac wx hW ho hd => ?_
      obtain rfl := (show wx = wA from hW)
      have d6 : ac.eval (.tmp 44) = .agg #[.int .u32 (Q.nx : Int), .int .u16 (x.st : Int), .int .u16 (x.sq : Int), .bool x.bg, .bool x.en, .bool x.un, .slice B n e4, .int .i64 0, .int .i64 0, .bool false, .bool false] := hd 6 _ _ rfl rfl rfl
      exact ⟨_, _, x_bslice 50 1 _ rfl (by simp only [List.map_toArray, List.map_cons, List.map_nil, d6]; exact hB), rfl, rfl, fun q v _ => facts_free (by simp [free_is, free_tru]) q v⟩
    · refine opS_writeV (j := 1) rfl (by decide) rfl (fun y hy _ => by simp at hy; subst hy; rfl) fun ac wx hW ho hd => ?_
      obtain rfl := (show wx = wB from hW)
      have d4 : ac.eval (.tmp 42) = .slice A m c := hd 4 _ _ rfl rfl rfl
      have d7 : ac.eval (.tmp 45) = .slice (some ⟨wA.heap.size, 0, none⟩) 1 1 := hd 7 _ _ rfl rfl rfl
      exact ⟨_, _, x_append (.tmp 42) (.tmp 45) 50 50 rfl d4 d7 rC, rfl, rfl, fun q v _ => facts_free (by simp [free_is, free_tru]) q v⟩
    · refine opS_same rfl rfl fun L ac w1 hJ hl hc ho hd => ?_
      have d0 : ac.eval (.tmp 38) = .pointer (some ⟨q, 0, none⟩) := hd 0 _ _ rfl rfl rfl
      exact ⟨_, x_nil (.tmp 38) rfl d0, rfl⟩
    · refine opS_same rfl rfl fun L ac w1 hJ hl hc ho hd => ?_
      have d9 : ac.eval (.tmp 47) = .pointer (some ⟨q, 0, none⟩) := hd 9 _ _ rfl rfl rfl
      exact ⟨_, x_field 52 (.tmp 47) 1 rfl d9 (fld521 _ _ _), rfl⟩
    · refine opS_write (j := 2) rfl rfl (by decide) rfl (fun y hy _ => by simp at hy; subst hy; rfl) fun ac wx hW ho hd => ?_
      obtain rfl := (show wx = wC from hW)
      have d10 : ac.eval (.tmp 48) = .pointer (some ⟨q, 0 + 1, none⟩) := hd 10 _ _ rfl rfl rfl
      have d8 : ac.eval (.tmp 46) = .slice A2 (m + 1) c2 := hd 8 _ _ rfl rfl rfl
      exact ⟨_, x_store 50 (.tmp 48) (.tmp 46) rfl d10 d8 (run_store1 siz50 hTC (by simp [qcl]) rfl rfl), hwD.symm, fun _ => trivial, fun q v => facts_free (by simp [free_is, free_tru]) q v⟩
  · intro L1 a wF hI hall
    obtain rfl : wF = wD := by
      obtain ⟨k, hk, hW⟩ := hI.done hall (by decide)
      rcases Nat.eq_or_lt_of_le hk with h4 | h4
      · rw [hW, ← h4]; rfl
      · rw [hW, List.getD_eq_getElem?_getD, List.getElem?_eq_none (by simp at h4 ⊢; omega)]; rfl
    have l3 : a.tmps.getD 3 undef = .pointer (some ⟨g, 0, none⟩) := hI.old 3 rfl
    have l4 : a.tmps.getD 4 undef = .int .u32 0 := hI.old 4 rfl
    have l5 : a.tmps.getD 5 undef = .int .i64 0 := hI.old 5 rfl
    have hde : a.defers = [] := hI.defers
    have hal := act_lit a 51 hI.size
    clear hI
    simp only [List.range, List.range.loop, List.map_cons, List.map_nil] at hal
    rw [l3, l4, l5, hde] at hal
    generalize a.tmps.getD 0 undef = t0 at hal
    generalize a.tmps.getD 1 undef = t1 at hal
    generalize a.tmps.getD 2 undef = t2 at hal
    generalize a.tmps.getD 6 undef = t6 at hal
    generalize a.tmps.getD 7 undef = t7 at hal
    generalize a.tmps.getD 8 undef = t8 at hal
    generalize a.tmps.getD 9 undef = t9 at hal
    generalize a.tmps.getD 10 undef = t10 at hal
    generalize a.tmps.getD 11 undef = t11 at hal
    generalize a.tmps.getD 12 undef = t12 at hal
    generalize a.tmps.getD 13 undef = t13 at hal
    generalize a.tmps.getD 14 undef = t14 at hal
    generalize a.tmps.getD 15 undef = t15 at hal
    generalize a.tmps.getD 16 undef = t16 at hal
    generalize a.tmps.getD 17 undef = t17 at hal
    generalize a.tmps.getD 18 undef = t18 at hal
    generalize a.tmps.getD 19 undef = t19 at hal
    generalize a.tmps.getD 20 undef = t20 at hal
    generalize a.tmps.getD 21 undef = t21 at hal
    generalize a.tmps.getD 22 undef = t22 at hal
    generalize a.tmps.getD 23 undef = t23 at hal
    generalize a.tmps.getD 24 undef = t24 at hal
    generalize a.tmps.getD 25 undef = t25 at hal
    generalize a.tmps.getD 26 undef = t26 at hal
    generalize a.tmps.getD 27 undef = t27 at hal
    generalize a.tmps.getD 28 undef = t28 at hal
    generalize a.tmps.getD 29 undef = t29 at hal
    generalize a.tmps.getD 30 undef = t30 at hal
    generalize a.tmps.getD 31 undef = t31 at hal
    generalize a.tmps.getD 32 undef = t32 at hal
    generalize a.tmps.getD 33 undef = t33 at hal
    generalize a.tmps.getD 34 undef = t34 at hal
    generalize a.tmps.getD 35 undef = t35 at hal
    generalize a.tmps.getD 36 undef = t36 at hal
    generalize a.tmps.getD 37 undef = t37 at hal
    generalize a.tmps.getD 38 undef = t38 at hal
    generalize a.tmps.getD 39 undef = t39 at hal
    generalize a.tmps.getD 40 undef = t40 at hal
    generalize a.tmps.getD 41 undef = t41 at hal
    generalize a.tmps.getD 42 undef = t42 at hal
    generalize a.tmps.getD 43 undef = t43 at hal
    generalize a.tmps.getD 44 undef = t44 at hal
    generalize a.tmps.getD 45 undef = t45 at hal
    generalize a.tmps.getD 46 undef = t46 at hal
    generalize a.tmps.getD 47 undef = t47 at hal
    generalize a.tmps.getD 48 undef = t48 at hal
    generalize a.tmps.getD 49 undef = t49 at hal
    generalize a.tmps.getD 50 undef = t50 at hal
    clear l3 l4 l5 hde
    subst hal
    have HOF := Lib.hid (show OwnI .u8 5 w.heap.size wF B n e4 x.bs from OwnI.rebase (B := w3.heap.size) (OD.own (OC.own (own_up (own_up HO5.out UA) UB) (fun k hk e => by
      rw [ownBlock_slice] at hk
      have h5 := gB k hk
      have h6 := H.out.lt k (H.out.inA k e).1
      have := HU3.out.size
      omega)) (fun k hk e => by
      rw [ownBlock_slice] at hk
      have h5 := gB k hk
      have h6 := H.out.lt q H.out.inq
      have := HU3.out.size
      omega)) (fun k hk => by have := gB k hk; have := HU3.out.size; omega))
    have HOUT := Lib.hid (show Out (fun k => k = q ∨ blk? A = some k) w wF from ((((HU5.out.trans (UA.trans UB)).out (fun k => blk? A = some k)).trans OC (fun k hk => .inl hk)).mono (fun k hk => .inr hk)).trans (OD.mono fun k hk => .inl hk) (fun k hk => .inl hk))
    have HRD := Lib.hid RD
    have HTD := Lib.hid TD
    have hsz : w.heap.size ≤ wB.heap.size := (HU5.out.trans (UA.trans UB)).size
    have HP0 := Lib.hid (show ∃ S', IQ S' wF q A2 c2 (L ++ [⟨fresh x Q.nx, B, e4⟩]) (push Q x) ∧ Sub S' S w ∧ Out S w wF from H.out.pushed HL.out ⟨by rw [HB.out.len]; exact h0, by rw [HB.out.len]; exact hn, HB.out.byt⟩ H12.out.1 H12.out.2 (by rw [← HM.out]; exact HTD.out) (by rw [← HM.out]; exact HRD.out) (by rw [HB.out.len]; exact HOF.out) (fun k hk => by
      rcases EC with h3 | h3
      · exact .inl (h3.symm.trans hk)
      · rw [hk] at h3; injection h3 with h3; exact .inr (by omega)) (fun k hk e => by
      have h5 := gB k e
      have h7 := (World.ownsRow.lt HO5.out k (by rw [ownBlock_slice]; exact e)).2
      have := UA.size; have := UB.size
      rcases EC with h3 | h3
      · have h6 := H.out.lt k (H.out.inA k (h3.symm.trans hk)).1
        have := HU3.out.size; omega
      · rw [hk] at h3; injection h3 with h3; omega) HOUT.out)
    have HCF := Lib.hid (show wF.heap[g]? = some (.cells (pcl Q.nx x.st x.sq x.bg x.en x.un B n e4).toArray 32 (0, 0)) from OD.blk (OC.blk ((UB.block _ (by have := lt_of_blk HC5.out; have := UA.size; omega)).trans ((UA.block _ (lt_of_blk HC5.out)).trans HC5.out)) (fun e => by have := H.out.lt g (H.out.inA g e).1; have := HGG.out; omega)) (fun e => by have := H.out.lt q H.out.inq; have := HGG.out; omega))
    clear HOF HOUT HRD HTD hsz RD TD OD hwD hqA2 hTC hTB hAq OC RC EC rC HH hrow hB HBB UB hwB UA cA cB gB hg3
    have p0 : wF.cell? ⟨g, 0, none⟩ = some (.int .u32 (Q.nx : Int)) := cell_of HCF.out rfl
    go_wp2_with fail
    go_ret2
    obtain ⟨S', k1, k2, k3⟩ := HP0.out
    exact ⟨S', rfl, Lib.hid ⟨q, A2, c2, _, rfl, k1⟩, Lib.hid k2, Lib.hid k3⟩
end Go.Proofs.Ytdlehchofmdjbaa
