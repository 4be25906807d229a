import Derived.Test.YtdlehchofmdjbaaSqC
namespace Go.Proofs.Ytdlehchofmdjbaa
open Go Go.RowKit Sq
set_option linter.unusedVariables false
set_option linter.unusedSimpArgs false
/-! SendqNil. -/
namespace Sq
theorem own1 {w : World} {B c : Nat} {A : Option Addr} {x : Int} (h : OwnI .u8 5 B w A 1 c [x]) : ∃ g cs, A = some ⟨g, 0, none⟩ ∧ w.heap[g]? = some (.cells cs 5 (0, 0)) ∧ cs[0]? = some (.int .u8 x) ∧ B ≤ g := by
  rcases h.2 with ⟨h1, _⟩ | ⟨g, cap, cur, hv, hB, hh, _, _, hsz, ht⟩
  · cases h1
  · injection hv with hv
    refine ⟨g, cur, hv, hh, ?_, hB⟩
    have h0 : (ints .u8 [x])[0]? = some (.int .u8 x) := rfl
    rw [← ht, List.getElem?_take] at h0
    simpa using h0
/-- One piece, sent on path 0. -/
def one (f : Nat) (c : Int) : QS := ⟨f, [fresh (pb [c]) f]⟩
end Sq
def ZP : Array Value := #[.int .u32 0, .int .u16 0, .int .u16 0, .bool false, .bool false, .bool false, .slice none 0 0]
set_option maxRecDepth 100000 in
set_option maxHeartbeats 4000000 in
theorem law_nil {IsQ : (Nat → Prop) → World → Addr → QS → Prop} (C : QC IsQ) (f ch : Nat) (w : World) (hf : f < 4294967296) (hc : ch < 256) :
    Calls Try.prog 5 #[.int .u32 (f : Int), .int .u8 (ch : Int)] w (RetB true w) := by
  have N1 : ∀ g wx, Calls Try.prog 8 #[.pointer none, .agg #[.int .u32 0, .int .u16 0, .int .u16 0, .bool false, .bool false, .bool false, .slice (some ⟨g, 0, none⟩) 1 1]] wx (Nix (.tuple #[.int .u32 0, .int .i64 1]) wx) := fun g wx => C.push0 (pb [1]) (some ⟨g, 0, none⟩) 1 1 wx
  have N3 : ∀ wx, Calls Try.prog 10 #[.pointer none, .agg #[.int .u32 0, .int .u32 0, .slice none 0 0, .slice none 0 0]] wx (Nix (.tuple #[.slice none 0 0, .slice none 0 0, .int .i64 1]) wx) := fun wx => C.heard0 0 0 none none 0 0 0 0 wx
  go_enter Try.func5, Try.ntmps5
  go_wp2_with fail
  refine (N1 _ _).mono ?_
  rintro e w1 ⟨rfl, HU1⟩
  have HV1 : Hid (Up w w1) := Lib.hid ((up_alloc _ _).trans HU1.out)
  clear HU1
  go_wp2_with fail
  refine (C.next0 0 w1).mono ?_
  rintro e w2 ⟨rfl, HU2⟩
  have HV2 := Lib.hid (HV1.out.trans (HU2.out.trans (up_alloc w2 (.cells #[.int .u32 0, .int .u16 0, .int .u16 0, .bool false, .bool false, .bool false, .slice none 0 0] 32))))
  clear HV1 HU2
  go_upto_region 4 with (fail)
  generalize w2.alloc (.cells #[.int .u32 0, .int .u16 0, .int .u16 0, .bool false, .bool false, .bool false, .slice none 0 0] 32) = w3 at HV2 ⊢
  go_wp2_with fail
  refine (N3 w3).mono ?_
  rintro e w4 ⟨rfl, HU4⟩
  go_wp2_with fail
  refine (C.len0 w4).mono ?_
  rintro e w5 ⟨rfl, HU5⟩
  have HV5 := Lib.hid (HV2.out.trans (HU4.out.trans HU5.out))
  clear HV2 HU4 HU5 N1 N3
  go_wp2_with fail
  refine (C.new f w5 hf).mono ?_
  rintro e w6 ⟨p, S, rfl, HQ, HF0, HU6⟩
  have HF : Hid (From w.heap.size S) := Lib.hid (fun k hk => Nat.le_trans HV5.out.size (HF0.out k hk))
  have HV6 := Lib.hid (HV5.out.trans HU6.out)
  clear HV5 HU6 HF0
  go_wp2_with fail
  refine (answers_ok C w6).mono ?_
  rintro e w7 ⟨rfl, HU7⟩
  go_wp2_with fail
  refine (C.late0 0 w7).mono ?_
  rintro e w8 ⟨rfl, HU8⟩
  go_wp2_with fail
  refine (C.flight0 0 w8).mono ?_
  rintro e w9 ⟨rfl, HU9⟩
  go_wp2_with fail
  refine (C.cum0 w9).mono ?_
  rintro e wa ⟨rfl, HUa⟩
  have HW := Lib.hid (HU7.out.trans (HU8.out.trans (HU9.out.trans HUa.out)))
  have HQa := Lib.hid (C.up HQ.out HW.out)
  have HVa := Lib.hid (HV6.out.trans HW.out)
  clear HQ HV6 HU7 HU8 HU9 HUa HW
  have HB := Lib.hid (new_at wa (.cells #[.int .u8 (ch : Int)] 5))
  have HQb := Lib.hid (isq_alloc C HQa.out (.cells #[.int .u8 (ch : Int)] 5))
  have HVb := Lib.hid (HVa.out.trans (up_alloc wa (.cells #[.int .u8 (ch : Int)] 5)))
  have HSa : Hid (∀ q, S q → q < wa.heap.size) := Lib.hid (C.lt HQa.out)
  have hga : w.heap.size ≤ wa.heap.size := HVa.out.size
  go_upto_region 10 with (fail)
  generalize wa.alloc (.cells #[.int .u8 (ch : Int)] 5) = wb at HB HQb HVb ⊢
  generalize wa.heap.size = g at HB HSa hga ⊢
  clear HQa HVa
  go_wp2_with fail
  refine (push1 C S p ⟨f, []⟩ g (ch : Int) wb HQb.out HB.out (by omega) (by simp)).mono ?_
  rintro e w4 ⟨S4, rfl, HQ4, HS4, HO4⟩
  have HB4 := Lib.hid (HO4.out.blk HB.out (fun h => absurd (HSa.out g h) (Nat.lt_irrefl g)))
  have HV4 := Lib.hid (up_far HVb.out HO4.out HF.out)
  have HF4 := Lib.hid (HF.out.sub HS4.out HVb.out.size)
  have HG4 : Hid (¬ S4 g) := Lib.hid (Out.not HS4.out (fun h => absurd (HSa.out g h) (Nat.lt_irrefl g)) (lt_of_blk HB.out))
  clear HQb HVb HB HS4 HO4 HSa HF
  have k0 : w4.cell? ⟨g, 0, none⟩ = some (.int .u8 (ch : Int)) := cell_of HB4.out rfl
  have f0 : ∀ j, w4.frozen? ⟨g, j, none⟩ = false := fun j => frozen_at HB4.out
  go_upto_region 12 with (fail)
  have O5 := Lib.hid (setCell_out w4 g 0 (.int .u8 (((ch : Int) + 1) % 256)))
  have HQ5 := Lib.hid (C.out HQ4.out O5.out (fun k hk e => HG4.out (e ▸ hk)))
  have HV5 : Hid (Up w (w4.setCell ⟨g, 0, none⟩ (.int .u8 (((ch : Int) + 1) % 256)))) := Lib.hid (Below.out HV4.out O5.out (fun k hk => by rw [hk]; exact hga) HV4.out.size)
  clear k0 f0 HQ4 HV4 HG4 HB4
  generalize w4.setCell ⟨g, 0, none⟩ (.int .u8 (((ch : Int) + 1) % 256)) = w5 at O5 HQ5 HV5 ⊢
  clear O5
  go_wp2_with fail
  refine (C.next S4 p (push ⟨f, []⟩ (pb [(ch : Int)])) 0 (fresh (pb [(ch : Int)]) f) 0 w5 HQ5.out (by simp [pick, push, fresh, List.findIdx?_cons]) rfl).mono ?_
  rintro e w6 ⟨S6, A6, n6, c6, rfl, hn6, HO6, HN6, HQ6, HS6, HU6⟩
  obtain rfl : n6 = 1 := hn6.out
  obtain ⟨g6, cs6, rfl, hh6, hc6, hb6⟩ := own1 HO6.out
  have hng6 : ¬ S6 g6 := HN6.out g6 rfl
  have HH6 := Lib.hid hh6
  have HC6 := Lib.hid hc6
  have HG6 := Lib.hid hng6
  have HV6 := Lib.hid (up_far HV5.out HU6.out HF4.out)
  have HF6 := Lib.hid (HF4.out.sub HS6.out HV5.out.size)
  have hwb : w.heap.size ≤ g6 := Nat.le_trans HV5.out.size hb6
  clear hn6 HO6 HN6 hh6 hc6 hng6 hb6 HQ5 HV5 HS6 HU6 HF4 hga
  unfold pcv
  go_upto_region 13 with (fail)
  have HX := Lib.hid (new_at w6 (.cells #[.int .u32 (f : Int), .int .u16 0, .int .u16 0, .bool false, .bool false, .bool false, .slice (some ⟨g6, 0, none⟩) 1 c6] 32))
  have U7 := Lib.hid (up_alloc w6 (.cells #[.int .u32 (f : Int), .int .u16 0, .int .u16 0, .bool false, .bool false, .bool false, .slice (some ⟨g6, 0, none⟩) 1 c6] 32))
  have HQ7 := Lib.hid (isq_alloc C HQ6.out (.cells #[.int .u32 (f : Int), .int .u16 0, .int .u16 0, .bool false, .bool false, .bool false, .slice (some ⟨g6, 0, none⟩) 1 c6] 32))
  have HH7 := Lib.hid ((U7.out.block _ (lt_of_blk HH6.out)).trans HH6.out)
  have HV7 := Lib.hid (HV6.out.trans U7.out)
  have hgx : g6 < w6.heap.size := lt_of_blk HH6.out
  have HSx : Hid (∀ q, S6 q → q < w6.heap.size) := Lib.hid (C.lt HQ6.out)
  clear HQ6 HH6 HV6 U7
  change Hid ((w6.alloc (.cells #[.int .u32 (f : Int), .int .u16 0, .int .u16 0, .bool false, .bool false, .bool false, .slice (some ⟨g6, 0, none⟩) 1 c6] 32)).heap[w6.heap.size]? = some (.cells #[.int .u32 (f : Int), .int .u16 0, .int .u16 0, .bool false, .bool false, .bool false, .slice (some ⟨g6, 0, none⟩) 1 c6] 32 (0, 0))) at HX
  show Code.wp _ _ _ _ (w6.alloc (.cells #[.int .u32 (f : Int), .int .u16 0, .int .u16 0, .bool false, .bool false, .bool false, .slice (some ⟨g6, 0, none⟩) 1 c6] 32))
  generalize w6.alloc (.cells #[.int .u32 (f : Int), .int .u16 0, .int .u16 0, .bool false, .bool false, .bool false, .slice (some ⟨g6, 0, none⟩) 1 c6] 32) = w7 at HX HQ7 HH7 HV7 ⊢
  generalize w6.heap.size = gx at HX hgx HSx ⊢
  have x6 : w7.cell? ⟨gx, 6, none⟩ = some (.slice (some ⟨g6, 0, none⟩) 1 c6) := cell_of HX.out rfl
  have y0 : w7.cell? ⟨g6, 0, none⟩ = some (.int .u8 (ch : Int)) := cell_of HH7.out HC6.out
  have fy : ∀ j, w7.frozen? ⟨g6, j, none⟩ = false := fun j => frozen_at HH7.out
  have t1 : ((ch : Int) != (ch : Int)) = false := by simp
  go_upto_region 16 with (fail)
  have O8 := Lib.hid (setCell_out w7 g6 0 (.int .u8 (((ch : Int) + 2) % 256)))
  have HQ8 := Lib.hid (C.out HQ7.out O8.out (fun k hk e => HG6.out (e ▸ hk)))
  have HV8 : Hid (Up w (w7.setCell ⟨g6, 0, none⟩ (.int .u8 (((ch : Int) + 2) % 256)))) := Lib.hid (Below.out HV7.out O8.out (fun k hk => by rw [hk]; exact hwb) HV7.out.size)
  clear x6 y0 fy t1 HQ7 HV7 HH7 HX HSx HC6 HG6 hgx hwb
  generalize w7.setCell ⟨g6, 0, none⟩ (.int .u8 (((ch : Int) + 2) % 256)) = w8 at O8 HQ8 HV8 ⊢
  clear O8
  go_wp2_with fail
  refine (C.late S6 p _ 0 w8 HQ8.out).mono ?_
  rintro e w9 ⟨S9, rfl, HQ9, HS9, HU9⟩
  have HV9 := Lib.hid (up_far HV8.out HU9.out HF6.out)
  have HF9 := Lib.hid (HF6.out.sub HS9.out HV8.out.size)
  have hl : (late (sent (push ⟨f, []⟩ (pb [(ch : Int)])) 0 0) 0).l = [late1 0 (go 0 (fresh (pb [(ch : Int)]) f))] := rfl
  have hm : (late1 0 (go 0 (fresh (pb [(ch : Int)]) f))).mkd = true := by simp [late1, go, fresh]
  have hp : (late1 0 (go 0 (fresh (pb [(ch : Int)]) f))).p = (fresh (pb [(ch : Int)]) f).p := by simp [late1, go, fresh]
  have HNX := Lib.hid (C.next S9 p _ 0 (late1 0 (go 0 (fresh (pb [(ch : Int)]) f))) 1 w9 HQ9.out (by rw [hl]; exact pick_mark hm) (by rw [hl]; rfl))
  rw [hp] at HNX
  clear hl hm hp HQ8 HV8 HS9 HU9 HF6 HQ9
  go_wp2_with fail
  refine HNX.out.mono ?_
  rintro e wA ⟨SA, AA, nA, c9, rfl, hnA, HOA, _, HQA, HSA, HUA⟩
  obtain rfl : nA = 1 := hnA.out
  obtain ⟨g9, cs9, rfl, hh9, hc9, hb9⟩ := own1 HOA.out
  have HVA := Lib.hid (up_far HV9.out HUA.out HF9.out)
  have U9 := Lib.hid (up_alloc wA (.cells #[.int .u32 (f : Int), .int .u16 0, .int .u16 0, .bool false, .bool false, .bool false, .slice (some ⟨g9, 0, none⟩) 1 c9] 32))
  have y9 : (wA.alloc (.cells #[.int .u32 (f : Int), .int .u16 0, .int .u16 0, .bool false, .bool false, .bool false, .slice (some ⟨g9, 0, none⟩) 1 c9] 32)).cell? ⟨g9, 0, none⟩ = some (.int .u8 (ch : Int)) := cell_up (cell_of hh9 hc9) U9.out
  have t1 : ((ch : Int) == (ch : Int)) = true := by simp
  clear hnA HOA HSA HUA hh9 hc9 hb9 HV9 HF9 HNX HQA
  unfold pcv
  go_upto_region 18 with (fail)
  show Code.wp _ _ _ _ (wA.alloc (.cells #[.int .u32 (f : Int), .int .u16 0, .int .u16 0, .bool false, .bool false, .bool false, .slice (some ⟨g9, 0, none⟩) 1 c9] 32))
  go_wp2_with fail
  go_ret
  exact ⟨rfl, Lib.hid (HVA.out.trans U9.out)⟩
end Go.Proofs.Ytdlehchofmdjbaa
