import Derived.Test.YtdlehchofmdjbaaSqY
import Derived.StillTailTactics
import Derived.Test.YtdlehchofmdjbaaCk17
namespace Go.Proofs.Ytdlehchofmdjbaa
open Go Go.RowKit Sq
set_option linter.unusedVariables false
set_option linter.unusedSimpArgs false
/-! Heard. -/
namespace Sq
/-- Gaps that lie apart, as chapter 7 asks. -/
def apart : Nat → List (Nat × Nat) → Bool
  | _, [] => true
  | m, g :: l => decide (m ≤ g.1) && decide (g.1 ≤ g.2) && apart (g.2 + 2) l
def gInt (G : List (Nat × Nat)) : List (Int × Int) := G.map fun g => ((g.1 : Int), (g.2 : Int))
theorem apart_int (m : Nat) (G : List (Nat × Nat)) : Ck.apB (m : Int) (gInt G) = apart m G := by
  induction G generalizing m with
  | nil => rfl
  | cons g G ih =>
    show (decide ((m : Int) ≤ (g.1 : Int)) && decide ((g.1 : Int) ≤ (g.2 : Int)) && Ck.apB ((g.2 : Int) + 2) (gInt G)) = _
    have := ih (g.2 + 2)
    rw [show ((g.2 : Int) + 2) = ((g.2 + 2 : Nat) : Int) from rfl, this]
    rw [apart]
    congr 1
    rw [show decide ((m : Int) ≤ (g.1 : Int)) = decide (m ≤ g.1) from by congr 1; apply propext; omega, show decide ((g.1 : Int) ≤ (g.2 : Int)) = decide (g.1 ≤ g.2) from by congr 1; apply propext; omega]
theorem gapc_int (G : List (Nat × Nat)) : gapc (gInt G) = G.flatMap gcl := by
  unfold gapc gInt
  rw [List.flatMap_map]
  rfl
theorem InGs.inG {w : World} {A : Option Addr} {n c : Nat} {G : List (Nat × Nat)} (h : InGs w A n c G) : InG w A n c (gInt G) :=
  ⟨by rw [gapc_int]; exact h.cells, fun g hg => by
    obtain ⟨x, hx, rfl⟩ := List.mem_map.1 hg
    have := h.bd x hx
    simp only
    omega, h.cap, by unfold gInt; rw [List.length_map]; exact h.len.symm⟩
def HeardP (Q : QS) (d : Nat) (G : List (Nat × Nat)) (IsQ : (Nat → Prop) → World → Addr → QS → Prop) (p : Addr) (S : Nat → Prop) (w : World) (e : Ending) (w' : World) : Prop := ∃ S' A n c B m k, e = .returned (.tuple #[.slice A n c, .slice B m k, .int .i64 0]) ∧ Hid (n = 2) ∧ Hid (m = (Lib.compact ((fastPs Q d G).mergeSort fun x y => decide (x ≤ y))).length) ∧ Hid (OwnI .i64 3 w.heap.size w' B m k (Lib.compact ((fastPs Q d G).mergeSort fun x y => decide (x ≤ y)))) ∧ Hid (IsQ S' w' p (heard Q d G)) ∧ Hid (Sub S' S w) ∧ Hid (Out S w w')
end Sq
open Sq
namespace Sq
/-- What came of a Heard, in memory. -/
def CoreP (q cq o d : Nat) (A : Option Addr) (n c : Nat) (L2 : List ItB) (w : World) (e : Ending) (w' : World) : Prop := ∃ a B m k, e = .returned (.tuple #[.slice (some ⟨a, 0, none⟩) 2 2, .slice B m k, .int .i64 0]) ∧
  Hid (m = (Lib.compact ((fastP L2 (flU L2 (topR L2 (o - d) - 1))).mergeSort fun x y => decide (x ≤ y))).length) ∧ Hid (OwnI .i64 3 w.heap.size w' B m k (Lib.compact ((fastP L2 (flU L2 (topR L2 (o - d) - 1))).mergeSort fun x y => decide (x ≤ y)))) ∧
  Hid (w'.heap[q]? = some (.cells (qcl ((cq + d) % 4294967296) A (n - d) c (o - d)) 52 (0, 0))) ∧ Hid (w'.ownsRow 0 56 11 (.slice A (n - d) c) (n - d) ((missL L2 (flU L2 (topR L2 (o - d) - 1))).flatMap itc)) ∧ Hid (Out (fun k => k = q ∨ blk? A = some k) w w')
def OldP (w : World) (e : Ending) (w' : World) : Prop := e = .returned (.tuple #[.slice none 0 0, .slice none 0 0, .int .i64 15]) ∧ Hid (Up w w')
end Sq
set_option maxRecDepth 100000 in
set_option maxHeartbeats 4000000 in
theorem heard_core (q cq o d : Nat) (A : Option Addr) (n c : Nat) (L : List ItB) (cu wi : Nat) (GA DA : Option Addr) (gn gc dn dc : Nat) (G : List (Nat × Nat)) (w : World) (hq : w.heap[q]? = some (.cells (qcl cq A n c o) 52 (0, 0))) (hA : blk? A ≠ some q) (hn : n = L.length) (hn2 : n ≤ 256) (ho : o ≤ n)
    (hrow : w.ownsRow 0 56 11 (.slice A n c) n (L.flatMap itc)) (hG : InGs w GA gn gc G) (hGA : ∀ k, blk? GA = some k → blk? A ≠ some k) (hcq : cq < 4294967296) (hcu : cu < 4294967296) (hd : d = (cu + 4294967296 - cq) % 4294967296) (hdo : d ≤ o)
    (htsn : ∀ i y, L[i]? = some y → y.x.p.tsn = (cq + 1 + i) % 4294967296) (hbs : ∀ y ∈ L, y.x.p.bs.length ≤ 256) (hmi : ∀ y ∈ L, y.x.miss ≤ 2) (hap : apart 2 G = true) (h64 : G.length ≤ 64) :
    Calls Try.prog 10 #[.pointer (some ⟨q, 0, none⟩), .agg #[.int .u32 (cu : Int), .int .u32 (wi : Int), .slice GA gn gc, .slice DA dn dc]] w (CoreP q cq o d A n c (L2of d G o L) w) := by
  have HQ := Lib.hid hq
  have HA := Lib.hid hA
  have HN := Lib.hid hn
  have HR := Lib.hid hrow
  have HG := Lib.hid hG
  have HGA := Lib.hid hGA
  have HD := Lib.hid hd
  have HT := Lib.hid htsn
  have HBS := Lib.hid (And.intro hbs hmi)
  have HAP := Lib.hid (And.intro hap h64)
  have hgn : gn ≤ 64 := by rw [hG.len]; exact h64
  have gA0 : ∀ k, blk? A = some k → k < w.heap.size := fun k hk => (row_lt hrow hk).2
  have GA0 := Lib.hid gA0
  have HB := Lib.hid (new_at w (.cells #[.int .u32 (cu : Int), .int .u32 (wi : Int), .slice GA gn gc, .slice DA dn dc] 43))
  have HU := Lib.hid (up_alloc w (.cells #[.int .u32 (cu : Int), .int .u32 (wi : Int), .slice GA gn gc, .slice DA dn dc] 43))
  clear hq hA hn hrow hG hGA hd htsn hbs hmi hap h64 gA0
  go_enter Try.func10, Try.ntmps10
  go_upto_region 1 with (fail)
  generalize w.alloc (.cells #[.int .u32 (cu : Int), .int .u32 (wi : Int), .slice GA gn gc, .slice DA dn dc] 43) = w1 at HB HU ⊢
  obtain ⟨b, hb⟩ : ∃ b, b = w.heap.size := ⟨_, rfl⟩
  rw [← hb] at HB ⊢
  have HBB := Lib.hid hb
  clear hb
  have b2 : w1.cell? ⟨b, 2, none⟩ = some (.slice GA gn gc) := cell_of HB.out rfl
  have HF := Lib.hid (show Calls Try.prog 19 #[.agg #[.int .u32 0, .int .u32 0, .slice GA gn gc, .slice none 0 0]] w1 _ from fromD_ok ⟨0, 0, gInt G, []⟩ GA none gn gc 0 0 w1 (HG.out.up HU.out).inG ⟨Cells.nil _ _, fun _ h => (by cases h), Nat.le_refl _, rfl⟩ (by
    unfold Ck.chkD
    have h1 : Ck.apB 2 (gInt G) = true := by have := apart_int 2 G; rw [HAP.out.1] at this; exact this
    have h2 : (gInt G).length ≤ 64 := by unfold gInt; rw [List.length_map]; exact HAP.out.2
    simp only [h1, Bool.true_eq_false, if_false, List.length_nil]
    rw [if_neg (by omega)]) ⟨by simp, by simp, fun g hg => by
      obtain ⟨x, hx, rfl⟩ := List.mem_map.1 hg
      have := HG.out.bd x hx
      simp only
      omega, fun _ h => (by cases h)⟩)
  go_wp2_with fail
  refine HF.out.mono ?_
  rintro e w2 ⟨A3, N3, c3, rfl, _, _, HU2⟩
  unfold chV
  clear HF
  obtain ⟨w3, hw3⟩ : ∃ w3, w3 = (w2.alloc (.cells #[.int .u8 0, .int .u8 0, .slice none 0 0] 61)).setRow w2.heap.size #[.int .u8 3, .int .u8 0, .slice A3 N3 c3] := ⟨_, rfl⟩
  have HU3 := Lib.hid (show Up w2 w3 by rw [hw3]; exact below_setRow (up_alloc w2 _) (Nat.le_refl _) _)
  go_upto_region 4 with (with_reducible refine wpList_store_row rfl 61 _ _ rfl w2.heap.size #[.int .u8 3, .int .u8 0, .slice A3 N3 c3] rfl rfl 61 _ (new_at w2 (.cells #[.int .u8 0, .int .u8 0, .slice none 0 0] 61)) (by kernel_rfl) rfl (by simp [Value.oneCell']) ?_)
  rw [← hw3]
  have HU13 := Lib.hid (HU2.out.trans HU3.out)
  have HW3 := Lib.hid (HU.out.trans HU13.out)
  have HQ3 := Lib.hid ((HW3.out.block _ (lt_of_blk HQ.out)).trans HQ.out)
  have HB3 := Lib.hid ((HU13.out.block _ (lt_of_blk HB.out)).trans HB.out)
  clear hw3 HU2 HU3 b2 HB HU HU13
  go_upto_region 6 with (fail)
  obtain ⟨r, hr⟩ : ∃ r, r = (cq + o) % 4294967296 := ⟨_, rfl⟩
  have hrl : r < 4294967296 := by omega
  have HRR := Lib.hid hr
  have HWI := Lib.hid (show decide ((cu + 4294967296 - cq) % 4294967296 ≤ (r + 4294967296 - cq) % 4294967296) = true from decide_eq_true (by
    have h1 := HD.out
    omega))
  clear hr
  have q0 : w3.cell? ⟨q, 0, none⟩ = some (.int .u32 (cq : Int)) := cell_of HQ3.out rfl
  have q2 : w3.cell? ⟨q, 2, none⟩ = some (.int .i64 (o : Int)) := cell_of HQ3.out rfl
  have b0 : w3.cell? ⟨b, 0, none⟩ = some (.int .u32 (cu : Int)) := cell_of HB3.out rfl
  refine staged_lit (by kernel_rfl) (facts [Is (.pointer (some ⟨q, 0, none⟩)), Is (.pointer (some ⟨q, 0, none⟩)), Is (.pointer (some ⟨q, 0, none⟩)), Is (.int .u32 (cq : Int)), Is (.pointer (some ⟨q, 0, none⟩)), Is (.pointer (some ⟨q, 0, none⟩)), Is (.pointer (some ⟨q, 0, none⟩)), Is (.pointer (some ⟨q, 0 + 2, none⟩)), Is (.int .i64 (o : Int)), Is (.int .u32 (r : Int)), Is (.pointer (some ⟨b, 0, none⟩)), Is (.int .u32 (cu : Int)), Is (.bool true), Is (.bool false)]) (Stg [] (fun _ x => Up w3 x)) 50 rfl rfl rfl (Stg.start (Up.drew w3)) ?_ ?_
  · refine ⟨?_, ?_, ?_, ?_, ?_, ?_, ?_, ?_, ?_, ?_, ?_, ?_, ?_, ?_, trivial⟩
    · refine opS_same rfl rfl fun Lx ac w1 hJ hl hc ho hd => ?_
      have s0 : ac.eval (.tmp 0) = .pointer (some ⟨q, 0, none⟩) := ho 0 rfl
      exact ⟨_, x_move (.tmp 0) rfl s0, rfl⟩
    · refine opS_same rfl rfl fun Lx ac w1 hJ hl hc ho hd => ?_
      have d0 : ac.eval (.tmp 20) = .pointer (some ⟨q, 0, none⟩) := hd 0 _ _ rfl rfl rfl
      exact ⟨_, x_nil (.tmp 20) rfl d0, rfl⟩
    · refine opS_same rfl rfl fun Lx ac w1 hJ hl hc ho hd => ?_
      have d1 : ac.eval (.tmp 21) = .pointer (some ⟨q, 0, none⟩) := hd 1 _ _ rfl rfl rfl
      exact ⟨_, x_field 52 (.tmp 21) 0 rfl d1 (fld520 _ _ _), rfl⟩
    · refine opS_same rfl rfl fun Lx ac w1 hJ hl hc ho hd => ?_
      have d2 : ac.eval (.tmp 22) = .pointer (some ⟨q, 0, none⟩) := hd 2 _ _ rfl rfl rfl
      obtain ⟨_, _, hUx⟩ := hJ
      exact ⟨_, x_load 22 (.tmp 22) rfl d2 (run_load1 agg22 (cell_up q0 hUx)), rfl⟩
    · refine opS_same rfl rfl fun Lx ac w1 hJ hl hc ho hd => ?_
      have s0 : ac.eval (.tmp 0) = .pointer (some ⟨q, 0, none⟩) := ho 0 rfl
      exact ⟨_, x_move (.tmp 0) rfl s0, rfl⟩
    · refine opS_same rfl rfl fun Lx ac w1 hJ hl hc ho hd => ?_
      have s0 : ac.eval (.tmp 0) = .pointer (some ⟨q, 0, none⟩) := ho 0 rfl
      exact ⟨_, x_move (.tmp 0) rfl s0, rfl⟩
    · refine opS_same rfl rfl fun Lx ac w1 hJ hl hc ho hd => ?_
      have d5 : ac.eval (.tmp 25) = .pointer (some ⟨q, 0, none⟩) := hd 5 _ _ rfl rfl rfl
      exact ⟨_, x_nil (.tmp 25) rfl d5, rfl⟩
    · refine opS_same rfl rfl fun Lx ac w1 hJ hl hc ho hd => ?_
      have d6 : ac.eval (.tmp 26) = .pointer (some ⟨q, 0, none⟩) := hd 6 _ _ rfl rfl rfl
      exact ⟨_, x_field 52 (.tmp 26) 2 rfl d6 (fld522 _ _ _), rfl⟩
    · refine opS_same rfl rfl fun Lx ac w1 hJ hl hc ho hd => ?_
      have d7 : ac.eval (.tmp 27) = .pointer (some ⟨q, 0 + 2, none⟩) := hd 7 _ _ rfl rfl rfl
      obtain ⟨_, _, hUx⟩ := hJ
      exact ⟨_, x_load 3 (.tmp 27) rfl d7 (run_load1 agg3 (cell_up q2 hUx)), rfl⟩
    · refine opS_call rfl rfl fun Lx ac w1 hJ hl hc ho hd => ?_
      have d4 : ac.eval (.tmp 24) = .pointer (some ⟨q, 0, none⟩) := hd 4 _ _ rfl rfl rfl
      have d8 : ac.eval (.tmp 28) = .int .i64 (o : Int) := hd 8 _ _ rfl rfl rfl
      obtain ⟨_, _, hUx⟩ := hJ
      refine ⟨15, _, _, x_fcall 15 [.tmp 24, .tmp 28] _ rfl (by kernel_rfl), rfl, ?_⟩
      simp only [List.map_cons, List.map_nil, d4, d8]
      rw [HRR.out]
      exact after_any q o _ cq w1 ((Below.block (show Up w3 w1 from hUx) _ (lt_of_blk HQ3.out)).trans HQ3.out) rfl (by omega)
    · refine opS_same rfl rfl fun Lx ac w1 hJ hl hc ho hd => ?_
      have s3 : ac.eval (.tmp 3) = .pointer (some ⟨b, 0, none⟩) := ho 3 rfl
      exact ⟨_, x_field 43 (.tmp 3) 0 rfl s3 (fld430 _ _ _), rfl⟩
    · refine opS_same rfl rfl fun Lx ac w1 hJ hl hc ho hd => ?_
      have d10 : ac.eval (.tmp 30) = .pointer (some ⟨b, 0, none⟩) := hd 10 _ _ rfl rfl rfl
      obtain ⟨_, _, hUx⟩ := hJ
      exact ⟨_, x_load 22 (.tmp 30) rfl d10 (run_load1 agg22 (cell_up b0 hUx)), rfl⟩
    · refine opS_callUp rfl rfl (fun k wa wb h hu => Up.trans h hu) (fun q v _ _ hf _ => facts_free (by simp [free_is, free_tru]) q v hf) fun Lx ac w1 hJ hl hc ho hd => ?_
      have d3 : ac.eval (.tmp 23) = .int .u32 (cq : Int) := hd 3 _ _ rfl rfl rfl
      have d9 : ac.eval (.tmp 29) = .int .u32 (r : Int) := hd 9 _ _ rfl rfl rfl
      have d11 : ac.eval (.tmp 31) = .int .u32 (cu : Int) := hd 11 _ _ rfl rfl rfl
      obtain ⟨_, _, hUx⟩ := hJ
      refine ⟨20, _, x_fcall 20 [.tmp 23, .tmp 29, .tmp 31] _ rfl (by kernel_rfl), ?_⟩
      simp only [List.map_cons, List.map_nil, d3, d9, d11]
      refine (within_any cq r cu w1 hcq hrl hcu).mono fun e w2 ⟨he, hu⟩ => ⟨_, he, hu.out, ?_⟩
      rw [HWI.out]; rfl
    · refine opS_same rfl rfl fun Lx ac w1 hJ hl hc ho hd => ?_
      have d12 : ac.eval (.tmp 32) = .bool true := hd 12 _ _ rfl rfl rfl
      exact ⟨_, x_not 4 (.tmp 32) rfl d12, rfl⟩
  · intro L9 a9 w4 hI hall
    obtain ⟨k, hk, hUF⟩ := hI.done hall (by simp)
    have HU4 := Lib.hid (show Up w3 w4 from hUF)
    clear hk hUF k
    have l0 : a9.tmps.getD 0 undef = .pointer (some ⟨q, 0, none⟩) := hI.old 0 rfl
    have l1 : a9.tmps.getD 1 undef = .agg #[.int .u32 (cu : Int), .int .u32 (wi : Int), .slice GA gn gc, .slice DA dn dc] := hI.old 1 rfl
    have l3 : a9.tmps.getD 3 undef = .pointer (some ⟨b, 0, none⟩) := hI.old 3 rfl
    have l4 : a9.tmps.getD 4 undef = .slice none 0 0 := hI.old 4 rfl
    have l5 : a9.tmps.getD 5 undef = .slice none 0 0 := hI.old 5 rfl
    have l6 : a9.tmps.getD 6 undef = .int .i64 0 := hI.old 6 rfl
    have l33 : a9.tmps.getD 33 undef = .bool false := hI.get hall (i := 13) rfl rfl
    have hde : a9.defers = [] := hI.defers
    have hal := act_lit a9 50 hI.size
    clear hI
    simp only [List.range, List.range.loop, List.map_cons, List.map_nil] at hal
    rw [l0, l1, l3, l4, l5, l6, l33, hde] at hal
    generalize a9.tmps.getD 2 undef = t2 at hal
    generalize a9.tmps.getD 7 undef = t7 at hal
    generalize a9.tmps.getD 8 undef = t8 at hal
    generalize a9.tmps.getD 9 undef = t9 at hal
    generalize a9.tmps.getD 10 undef = t10 at hal
    generalize a9.tmps.getD 11 undef = t11 at hal
    generalize a9.tmps.getD 12 undef = t12 at hal
    generalize a9.tmps.getD 13 undef = t13 at hal
    generalize a9.tmps.getD 14 undef = t14 at hal
    generalize a9.tmps.getD 15 undef = t15 at hal
    generalize a9.tmps.getD 16 undef = t16 at hal
    generalize a9.tmps.getD 17 undef = t17 at hal
    generalize a9.tmps.getD 18 undef = t18 at hal
    generalize a9.tmps.getD 19 undef = t19 at hal
    generalize a9.tmps.getD 20 undef = t20 at hal
    generalize a9.tmps.getD 21 undef = t21 at hal
    generalize a9.tmps.getD 22 undef = t22 at hal
    generalize a9.tmps.getD 23 undef = t23 at hal
    generalize a9.tmps.getD 24 undef = t24 at hal
    generalize a9.tmps.getD 25 undef = t25 at hal
    generalize a9.tmps.getD 26 undef = t26 at hal
    generalize a9.tmps.getD 27 undef = t27 at hal
    generalize a9.tmps.getD 28 undef = t28 at hal
    generalize a9.tmps.getD 29 undef = t29 at hal
    generalize a9.tmps.getD 30 undef = t30 at hal
    generalize a9.tmps.getD 31 undef = t31 at hal
    generalize a9.tmps.getD 32 undef = t32 at hal
    generalize a9.tmps.getD 34 undef = t34 at hal
    generalize a9.tmps.getD 35 undef = t35 at hal
    generalize a9.tmps.getD 36 undef = t36 at hal
    generalize a9.tmps.getD 37 undef = t37 at hal
    generalize a9.tmps.getD 38 undef = t38 at hal
    generalize a9.tmps.getD 39 undef = t39 at hal
    generalize a9.tmps.getD 40 undef = t40 at hal
    generalize a9.tmps.getD 41 undef = t41 at hal
    generalize a9.tmps.getD 42 undef = t42 at hal
    generalize a9.tmps.getD 43 undef = t43 at hal
    generalize a9.tmps.getD 44 undef = t44 at hal
    generalize a9.tmps.getD 45 undef = t45 at hal
    generalize a9.tmps.getD 46 undef = t46 at hal
    generalize a9.tmps.getD 47 undef = t47 at hal
    generalize a9.tmps.getD 48 undef = t48 at hal
    generalize a9.tmps.getD 49 undef = t49 at hal
    clear l0 l1 l3 l4 l5 l6 l33 hde
    subst hal
    have HW4 := Lib.hid (HW3.out.trans HU4.out)
    have HQ4 := Lib.hid ((HW4.out.block _ (lt_of_blk HQ.out)).trans HQ.out)
    have HR4 := Lib.hid (own_up HR.out HW4.out)
    have HB4 := Lib.hid ((HU4.out.block _ (lt_of_blk HB3.out)).trans HB3.out)
    clear HWI q0 q2 b0 HU4 HQ3 HB3 HW3 hall HRR hrl
    have b0 : w4.cell? ⟨b, 0, none⟩ = some (.int .u32 (cu : Int)) := cell_of HB4.out rfl
    have b1 : w4.cell? ⟨b, 1, none⟩ = some (.int .u32 (wi : Int)) := cell_of HB4.out rfl
    have b2 : w4.cell? ⟨b, 2, none⟩ = some (.slice GA gn gc) := cell_of HB4.out rfl
    have b3 : w4.cell? ⟨b, 3, none⟩ = some (.slice DA dn dc) := cell_of HB4.out rfl
    have HAK := Lib.hid (ack_any q cq cu wi d o A n c L GA DA gn gc dn dc G w4 HQ4.out HA.out HN.out hn2 ho HR4.out (HG.out.up HW4.out) HGA.out (by omega) hcq hcu HD.out hdo HT.out HBS.out.1)
    go_wp2_with fail
    refine HAK.out.mono ?_
    rintro e w5 ⟨a, rfl, haw, HA5, HR5, HO5⟩
    clear HAK b0 b1 b2 b3
    have HB5 := Lib.hid (HO5.out.blk HB4.out (fun e => by have := GA0.out b e; have := HBB.out; omega))
    have HQ5 := Lib.hid (HO5.out.blk HQ4.out HA.out)
    have HO05 := Lib.hid (show Out (fun k => k = q ∨ blk? A = some k) w w5 from (HW4.out.out _).trans (HO5.out.mono fun k hk => .inr hk) (Sub.refl _ _))
    have b0 : w5.cell? ⟨b, 0, none⟩ = some (.int .u32 (cu : Int)) := cell_of HB5.out rfl
    have q0 : w5.cell? ⟨q, 0, none⟩ = some (.int .u32 (cq : Int)) := cell_of HQ5.out rfl
    have HE := Lib.hid (show ((cu : Int) - (cq : Int)) % 4294967296 = (d : Int) by have := HD.out; omega)
    go_upto_region 9 with (fail)
    go_still_tail 9, (by kernel_rfl)
    change wpList _ _ _ _ _ (w5.drewN 1)
    rw [show IntKind.i64.wrap (IntKind.u32.wrap ((cu : Int) - (cq : Int))) = (d : Int) by
      rw [IntKind.wrap_u32', HE.out, IntKind.wrap_i64]
      omega]
    generalize IntKind.u32.wrap ((cu : Int) - (cq : Int)) = wz
    have HU6 := Lib.hid (up_drewN w5 1)
    generalize w5.drewN 1 = w6 at HU6 ⊢
    have HQ6 := Lib.hid ((HU6.out.block _ (lt_of_blk HQ5.out)).trans HQ5.out)
    have HR6 := Lib.hid (own_up HR5.out HU6.out)
    have HO06 := Lib.hid (show Out (fun k => k = q ∨ blk? A = some k) w w6 from HO05.out.trans (HU6.out.out _) (Sub.refl _ _))
    have HRM := Lib.hid (remove_any q cq A n c o d (ackL d G o L) w6 HQ6.out HA.out (by rw [ackL_len]; exact HN.out) hn2 ho hdo HR6.out)
    clear b0 q0
    go_wp2_with fail
    refine HRM.out.mono ?_
    rintro e w7 ⟨rfl, HQ7, HR7, HO7⟩
    have HO07 := Lib.hid (HO06.out.trans HO7.out (Sub.refl _ _))
    have HMS := Lib.hid (miss_any q ((cq + d) % 4294967296) (o - d) A (n - d) c (L2of d G o L) w7 HQ7.out HA.out (by rw [L2_len, HN.out]) (by omega) (by omega) HR7.out (fun y hy => by
      obtain ⟨i, hi⟩ := List.mem_iff_getElem?.1 hy
      rw [L2_at] at hi
      cases hq : L[d + i]? with
      | none => rw [hq] at hi; cases hi
      | some z =>
        rw [hq] at hi
        have h2 := Option.some.inj hi
        have hb := HBS.out.2 z (List.mem_of_getElem? hq)
        rw [← h2]
        split
        · exact hb
        · exact hb))
    clear HRM HR7 HQ6 HR6 HO7 HU6
    go_wp2_with fail
    refine HMS.out.mono ?_
    rintro e w8 ⟨Bf, mf, kf, rfl, hmf, HF8, HR8, HO8⟩
    have HQ8 := Lib.hid (HO8.out.blk HQ7.out HA.out)
    have HO08 := Lib.hid (show Out (fun k => k = q ∨ blk? A = some k) w w8 from HO07.out.trans (HO8.out.mono fun k hk => .inr hk) (Sub.refl _ _))
    have HF9 := Lib.hid (OwnI.rebase (B := w7.heap.size) (B' := w.heap.size) HF8.out (fun k hk => by
        have := (World.ownsRow.lt HF8.out k (by rw [ownBlock_slice]; exact hk)).1
        have := HO07.out.size
        omega))
    clear HMS HF8
    go_wp2_with fail
    go_ret3
    exact ⟨a, Bf, mf, kf, rfl, hmf, HF9, HQ8, HR8, HO08⟩
set_option maxRecDepth 100000 in
set_option maxHeartbeats 4000000 in
theorem heard_old (q cq o d : Nat) (A : Option Addr) (n c : Nat) (L : List ItB) (cu wi : Nat) (GA DA : Option Addr) (gn gc dn dc : Nat) (G : List (Nat × Nat)) (w : World) (hq : w.heap[q]? = some (.cells (qcl cq A n c o) 52 (0, 0))) (hA : blk? A ≠ some q) (hn : n = L.length) (hn2 : n ≤ 256) (ho : o ≤ n)
    (hrow : w.ownsRow 0 56 11 (.slice A n c) n (L.flatMap itc)) (hG : InGs w GA gn gc G) (hGA : ∀ k, blk? GA = some k → blk? A ≠ some k) (hcq : cq < 4294967296) (hcu : cu < 4294967296) (hd : d = (cu + 4294967296 - cq) % 4294967296) (hdo : o < d)
    (htsn : ∀ i y, L[i]? = some y → y.x.p.tsn = (cq + 1 + i) % 4294967296) (hbs : ∀ y ∈ L, y.x.p.bs.length ≤ 256) (hmi : ∀ y ∈ L, y.x.miss ≤ 2) (hap : apart 2 G = true) (h64 : G.length ≤ 64) :
    Calls Try.prog 10 #[.pointer (some ⟨q, 0, none⟩), .agg #[.int .u32 (cu : Int), .int .u32 (wi : Int), .slice GA gn gc, .slice DA dn dc]] w (OldP w) := by
  have HQ := Lib.hid hq
  have HA := Lib.hid hA
  have HN := Lib.hid hn
  have HR := Lib.hid hrow
  have HG := Lib.hid hG
  have HGA := Lib.hid hGA
  have HD := Lib.hid hd
  have HT := Lib.hid htsn
  have HBS := Lib.hid (And.intro hbs hmi)
  have HAP := Lib.hid (And.intro hap h64)
  have hgn : gn ≤ 64 := by rw [hG.len]; exact h64
  have gA0 : ∀ k, blk? A = some k → k < w.heap.size := fun k hk => (row_lt hrow hk).2
  have GA0 := Lib.hid gA0
  have HB := Lib.hid (new_at w (.cells #[.int .u32 (cu : Int), .int .u32 (wi : Int), .slice GA gn gc, .slice DA dn dc] 43))
  have HU := Lib.hid (up_alloc w (.cells #[.int .u32 (cu : Int), .int .u32 (wi : Int), .slice GA gn gc, .slice DA dn dc] 43))
  clear hq hA hn hrow hG hGA hd htsn hbs hmi hap h64 gA0
  go_enter Try.func10, Try.ntmps10
  go_upto_region 1 with (fail)
  generalize w.alloc (.cells #[.int .u32 (cu : Int), .int .u32 (wi : Int), .slice GA gn gc, .slice DA dn dc] 43) = w1 at HB HU ⊢
  obtain ⟨b, hb⟩ : ∃ b, b = w.heap.size := ⟨_, rfl⟩
  rw [← hb] at HB ⊢
  have HBB := Lib.hid hb
  clear hb
  have b2 : w1.cell? ⟨b, 2, none⟩ = some (.slice GA gn gc) := cell_of HB.out rfl
  have HF := Lib.hid (show Calls Try.prog 19 #[.agg #[.int .u32 0, .int .u32 0, .slice GA gn gc, .slice none 0 0]] w1 _ from fromD_ok ⟨0, 0, gInt G, []⟩ GA none gn gc 0 0 w1 (HG.out.up HU.out).inG ⟨Cells.nil _ _, fun _ h => (by cases h), Nat.le_refl _, rfl⟩ (by
    unfold Ck.chkD
    have h1 : Ck.apB 2 (gInt G) = true := by have := apart_int 2 G; rw [HAP.out.1] at this; exact this
    have h2 : (gInt G).length ≤ 64 := by unfold gInt; rw [List.length_map]; exact HAP.out.2
    simp only [h1, Bool.true_eq_false, if_false, List.length_nil]
    rw [if_neg (by omega)]) ⟨by simp, by simp, fun g hg => by
      obtain ⟨x, hx, rfl⟩ := List.mem_map.1 hg
      have := HG.out.bd x hx
      simp only
      omega, fun _ h => (by cases h)⟩)
  go_wp2_with fail
  refine HF.out.mono ?_
  rintro e w2 ⟨A3, N3, c3, rfl, _, _, HU2⟩
  unfold chV
  clear HF
  obtain ⟨w3, hw3⟩ : ∃ w3, w3 = (w2.alloc (.cells #[.int .u8 0, .int .u8 0, .slice none 0 0] 61)).setRow w2.heap.size #[.int .u8 3, .int .u8 0, .slice A3 N3 c3] := ⟨_, rfl⟩
  have HU3 := Lib.hid (show Up w2 w3 by rw [hw3]; exact below_setRow (up_alloc w2 _) (Nat.le_refl _) _)
  go_upto_region 4 with (with_reducible refine wpList_store_row rfl 61 _ _ rfl w2.heap.size #[.int .u8 3, .int .u8 0, .slice A3 N3 c3] rfl rfl 61 _ (new_at w2 (.cells #[.int .u8 0, .int .u8 0, .slice none 0 0] 61)) (by kernel_rfl) rfl (by simp [Value.oneCell']) ?_)
  rw [← hw3]
  have HU13 := Lib.hid (HU2.out.trans HU3.out)
  have HW3 := Lib.hid (HU.out.trans HU13.out)
  have HQ3 := Lib.hid ((HW3.out.block _ (lt_of_blk HQ.out)).trans HQ.out)
  have HB3 := Lib.hid ((HU13.out.block _ (lt_of_blk HB.out)).trans HB.out)
  clear hw3 HU2 HU3 b2 HB HU HU13
  go_upto_region 6 with (fail)
  obtain ⟨r, hr⟩ : ∃ r, r = (cq + o) % 4294967296 := ⟨_, rfl⟩
  have hrl : r < 4294967296 := by omega
  have HRR := Lib.hid hr
  have HWI := Lib.hid (show decide ((cu + 4294967296 - cq) % 4294967296 ≤ (r + 4294967296 - cq) % 4294967296) = false from decide_eq_false (by
    have h1 := HD.out
    omega))
  clear hr
  have q0 : w3.cell? ⟨q, 0, none⟩ = some (.int .u32 (cq : Int)) := cell_of HQ3.out rfl
  have q2 : w3.cell? ⟨q, 2, none⟩ = some (.int .i64 (o : Int)) := cell_of HQ3.out rfl
  have b0 : w3.cell? ⟨b, 0, none⟩ = some (.int .u32 (cu : Int)) := cell_of HB3.out rfl
  refine staged_lit (by kernel_rfl) (facts [Is (.pointer (some ⟨q, 0, none⟩)), Is (.pointer (some ⟨q, 0, none⟩)), Is (.pointer (some ⟨q, 0, none⟩)), Is (.int .u32 (cq : Int)), Is (.pointer (some ⟨q, 0, none⟩)), Is (.pointer (some ⟨q, 0, none⟩)), Is (.pointer (some ⟨q, 0, none⟩)), Is (.pointer (some ⟨q, 0 + 2, none⟩)), Is (.int .i64 (o : Int)), Is (.int .u32 (r : Int)), Is (.pointer (some ⟨b, 0, none⟩)), Is (.int .u32 (cu : Int)), Is (.bool false), Is (.bool true)]) (Stg [] (fun _ x => Up w3 x)) 50 rfl rfl rfl (Stg.start (Up.drew w3)) ?_ ?_
  · refine ⟨?_, ?_, ?_, ?_, ?_, ?_, ?_, ?_, ?_, ?_, ?_, ?_, ?_, ?_, trivial⟩
    · refine opS_same rfl rfl fun Lx ac w1 hJ hl hc ho hd => ?_
      have s0 : ac.eval (.tmp 0) = .pointer (some ⟨q, 0, none⟩) := ho 0 rfl
      exact ⟨_, x_move (.tmp 0) rfl s0, rfl⟩
    · refine opS_same rfl rfl fun Lx ac w1 hJ hl hc ho hd => ?_
      have d0 : ac.eval (.tmp 20) = .pointer (some ⟨q, 0, none⟩) := hd 0 _ _ rfl rfl rfl
      exact ⟨_, x_nil (.tmp 20) rfl d0, rfl⟩
    · refine opS_same rfl rfl fun Lx ac w1 hJ hl hc ho hd => ?_
      have d1 : ac.eval (.tmp 21) = .pointer (some ⟨q, 0, none⟩) := hd 1 _ _ rfl rfl rfl
      exact ⟨_, x_field 52 (.tmp 21) 0 rfl d1 (fld520 _ _ _), rfl⟩
    · refine opS_same rfl rfl fun Lx ac w1 hJ hl hc ho hd => ?_
      have d2 : ac.eval (.tmp 22) = .pointer (some ⟨q, 0, none⟩) := hd 2 _ _ rfl rfl rfl
      obtain ⟨_, _, hUx⟩ := hJ
      exact ⟨_, x_load 22 (.tmp 22) rfl d2 (run_load1 agg22 (cell_up q0 hUx)), rfl⟩
    · refine opS_same rfl rfl fun Lx ac w1 hJ hl hc ho hd => ?_
      have s0 : ac.eval (.tmp 0) = .pointer (some ⟨q, 0, none⟩) := ho 0 rfl
      exact ⟨_, x_move (.tmp 0) rfl s0, rfl⟩
    · refine opS_same rfl rfl fun Lx ac w1 hJ hl hc ho hd => ?_
      have s0 : ac.eval (.tmp 0) = .pointer (some ⟨q, 0, none⟩) := ho 0 rfl
      exact ⟨_, x_move (.tmp 0) rfl s0, rfl⟩
    · refine opS_same rfl rfl fun Lx ac w1 hJ hl hc ho hd => ?_
      have d5 : ac.eval (.tmp 25) = .pointer (some ⟨q, 0, none⟩) := hd 5 _ _ rfl rfl rfl
      exact ⟨_, x_nil (.tmp 25) rfl d5, rfl⟩
    · refine opS_same rfl rfl fun Lx ac w1 hJ hl hc ho hd => ?_
      have d6 : ac.eval (.tmp 26) = .pointer (some ⟨q, 0, none⟩) := hd 6 _ _ rfl rfl rfl
      exact ⟨_, x_field 52 (.tmp 26) 2 rfl d6 (fld522 _ _ _), rfl⟩
    · refine opS_same rfl rfl fun Lx ac w1 hJ hl hc ho hd => ?_
      have d7 : ac.eval (.tmp 27) = .pointer (some ⟨q, 0 + 2, none⟩) := hd 7 _ _ rfl rfl rfl
      obtain ⟨_, _, hUx⟩ := hJ
      exact ⟨_, x_load 3 (.tmp 27) rfl d7 (run_load1 agg3 (cell_up q2 hUx)), rfl⟩
    · refine opS_call rfl rfl fun Lx ac w1 hJ hl hc ho hd => ?_
      have d4 : ac.eval (.tmp 24) = .pointer (some ⟨q, 0, none⟩) := hd 4 _ _ rfl rfl rfl
      have d8 : ac.eval (.tmp 28) = .int .i64 (o : Int) := hd 8 _ _ rfl rfl rfl
      obtain ⟨_, _, hUx⟩ := hJ
      refine ⟨15, _, _, x_fcall 15 [.tmp 24, .tmp 28] _ rfl (by kernel_rfl), rfl, ?_⟩
      simp only [List.map_cons, List.map_nil, d4, d8]
      rw [HRR.out]
      exact after_any q o _ cq w1 ((Below.block (show Up w3 w1 from hUx) _ (lt_of_blk HQ3.out)).trans HQ3.out) rfl (by omega)
    · refine opS_same rfl rfl fun Lx ac w1 hJ hl hc ho hd => ?_
      have s3 : ac.eval (.tmp 3) = .pointer (some ⟨b, 0, none⟩) := ho 3 rfl
      exact ⟨_, x_field 43 (.tmp 3) 0 rfl s3 (fld430 _ _ _), rfl⟩
    · refine opS_same rfl rfl fun Lx ac w1 hJ hl hc ho hd => ?_
      have d10 : ac.eval (.tmp 30) = .pointer (some ⟨b, 0, none⟩) := hd 10 _ _ rfl rfl rfl
      obtain ⟨_, _, hUx⟩ := hJ
      exact ⟨_, x_load 22 (.tmp 30) rfl d10 (run_load1 agg22 (cell_up b0 hUx)), rfl⟩
    · refine opS_callUp rfl rfl (fun k wa wb h hu => Up.trans h hu) (fun q v _ _ hf _ => facts_free (by simp [free_is, free_tru]) q v hf) fun Lx ac w1 hJ hl hc ho hd => ?_
      have d3 : ac.eval (.tmp 23) = .int .u32 (cq : Int) := hd 3 _ _ rfl rfl rfl
      have d9 : ac.eval (.tmp 29) = .int .u32 (r : Int) := hd 9 _ _ rfl rfl rfl
      have d11 : ac.eval (.tmp 31) = .int .u32 (cu : Int) := hd 11 _ _ rfl rfl rfl
      obtain ⟨_, _, hUx⟩ := hJ
      refine ⟨20, _, x_fcall 20 [.tmp 23, .tmp 29, .tmp 31] _ rfl (by kernel_rfl), ?_⟩
      simp only [List.map_cons, List.map_nil, d3, d9, d11]
      refine (within_any cq r cu w1 hcq hrl hcu).mono fun e w2 ⟨he, hu⟩ => ⟨_, he, hu.out, ?_⟩
      rw [HWI.out]; rfl
    · refine opS_same rfl rfl fun Lx ac w1 hJ hl hc ho hd => ?_
      have d12 : ac.eval (.tmp 32) = .bool false := hd 12 _ _ rfl rfl rfl
      exact ⟨_, x_not 4 (.tmp 32) rfl d12, rfl⟩
  · intro L9 a9 w4 hI hall
    obtain ⟨k, hk, hUF⟩ := hI.done hall (by simp)
    have HU4 := Lib.hid (show Up w3 w4 from hUF)
    clear hk hUF k
    have l0 : a9.tmps.getD 0 undef = .pointer (some ⟨q, 0, none⟩) := hI.old 0 rfl
    have l1 : a9.tmps.getD 1 undef = .agg #[.int .u32 (cu : Int), .int .u32 (wi : Int), .slice GA gn gc, .slice DA dn dc] := hI.old 1 rfl
    have l3 : a9.tmps.getD 3 undef = .pointer (some ⟨b, 0, none⟩) := hI.old 3 rfl
    have l4 : a9.tmps.getD 4 undef = .slice none 0 0 := hI.old 4 rfl
    have l5 : a9.tmps.getD 5 undef = .slice none 0 0 := hI.old 5 rfl
    have l6 : a9.tmps.getD 6 undef = .int .i64 0 := hI.old 6 rfl
    have l33 : a9.tmps.getD 33 undef = .bool true := hI.get hall (i := 13) rfl rfl
    have hde : a9.defers = [] := hI.defers
    have hal := act_lit a9 50 hI.size
    clear hI
    simp only [List.range, List.range.loop, List.map_cons, List.map_nil] at hal
    rw [l0, l1, l3, l4, l5, l6, l33, hde] at hal
    generalize a9.tmps.getD 2 undef = t2 at hal
    generalize a9.tmps.getD 7 undef = t7 at hal
    generalize a9.tmps.getD 8 undef = t8 at hal
    generalize a9.tmps.getD 9 undef = t9 at hal
    generalize a9.tmps.getD 10 undef = t10 at hal
    generalize a9.tmps.getD 11 undef = t11 at hal
    generalize a9.tmps.getD 12 undef = t12 at hal
    generalize a9.tmps.getD 13 undef = t13 at hal
    generalize a9.tmps.getD 14 undef = t14 at hal
    generalize a9.tmps.getD 15 undef = t15 at hal
    generalize a9.tmps.getD 16 undef = t16 at hal
    generalize a9.tmps.getD 17 undef = t17 at hal
    generalize a9.tmps.getD 18 undef = t18 at hal
    generalize a9.tmps.getD 19 undef = t19 at hal
    generalize a9.tmps.getD 20 undef = t20 at hal
    generalize a9.tmps.getD 21 undef = t21 at hal
    generalize a9.tmps.getD 22 undef = t22 at hal
    generalize a9.tmps.getD 23 undef = t23 at hal
    generalize a9.tmps.getD 24 undef = t24 at hal
    generalize a9.tmps.getD 25 undef = t25 at hal
    generalize a9.tmps.getD 26 undef = t26 at hal
    generalize a9.tmps.getD 27 undef = t27 at hal
    generalize a9.tmps.getD 28 undef = t28 at hal
    generalize a9.tmps.getD 29 undef = t29 at hal
    generalize a9.tmps.getD 30 undef = t30 at hal
    generalize a9.tmps.getD 31 undef = t31 at hal
    generalize a9.tmps.getD 32 undef = t32 at hal
    generalize a9.tmps.getD 34 undef = t34 at hal
    generalize a9.tmps.getD 35 undef = t35 at hal
    generalize a9.tmps.getD 36 undef = t36 at hal
    generalize a9.tmps.getD 37 undef = t37 at hal
    generalize a9.tmps.getD 38 undef = t38 at hal
    generalize a9.tmps.getD 39 undef = t39 at hal
    generalize a9.tmps.getD 40 undef = t40 at hal
    generalize a9.tmps.getD 41 undef = t41 at hal
    generalize a9.tmps.getD 42 undef = t42 at hal
    generalize a9.tmps.getD 43 undef = t43 at hal
    generalize a9.tmps.getD 44 undef = t44 at hal
    generalize a9.tmps.getD 45 undef = t45 at hal
    generalize a9.tmps.getD 46 undef = t46 at hal
    generalize a9.tmps.getD 47 undef = t47 at hal
    generalize a9.tmps.getD 48 undef = t48 at hal
    generalize a9.tmps.getD 49 undef = t49 at hal
    clear l0 l1 l3 l4 l5 l6 l33 hde
    subst hal
    have HW4 := Lib.hid (HW3.out.trans HU4.out)
    have HQ4 := Lib.hid ((HW4.out.block _ (lt_of_blk HQ.out)).trans HQ.out)
    have HR4 := Lib.hid (own_up HR.out HW4.out)
    have HB4 := Lib.hid ((HU4.out.block _ (lt_of_blk HB3.out)).trans HB3.out)
    clear HWI q0 q2 b0 HU4 HQ3 HB3 HW3 hall HRR hrl
    clear HB4 HQ4 HR4
    go_wp2_with fail
    go_ret3
    exact ⟨rfl, HW4⟩
end Go.Proofs.Ytdlehchofmdjbaa
