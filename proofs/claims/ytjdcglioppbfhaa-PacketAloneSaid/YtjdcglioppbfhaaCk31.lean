import Derived.Test.YtjdcglioppbfhaaCkS
import Derived.Test.YtjdcglioppbfhaaCk17
import Derived.Test.YtjdcglioppbfhaaBytes
import Derived.Lib.Bytes
import Derived.BigQuiet
import Derived.Deep.DeepCutAuto
import Derived.Test.YtjdcglioppbfhaaCk2
namespace Go.Proofs.Ytjdcglioppbfhaa
open Go Go.RowKit
set_option linter.unusedVariables false
set_option linter.unusedSimpArgs false
/-! The reference's SameChunk, SameHello, SamePiece. -/
theorem conv_up {A : Option Addr} {n c : Nat} {xs : List Int} {w w' : World} (h : InB w A n c xs) (hu : Up w w') : (convert 22 9 (.slice A n c)).run Try.prog w' = .ok (.string (strOfNums xs)) w' := conv_I (P := Try.prog) Try.underlying22 Try.underlying5 Try.underlying9 (h.up hu).isI
theorem map_u8 : ∀ {xs ys : List Int}, Byt xs → Byt ys → xs.map (fun n => UInt8.ofNat n.toNat) = ys.map (fun n => UInt8.ofNat n.toNat) → xs = ys
  | [], [], _, _, _ => rfl
  | [], _ :: _, _, _, h => by simp at h
  | _ :: _, [], _, _, h => by simp at h
  | x :: xs, y :: ys, hx, hy, h => by
    simp only [List.map_cons, List.cons.injEq] at h
    have h1 := hx x (by simp)
    have h2 := hy y (by simp)
    have h3 := congrArg UInt8.toNat h.1
    simp only [UInt8.toNat_ofNat'] at h3
    have h4 : x = y := by omega
    rw [h4, map_u8 (fun z hz => hx z (by simp [hz])) (fun z hz => hy z (by simp [hz])) h.2]
theorem str_eq {xs ys : List Int} (hx : Byt xs) (hy : Byt ys) : ((strOfNums xs).toList == (strOfNums ys).toList) = decide (xs = ys) := by
  by_cases h : xs = ys
  · subst h; simp
  · rw [decide_eq_false h, beq_eq_false_iff_ne]
    intro e
    rw [Lib.strOfNums_toList, Lib.strOfNums_toList] at e
    exact h (map_u8 hx hy e)
def RetB (b : Bool) (w : World) (e : Ending) (w' : World) : Prop := e = .returned (.bool b) ∧ Hid (Up w w')
set_option maxRecDepth 100000 in
set_option maxHeartbeats 2000000 in
theorem sameC_0 (a0 a1 b0 b1 : Int) (A B : Option Addr) (n m c d : Nat) (w : World) (hn : ¬ (a0 = b0 ∧ a1 = b1)) :
    Calls Try.prog 39 #[.agg #[.int .u8 a0, .int .u8 a1, .slice A n c], .agg #[.int .u8 b0, .int .u8 b1, .slice B m d]] w (RetB false w) := by
  have HN := Lib.hid hn
  clear hn
  go_enter Try.func39, Try.ntmps39
  go_upto_region 1 with (fail)
  have HU := Lib.hid ((up_alloc w (.cells #[.int .u8 a0, .int .u8 a1, .slice A n c] 43)).trans (up_alloc _ (.cells #[.int .u8 b0, .int .u8 b1, .slice B m d] 43)))
  go_wp2_with fail
  all_goals first
    | (exfalso; exact HN.out ⟨by assumption, by assumption⟩)
    | (go_ret; exact ⟨rfl, Lib.hid (by simpa [*] using HU.out)⟩)
set_option maxRecDepth 100000 in
set_option maxHeartbeats 2000000 in
theorem sameC_1 (a0 a1 : Int) (xs ys : List Int) (A B : Option Addr) (n m c d : Nat) (w : World) (ha : InB w A n c xs) (hb : InB w B m d ys) :
    Calls Try.prog 39 #[.agg #[.int .u8 a0, .int .u8 a1, .slice A n c], .agg #[.int .u8 a0, .int .u8 a1, .slice B m d]] w (RetB (decide (xs = ys)) w) := by
  have HA := Lib.hid ha
  have HB := Lib.hid hb
  clear ha hb
  go_enter Try.func39, Try.ntmps39
  go_upto_region 1 with (fail)
  have HU := Lib.hid ((up_alloc w (.cells #[.int .u8 a0, .int .u8 a1, .slice A n c] 43)).trans (up_alloc _ (.cells #[.int .u8 a0, .int .u8 a1, .slice B m d] 43)))
  have h1 := conv_up HA.out HU.out
  have h2 := conv_up HB.out HU.out
  go_wp2_with fail
  go_ret
  exact ⟨by simp [str_eq HA.out.byt HB.out.byt], HU⟩
instance : DecidableEq Ck.Chk := fun a b => if h : (a.ty = b.ty ∧ a.fl = b.fl) ∧ a.bs = b.bs then .isTrue (by
    obtain ⟨a1, a2, a3⟩ := a
    obtain ⟨b1, b2, b3⟩ := b
    simp at h ⊢
    simp [h]) else .isFalse (fun e => h (by subst e; simp))
theorem sameC (f g : Ck.Chk) (A B : Option Addr) (n m c d : Nat) (w : World) (ha : InB w A n c f.bs) (hb : InB w B m d g.bs) : Calls Try.prog 39 #[chV f.ty f.fl (.slice A n c), chV g.ty g.fl (.slice B m d)] w (RetB (decide (f = g)) w) := by
  obtain ⟨a0, a1, xs⟩ := f
  obtain ⟨b0, b1, ys⟩ := g
  by_cases h : a0 = b0 ∧ a1 = b1
  · obtain ⟨rfl, rfl⟩ := h
    have e : decide ((⟨a0, a1, xs⟩ : Ck.Chk) = ⟨a0, a1, ys⟩) = decide (xs = ys) := by simp
    rw [e]; exact sameC_1 a0 a1 xs ys A B n m c d w ha hb
  · have e : decide ((⟨a0, a1, xs⟩ : Ck.Chk) = ⟨b0, b1, ys⟩) = false := by
      rw [decide_eq_false_iff_not]; intro e; injection e with e1 e2 e3; exact h ⟨e1, e2⟩
    rw [e]; exact sameC_0 a0 a1 b0 b1 A B n m c d w h
end Go.Proofs.Ytjdcglioppbfhaa
namespace Go.Proofs.Ytjdcglioppbfhaa
open Go Go.RowKit
set_option linter.unusedVariables false
set_option linter.unusedSimpArgs false
/-! Packets: their values, and whether they may be. -/
namespace Pk
structure Pkt where
  src : Int
  dst : Int
  tag : Int
  chs : List Ck.Chk
structure PktOk (p : Pkt) : Prop where
  src : 0 ≤ p.src ∧ p.src < 65536
  dst : 0 ≤ p.dst ∧ p.dst < 65536
  tag : 0 ≤ p.tag ∧ p.tag < 4294967296
/-- Such a chunk stands alone. -/
def aloneB (k : Int) : Bool := k == 1 || (k == 2 || k == 14)
/-- A chunk of this kind may not be there. -/
def badB (n : Nat) (g : Int) (k : Int) : Bool := (aloneB k && decide (1 < n)) || ((k == 1) != (g == 0))
def soundB (p : Pkt) : Bool := (p.src != 0) && ((p.dst != 0) && (decide (0 < p.chs.length) && !(p.chs.any fun c => badB p.chs.length p.tag c.ty)))
end Pk
def pkC (f t g : Int) (v : Value) : Array Value := #[.int .u16 f, .int .u16 t, .int .u32 g, v]
def pkV (f t g : Int) (v : Value) : Value := .agg (pkC f t g v)
/-- It answers this, and the world is as it was. -/
def RetS (b : Bool) (w : World) (e : Ending) (w' : World) : Prop := e = .returned (.bool b) ∧ w = w'
theorem alone_any (k : Int) (w : World) : Calls Try.prog 13 #[.int .u8 k] w (RetS (Pk.aloneB k) w) := by
  unfold Pk.aloneB
  by_cases h1 : k = 1
  · subst h1
    go_enter Try.func13, Try.ntmps13
    go_wp2_with fail
    go_ret
    exact ⟨rfl, rfl⟩
  by_cases h2 : k = 2
  · subst h2
    go_enter Try.func13, Try.ntmps13
    go_wp2_with fail
    go_ret
    exact ⟨rfl, rfl⟩
  by_cases h3 : k = 14
  · subst h3
    go_enter Try.func13, Try.ntmps13
    go_wp2_with fail
    go_ret
    exact ⟨rfl, rfl⟩
  have d1 : (k == 1) = false := by rw [beq_eq_false_iff_ne]; exact h1
  have d2 : (k == 2) = false := by rw [beq_eq_false_iff_ne]; exact h2
  have d3 : (k == 14) = false := by rw [beq_eq_false_iff_ne]; exact h3
  clear h1 h2 h3
  rw [d1, d2, d3]
  go_enter Try.func13, Try.ntmps13
  go_wp2_with fail
  go_ret
  exact ⟨rfl, rfl⟩
theorem ralone_any (k : Int) (w : World) : Calls Try.prog 38 #[.int .u8 k] w (RetS (Pk.aloneB k) w) := by
  unfold Pk.aloneB
  by_cases h1 : k = 1
  · subst h1
    go_enter Try.func38, Try.ntmps38
    go_wp2_with fail
    go_ret
    exact ⟨rfl, rfl⟩
  by_cases h2 : k = 2
  · subst h2
    go_enter Try.func38, Try.ntmps38
    go_wp2_with fail
    go_ret
    exact ⟨rfl, rfl⟩
  have d1 : (k == 1) = false := by rw [beq_eq_false_iff_ne]; exact h1
  have d2 : (k == 2) = false := by rw [beq_eq_false_iff_ne]; exact h2
  clear h1 h2
  rw [d1, d2]
  go_enter Try.func38, Try.ntmps38
  go_wp2_with fail
  go_ret
  exact ⟨rfl, rfl⟩
theorem bad_any (x y : Int) (v : Value) (f t g : Int) (A : Option Addr) (n c q : Nat) (w : World) (hq : w.heap[q]? = some (.cells (pkC f t g (.slice A n c)) 27 (0, 0))) :
    Calls Try.prog 33 #[.agg #[.int .u8 x, .int .u8 y, v], .pointer (some ⟨q, 0, none⟩)] w (RetB (Pk.badB n g x) w) := by
  have c2 : w.cell? ⟨q, 2, none⟩ = some (.int .u32 g) := cell_of hq (j := 2) rfl
  have c3 : w.cell? ⟨q, 3, none⟩ = some (.slice A n c) := cell_of hq (j := 3) rfl
  have hlt := lt_of_blk hq
  have HW := Lib.hid (up_alloc w (.cells #[.int .u8 x, .int .u8 y, v] 43))
  clear hq
  unfold Pk.badB
  cases ha : Pk.aloneB x
  · go_enter Try.func33, Try.ntmps33
    go_wp2_with fail
    refine (alone_any x _).mono ?_
    rintro e w1 ⟨rfl, rfl⟩
    rw [ha]
    clear ha
    go_wp2_with fail
    go_ret
    exact ⟨rfl, HW⟩
  · by_cases h1 : 1 < n
    · have d1 : decide ((1 : Int) < (n : Int)) = true := by simp; omega
      have HD := Lib.hid (show decide (1 < n) = true by simp; omega)
      clear h1
      go_enter Try.func33, Try.ntmps33
      go_wp2_with fail
      refine (alone_any x _).mono ?_
      rintro e w1 ⟨rfl, rfl⟩
      rw [ha]
      clear ha
      go_wp2_with fail
      go_ret
      exact ⟨by rw [HD.out]; rfl, HW⟩
    · have d1 : decide ((1 : Int) < (n : Int)) = false := by simp; omega
      have HD := Lib.hid (show decide (1 < n) = false by simp; omega)
      clear h1
      go_enter Try.func33, Try.ntmps33
      go_wp2_with fail
      refine (alone_any x _).mono ?_
      rintro e w1 ⟨rfl, rfl⟩
      rw [ha]
      clear ha
      go_wp2_with fail
      go_ret
      exact ⟨by rw [HD.out]; rfl, HW⟩
end Go.Proofs.Ytjdcglioppbfhaa
namespace Go.Proofs.Ytjdcglioppbfhaa
open Go Go.RowKit
set_option linter.unusedVariables false
set_option linter.unusedSimpArgs false
/-! The reference's SameChunks. -/
theorem run_load41 {g o : Nat} {w : World} {x y z : Value} (h0 : w.cell? ⟨g, o, none⟩ = some x) (h1 : w.cell? ⟨g, o + 1, none⟩ = some y) (h2 : w.cell? ⟨g, o + 2, none⟩ = some z) : (Instr.loadAt 43 (.pointer (some ⟨g, o, none⟩))).run Try.prog w = .ok (.agg #[x, y, z]) w := by
  have hl : (loadCells ⟨g, o, none⟩ [x, y, z].length).run Try.prog w = .ok [x, y, z].toArray w := run_loadCells_list (P := Try.prog) w ⟨g, o, none⟩ [x, y, z] (fun j v hv => by
    rw [add_flat]
    match j, hv with
    | 0, hv => simp at hv; subst hv; exact h0
    | 1, hv => simp at hv; subst hv; exact h1
    | 2, hv => simp at hv; subst hv; exact h2)
  have ha : (isAgg 43).run Try.prog w = .ok true w := by kernel_rfl
  have hs := sz41 w
  simp only [List.length_cons, List.length_nil] at hl
  simp [Instr.loadAt, Instr.sureAddr, loadVar, Result.andThen, ha, hs, hl]
theorem eqL_take {la lb : List Ck.Chk} {k n m : Nat} (hn : la.length = n) (hm : lb.length = m) (he : la.take k = lb.take k) (hk : k = n ∨ k = m) (hkn : k ≤ n) (hkm : k ≤ m) : (la = lb) ↔ n = m := by
  constructor
  · intro h; rw [← hn, ← hm, h]
  · intro h
    have h1 : k = n := by omega
    rw [List.take_of_length_le (by omega), List.take_of_length_le (by omega)] at he
    exact he
set_option maxRecDepth 100000 in
set_option maxHeartbeats 2000000 in
theorem sameL (la lb : List ChB) (A B : Option Addr) (n c m d : Nat) (w : World) (ha : InL w A n c la) (hb : InL w B m d lb) (hn : n ≤ 140737488351232) (hm : m ≤ 140737488351232) : Calls Try.prog 23 #[.slice A n c, .slice B m d] w (RetB (decide (la.map ChB.pure = lb.map ChB.pure)) w) := by
  have HA := Lib.hid ha
  have HB := Lib.hid hb
  have hca := ha.cap
  have hcb := hb.cap
  clear ha hb
  go_enter Try.func23, Try.ntmps23
  go_wp2_with fail
  go_loopw [5] (fun i wr => ∃ k : Nat, k ≤ n ∧ k ≤ m ∧ i = .int .i64 (k : Int) ∧ Hid ((la.map ChB.pure).take k = (lb.map ChB.pure).take k) ∧ Hid (Up w wr)) (fun i _ => n - (intOf i).toNat)
  case atStart => exact ⟨0, Nat.zero_le _, Nat.zero_le _, rfl, Lib.hid rfl, Lib.hid (Up.refl _)⟩
  case round =>
    obtain ⟨k, hk, hk2, rfl, he, hu⟩ := hrel
    have HLA := Lib.hid (show (la.map ChB.pure).length = n by simp [HA.out.len])
    have HLB := Lib.hid (show (lb.map ChB.pure).length = m by simp [HB.out.len])
    by_cases hkn : k < n
    · have d1 : decide ((k : Int) < (n : Int)) = true := by simp; omega
      by_cases hkm : k < m
      · have d2 : decide ((k : Int) < (m : Int)) = true := by simp; omega
        obtain ⟨x, ga, oa, hx, rfl, x0, x1, x2, hxi⟩ := (HA.out.up hu.out).at_ hkn
        obtain ⟨y, gb, ob, hy, rfl, y0, y1, y2, hyi⟩ := (HB.out.up hu.out).at_ hkm
        have X0 := Lib.hid x0
        have X1 := Lib.hid x1
        have X2 := Lib.hid x2
        have Y0 := Lib.hid y0
        have Y1 := Lib.hid y1
        have Y2 := Lib.hid y2
        have HX := Lib.hid hxi
        have HY := Lib.hid hyi
        have HXK := Lib.hid (show (la.map ChB.pure).take (k + 1) = (la.map ChB.pure).take k ++ [x.pure] by
          have h2 : (la.map ChB.pure)[k]? = some x.pure := by simp [hx]
          obtain ⟨hl, he⟩ := List.getElem?_eq_some_iff.1 h2
          rw [List.take_succ_eq_append_getElem hl, he])
        have HYK := Lib.hid (show (lb.map ChB.pure).take (k + 1) = (lb.map ChB.pure).take k ++ [y.pure] by
          have h2 : (lb.map ChB.pure)[k]? = some y.pure := by simp [hy]
          obtain ⟨hl, he⟩ := List.getElem?_eq_some_iff.1 h2
          rw [List.take_succ_eq_append_getElem hl, he])
        clear x0 x1 x2 y0 y1 y2 hxi hyi hx hy
        go_upto_region 4 with (fail)
        by_cases heq : x.pure = y.pure
        · have HEQ := Lib.hid (show decide (x.pure = y.pure) = true from decide_eq_true heq)
          have HE2 := Lib.hid (show (la.map ChB.pure).take (k + 1) = (lb.map ChB.pure).take (k + 1) by rw [HXK.out, HYK.out, he.out, heq])
          clear heq
          have HK : ∀ φ ∈ [Is (.slice (some ⟨ga, oa, none⟩) n c), Is (.int .i64 (k : Int)), Is (.pointer (some ⟨ga, oa + k * 3, none⟩)), Is (chV x.ty x.fl (.slice x.A x.n x.c)), Is (.slice (some ⟨gb, ob, none⟩) m d), Is (.int .i64 (k : Int)), Is (.pointer (some ⟨gb, ob + k * 3, none⟩)), Is (chV y.ty y.fl (.slice y.A y.n y.c)), Is (.bool true), Is (.bool false)], Keeps φ := by
            intro φ hφ
            simp only [List.mem_cons, List.mem_nil_iff, or_false] at hφ
            rcases hφ with rfl | rfl | rfl | rfl | rfl | rfl | rfl | rfl | rfl | rfl <;> exact keeps_is _
          refine staged_lit (by kernel_rfl) (facts [Is (.slice (some ⟨ga, oa, none⟩) n c), Is (.int .i64 (k : Int)), Is (.pointer (some ⟨ga, oa + k * 3, none⟩)), Is (chV x.ty x.fl (.slice x.A x.n x.c)), Is (.slice (some ⟨gb, ob, none⟩) m d), Is (.int .i64 (k : Int)), Is (.pointer (some ⟨gb, ob + k * 3, none⟩)), Is (chV y.ty y.fl (.slice y.A y.n y.c)), Is (.bool true), Is (.bool false)]) (Stg [] (fun _ wx => Up wr wx)) 33 rfl (by decide +kernel) (by decide +kernel) (Stg.start (Up.drew wr)) ?_ ?_
          · refine ⟨?_, ?_, ?_, ?_, ?_, ?_, ?_, ?_, ?_, ?_, trivial⟩
            · refine opS_same rfl rfl fun L ac w1 hJ hl hc ho hd => ?_
              have s0 : ac.eval (.tmp 0) = .slice (some ⟨ga, oa, none⟩) n c := ho 0 rfl
              exact ⟨_, x_move (.tmp 0) rfl s0, rfl⟩
            · refine opS_same rfl rfl fun L ac w1 hJ hl hc ho hd => ?_
              have s5 : ac.eval (.tmp 5) = .int .i64 (k : Int) := ho 5 rfl
              exact ⟨_, x_move (.tmp 5) rfl s5, rfl⟩
            · refine opS_same rfl rfl fun L ac w1 hJ hl hc ho hd => ?_
              have d0 : ac.eval (.tmp 18) = .slice (some ⟨ga, oa, none⟩) n c := hd 0 _ _ rfl rfl rfl
              have d1 : ac.eval (.tmp 19) = .int .i64 (k : Int) := hd 1 _ _ rfl rfl rfl
              exact ⟨_, x_index 25 (.tmp 18) (.tmp 19) rfl d0 d1 (run_indexT (s := 3) Try.underlying25 (sz41 _) hkn), by rw [add_flat]; rfl⟩
            · refine opS_same rfl rfl fun L ac w1 hJ hl hc ho hd => ?_
              have d2 : ac.eval (.tmp 20) = .pointer (some ⟨ga, oa + k * 3, none⟩) := hd 2 _ _ rfl rfl rfl
              obtain ⟨_, _, hU⟩ := hJ
              exact ⟨_, x_load 43 (.tmp 20) rfl d2 (run_load41 (cell_up X0.out hU) (cell_up X1.out hU) (cell_up X2.out hU)), rfl⟩
            · refine opS_same rfl rfl fun L ac w1 hJ hl hc ho hd => ?_
              have s1 : ac.eval (.tmp 1) = .slice (some ⟨gb, ob, none⟩) m d := ho 1 rfl
              exact ⟨_, x_move (.tmp 1) rfl s1, rfl⟩
            · refine opS_same rfl rfl fun L ac w1 hJ hl hc ho hd => ?_
              have s5 : ac.eval (.tmp 5) = .int .i64 (k : Int) := ho 5 rfl
              exact ⟨_, x_move (.tmp 5) rfl s5, rfl⟩
            · refine opS_same rfl rfl fun L ac w1 hJ hl hc ho hd => ?_
              have d4 : ac.eval (.tmp 22) = .slice (some ⟨gb, ob, none⟩) m d := hd 4 _ _ rfl rfl rfl
              have d5 : ac.eval (.tmp 23) = .int .i64 (k : Int) := hd 5 _ _ rfl rfl rfl
              exact ⟨_, x_index 25 (.tmp 22) (.tmp 23) rfl d4 d5 (run_indexT (s := 3) Try.underlying25 (sz41 _) hkm), by rw [add_flat]; rfl⟩
            · refine opS_same rfl rfl fun L ac w1 hJ hl hc ho hd => ?_
              have d6 : ac.eval (.tmp 24) = .pointer (some ⟨gb, ob + k * 3, none⟩) := hd 6 _ _ rfl rfl rfl
              obtain ⟨_, _, hU⟩ := hJ
              exact ⟨_, x_load 43 (.tmp 24) rfl d6 (run_load41 (cell_up Y0.out hU) (cell_up Y1.out hU) (cell_up Y2.out hU)), rfl⟩
            · refine opS_callUp rfl rfl (fun k wa wb h hu => Up.trans h hu) (facts_keep HK) fun L ac w1 hJ hl hc ho hd => ?_
              have d3 : ac.eval (.tmp 21) = chV x.ty x.fl (.slice x.A x.n x.c) := hd 3 _ _ rfl rfl rfl
              have d7 : ac.eval (.tmp 25) = chV y.ty y.fl (.slice y.A y.n y.c) := hd 7 _ _ rfl rfl rfl
              obtain ⟨_, _, hU⟩ := hJ
              refine ⟨39, _, x_fcall 39 [.tmp 21, .tmp 25] _ rfl (by kernel_rfl), ?_⟩
              simp only [List.map_cons, List.map_nil, d3, d7]
              refine (sameC x.pure y.pure x.A y.A x.n y.n x.c y.c w1 (HX.out.inb.up hU) (HY.out.inb.up hU)).mono fun e w2 ⟨he, hu⟩ => ⟨_, he, hu.out, ?_⟩
              rw [HEQ.out]; rfl
            · refine opS_same rfl rfl fun L ac w1 hJ hl hc ho hd => ?_
              have d8 : ac.eval (.tmp 26) = .bool true := hd 8 _ _ rfl rfl rfl
              exact ⟨_, x_not 4 (.tmp 26) rfl d8, rfl⟩
          · intro L a1 w9 hI hall
            obtain ⟨j, hj, hU⟩ := hI.done hall (by simp)
            have HU9 := Lib.hid (hu.out.trans hU)
            clear hj hU j HK
            have l0 : a1.tmps.getD 0 undef = Value.slice (some { block := ga, off := oa }) n c := hI.old 0 rfl
            have l1 : a1.tmps.getD 1 undef = Value.slice (some { block := gb, off := ob }) m d := hI.old 1 rfl
            have l2 : a1.tmps.getD 2 undef = undef := hI.old 2 rfl
            have l3 : a1.tmps.getD 3 undef = undef := hI.old 3 rfl
            have l5 : a1.tmps.getD 5 undef = Value.int IntKind.i64 ↑k := hI.old 5 rfl
            have l6 : a1.tmps.getD 6 undef = Value.int IntKind.i64 ↑k := hI.old 6 rfl
            have l7 : a1.tmps.getD 7 undef = Value.slice (some { block := ga, off := oa }) n c := hI.old 7 rfl
            have l8 : a1.tmps.getD 8 undef = Value.int IntKind.i64 ↑n := hI.old 8 rfl
            have l9 : a1.tmps.getD 9 undef = Value.bool true := hI.old 9 rfl
            have l10 : a1.tmps.getD 10 undef = Value.bool true := hI.old 10 rfl
            have l11 : a1.tmps.getD 11 undef = Value.int IntKind.i64 ↑k := hI.old 11 rfl
            have l12 : a1.tmps.getD 12 undef = Value.slice (some { block := gb, off := ob }) m d := hI.old 12 rfl
            have l13 : a1.tmps.getD 13 undef = Value.int IntKind.i64 ↑m := hI.old 13 rfl
            have l14 : a1.tmps.getD 14 undef = Value.bool true := hI.old 14 rfl
            have l15 : a1.tmps.getD 15 undef = Value.bool true := hI.old 15 rfl
            have l28 : a1.tmps.getD 28 undef = undef := hI.old 28 rfl
            have l29 : a1.tmps.getD 29 undef = undef := hI.old 29 rfl
            have l30 : a1.tmps.getD 30 undef = undef := hI.old 30 rfl
            have l31 : a1.tmps.getD 31 undef = undef := hI.old 31 rfl
            have l32 : a1.tmps.getD 32 undef = undef := hI.old 32 rfl
            have l27 : a1.tmps.getD 27 undef = .bool false := hI.get hall (i := 9) rfl rfl
            have hde : a1.defers = [] := hI.defers
            have hal := act_lit a1 33 hI.size
            clear hI
            simp only [List.range, List.range.loop, List.map_cons, List.map_nil] at hal
            rw [l0, l1, l2, l3, l5, l6, l7, l8, l9, l10, l11, l12, l13, l14, l15, l28, l29, l30, l31, l32, l27, hde] at hal
            generalize a1.tmps.getD 4 undef = tm4 at hal
            generalize a1.tmps.getD 16 undef = tm16 at hal
            generalize a1.tmps.getD 17 undef = tm17 at hal
            generalize a1.tmps.getD 18 undef = tm18 at hal
            generalize a1.tmps.getD 19 undef = tm19 at hal
            generalize a1.tmps.getD 20 undef = tm20 at hal
            generalize a1.tmps.getD 21 undef = tm21 at hal
            generalize a1.tmps.getD 22 undef = tm22 at hal
            generalize a1.tmps.getD 23 undef = tm23 at hal
            generalize a1.tmps.getD 24 undef = tm24 at hal
            generalize a1.tmps.getD 25 undef = tm25 at hal
            generalize a1.tmps.getD 26 undef = tm26 at hal
            clear l0 l1 l2 l3 l5 l6 l7 l8 l9 l10 l11 l12 l13 l14 l15 l28 l29 l30 l31 l32 l27 hde
            subst hal
            go_wp2_with fail
            go_roundw
            case rel => exact ⟨k + 1, by omega, by omega, by go_num, HE2, HU9⟩
            case measure => simp [intOf]; omega
        · have HEQ := Lib.hid (show decide (x.pure = y.pure) = false from decide_eq_false heq)
          have HE2 := Lib.hid (show decide (la.map ChB.pure = lb.map ChB.pure) = false from decide_eq_false fun e => by
            have h1 := HXK.out
            rw [e, HYK.out] at h1
            have h2 := (List.append_inj h1 rfl).2
            injection h2 with h2
            exact heq h2.symm)
          clear heq
          have HK : ∀ φ ∈ [Is (.slice (some ⟨ga, oa, none⟩) n c), Is (.int .i64 (k : Int)), Is (.pointer (some ⟨ga, oa + k * 3, none⟩)), Is (chV x.ty x.fl (.slice x.A x.n x.c)), Is (.slice (some ⟨gb, ob, none⟩) m d), Is (.int .i64 (k : Int)), Is (.pointer (some ⟨gb, ob + k * 3, none⟩)), Is (chV y.ty y.fl (.slice y.A y.n y.c)), Is (.bool false), Is (.bool true)], Keeps φ := by
            intro φ hφ
            simp only [List.mem_cons, List.mem_nil_iff, or_false] at hφ
            rcases hφ with rfl | rfl | rfl | rfl | rfl | rfl | rfl | rfl | rfl | rfl <;> exact keeps_is _
          refine staged_lit (by kernel_rfl) (facts [Is (.slice (some ⟨ga, oa, none⟩) n c), Is (.int .i64 (k : Int)), Is (.pointer (some ⟨ga, oa + k * 3, none⟩)), Is (chV x.ty x.fl (.slice x.A x.n x.c)), Is (.slice (some ⟨gb, ob, none⟩) m d), Is (.int .i64 (k : Int)), Is (.pointer (some ⟨gb, ob + k * 3, none⟩)), Is (chV y.ty y.fl (.slice y.A y.n y.c)), Is (.bool false), Is (.bool true)]) (Stg [] (fun _ wx => Up wr wx)) 33 rfl (by decide +kernel) (by decide +kernel) (Stg.start (Up.drew wr)) ?_ ?_
          · refine ⟨?_, ?_, ?_, ?_, ?_, ?_, ?_, ?_, ?_, ?_, trivial⟩
            · refine opS_same rfl rfl fun L ac w1 hJ hl hc ho hd => ?_
              have s0 : ac.eval (.tmp 0) = .slice (some ⟨ga, oa, none⟩) n c := ho 0 rfl
              exact ⟨_, x_move (.tmp 0) rfl s0, rfl⟩
            · refine opS_same rfl rfl fun L ac w1 hJ hl hc ho hd => ?_
              have s5 : ac.eval (.tmp 5) = .int .i64 (k : Int) := ho 5 rfl
              exact ⟨_, x_move (.tmp 5) rfl s5, rfl⟩
            · refine opS_same rfl rfl fun L ac w1 hJ hl hc ho hd => ?_
              have d0 : ac.eval (.tmp 18) = .slice (some ⟨ga, oa, none⟩) n c := hd 0 _ _ rfl rfl rfl
              have d1 : ac.eval (.tmp 19) = .int .i64 (k : Int) := hd 1 _ _ rfl rfl rfl
              exact ⟨_, x_index 25 (.tmp 18) (.tmp 19) rfl d0 d1 (run_indexT (s := 3) Try.underlying25 (sz41 _) hkn), by rw [add_flat]; rfl⟩
            · refine opS_same rfl rfl fun L ac w1 hJ hl hc ho hd => ?_
              have d2 : ac.eval (.tmp 20) = .pointer (some ⟨ga, oa + k * 3, none⟩) := hd 2 _ _ rfl rfl rfl
              obtain ⟨_, _, hU⟩ := hJ
              exact ⟨_, x_load 43 (.tmp 20) rfl d2 (run_load41 (cell_up X0.out hU) (cell_up X1.out hU) (cell_up X2.out hU)), rfl⟩
            · refine opS_same rfl rfl fun L ac w1 hJ hl hc ho hd => ?_
              have s1 : ac.eval (.tmp 1) = .slice (some ⟨gb, ob, none⟩) m d := ho 1 rfl
              exact ⟨_, x_move (.tmp 1) rfl s1, rfl⟩
            · refine opS_same rfl rfl fun L ac w1 hJ hl hc ho hd => ?_
              have s5 : ac.eval (.tmp 5) = .int .i64 (k : Int) := ho 5 rfl
              exact ⟨_, x_move (.tmp 5) rfl s5, rfl⟩
            · refine opS_same rfl rfl fun L ac w1 hJ hl hc ho hd => ?_
              have d4 : ac.eval (.tmp 22) = .slice (some ⟨gb, ob, none⟩) m d := hd 4 _ _ rfl rfl rfl
              have d5 : ac.eval (.tmp 23) = .int .i64 (k : Int) := hd 5 _ _ rfl rfl rfl
              exact ⟨_, x_index 25 (.tmp 22) (.tmp 23) rfl d4 d5 (run_indexT (s := 3) Try.underlying25 (sz41 _) hkm), by rw [add_flat]; rfl⟩
            · refine opS_same rfl rfl fun L ac w1 hJ hl hc ho hd => ?_
              have d6 : ac.eval (.tmp 24) = .pointer (some ⟨gb, ob + k * 3, none⟩) := hd 6 _ _ rfl rfl rfl
              obtain ⟨_, _, hU⟩ := hJ
              exact ⟨_, x_load 43 (.tmp 24) rfl d6 (run_load41 (cell_up Y0.out hU) (cell_up Y1.out hU) (cell_up Y2.out hU)), rfl⟩
            · refine opS_callUp rfl rfl (fun k wa wb h hu => Up.trans h hu) (facts_keep HK) fun L ac w1 hJ hl hc ho hd => ?_
              have d3 : ac.eval (.tmp 21) = chV x.ty x.fl (.slice x.A x.n x.c) := hd 3 _ _ rfl rfl rfl
              have d7 : ac.eval (.tmp 25) = chV y.ty y.fl (.slice y.A y.n y.c) := hd 7 _ _ rfl rfl rfl
              obtain ⟨_, _, hU⟩ := hJ
              refine ⟨39, _, x_fcall 39 [.tmp 21, .tmp 25] _ rfl (by kernel_rfl), ?_⟩
              simp only [List.map_cons, List.map_nil, d3, d7]
              refine (sameC x.pure y.pure x.A y.A x.n y.n x.c y.c w1 (HX.out.inb.up hU) (HY.out.inb.up hU)).mono fun e w2 ⟨he, hu⟩ => ⟨_, he, hu.out, ?_⟩
              rw [HEQ.out]; rfl
            · refine opS_same rfl rfl fun L ac w1 hJ hl hc ho hd => ?_
              have d8 : ac.eval (.tmp 26) = .bool false := hd 8 _ _ rfl rfl rfl
              exact ⟨_, x_not 4 (.tmp 26) rfl d8, rfl⟩
          · intro L a1 w9 hI hall
            obtain ⟨j, hj, hU⟩ := hI.done hall (by simp)
            have HU9 := Lib.hid (hu.out.trans hU)
            clear hj hU j HK
            have l0 : a1.tmps.getD 0 undef = Value.slice (some { block := ga, off := oa }) n c := hI.old 0 rfl
            have l1 : a1.tmps.getD 1 undef = Value.slice (some { block := gb, off := ob }) m d := hI.old 1 rfl
            have l2 : a1.tmps.getD 2 undef = undef := hI.old 2 rfl
            have l3 : a1.tmps.getD 3 undef = undef := hI.old 3 rfl
            have l5 : a1.tmps.getD 5 undef = Value.int IntKind.i64 ↑k := hI.old 5 rfl
            have l6 : a1.tmps.getD 6 undef = Value.int IntKind.i64 ↑k := hI.old 6 rfl
            have l7 : a1.tmps.getD 7 undef = Value.slice (some { block := ga, off := oa }) n c := hI.old 7 rfl
            have l8 : a1.tmps.getD 8 undef = Value.int IntKind.i64 ↑n := hI.old 8 rfl
            have l9 : a1.tmps.getD 9 undef = Value.bool true := hI.old 9 rfl
            have l10 : a1.tmps.getD 10 undef = Value.bool true := hI.old 10 rfl
            have l11 : a1.tmps.getD 11 undef = Value.int IntKind.i64 ↑k := hI.old 11 rfl
            have l12 : a1.tmps.getD 12 undef = Value.slice (some { block := gb, off := ob }) m d := hI.old 12 rfl
            have l13 : a1.tmps.getD 13 undef = Value.int IntKind.i64 ↑m := hI.old 13 rfl
            have l14 : a1.tmps.getD 14 undef = Value.bool true := hI.old 14 rfl
            have l15 : a1.tmps.getD 15 undef = Value.bool true := hI.old 15 rfl
            have l28 : a1.tmps.getD 28 undef = undef := hI.old 28 rfl
            have l29 : a1.tmps.getD 29 undef = undef := hI.old 29 rfl
            have l30 : a1.tmps.getD 30 undef = undef := hI.old 30 rfl
            have l31 : a1.tmps.getD 31 undef = undef := hI.old 31 rfl
            have l32 : a1.tmps.getD 32 undef = undef := hI.old 32 rfl
            have l27 : a1.tmps.getD 27 undef = .bool true := hI.get hall (i := 9) rfl rfl
            have hde : a1.defers = [] := hI.defers
            have hal := act_lit a1 33 hI.size
            clear hI
            simp only [List.range, List.range.loop, List.map_cons, List.map_nil] at hal
            rw [l0, l1, l2, l3, l5, l6, l7, l8, l9, l10, l11, l12, l13, l14, l15, l28, l29, l30, l31, l32, l27, hde] at hal
            generalize a1.tmps.getD 4 undef = tm4 at hal
            generalize a1.tmps.getD 16 undef = tm16 at hal
            generalize a1.tmps.getD 17 undef = tm17 at hal
            generalize a1.tmps.getD 18 undef = tm18 at hal
            generalize a1.tmps.getD 19 undef = tm19 at hal
            generalize a1.tmps.getD 20 undef = tm20 at hal
            generalize a1.tmps.getD 21 undef = tm21 at hal
            generalize a1.tmps.getD 22 undef = tm22 at hal
            generalize a1.tmps.getD 23 undef = tm23 at hal
            generalize a1.tmps.getD 24 undef = tm24 at hal
            generalize a1.tmps.getD 25 undef = tm25 at hal
            generalize a1.tmps.getD 26 undef = tm26 at hal
            clear l0 l1 l2 l3 l5 l6 l7 l8 l9 l10 l11 l12 l13 l14 l15 l28 l29 l30 l31 l32 l27 hde
            subst hal
            go_wp2_with fail
            go_ret
            exact ⟨by rw [HE2.out]; rfl, HU9⟩
      · obtain rfl : k = m := by omega
        have d2 : decide ((k : Int) < (k : Int)) = false := by simp
        have HE2 := Lib.hid (show decide (la.map ChB.pure = lb.map ChB.pure) = false from decide_eq_false fun e => by have := (eqL_take HLA.out HLB.out he.out (.inr rfl) hk hk2).1 e; omega)
        have d3 : ((n : Int) == (k : Int)) = false := by rw [beq_eq_false_iff_ne]; omega
        go_wp2_with fail
        go_ret
        exact ⟨by rw [HE2.out]; rfl, hu⟩
    · obtain rfl : k = n := by omega
      have d1 : decide ((k : Int) < (k : Int)) = false := by simp
      by_cases hkm : k = m
      · subst hkm
        have HE2 := Lib.hid (show decide (la.map ChB.pure = lb.map ChB.pure) = true from decide_eq_true ((eqL_take HLA.out HLB.out he.out (.inl rfl) hk hk2).2 rfl))
        have d3 : ((k : Int) == (k : Int)) = true := by simp
        go_wp2_with fail
        go_ret
        exact ⟨by rw [HE2.out]; rfl, hu⟩
      · have HE2 := Lib.hid (show decide (la.map ChB.pure = lb.map ChB.pure) = false from decide_eq_false fun e => by have := (eqL_take HLA.out HLB.out he.out (.inl rfl) hk hk2).1 e; omega)
        have d3 : ((k : Int) == (m : Int)) = false := by rw [beq_eq_false_iff_ne]; omega
        go_wp2_with fail
        go_ret
        exact ⟨by rw [HE2.out]; rfl, hu⟩
end Go.Proofs.Ytjdcglioppbfhaa
namespace Go.Proofs.Ytjdcglioppbfhaa
open Go Go.RowKit
set_option linter.unusedVariables false
set_option linter.unusedSimpArgs false
/-! The reference's SameHeard. -/
theorem takeN {α : Type} {l : List α} {k : Nat} {x : α} (h : l[k]? = some x) : l.take (k + 1) = l.take k ++ [x] := by
  obtain ⟨hl, he⟩ := List.getElem?_eq_some_iff.1 h
  rw [List.take_succ_eq_append_getElem hl, he]
end Go.Proofs.Ytjdcglioppbfhaa
namespace Go.Proofs.Ytjdcglioppbfhaa
open Go Go.RowKit
set_option linter.unusedVariables false
set_option linter.unusedSimpArgs false
/-! slices.ContainsFunc at the chunks, and whether a packet may be. -/
/-- An index is answered, or -1. -/
def IdxPost (b : Bool) (w : World) (e : Ending) (w' : World) : Prop := ∃ r : Int, e = .returned (.int .i64 r) ∧ Hid (decide (0 ≤ r) = b) ∧ Hid (Up w w')
theorem any_take {α : Type} {p : α → Bool} {l : List α} {k : Nat} {x : α} (h : l[k]? = some x) : (l.take (k + 1)).any p = ((l.take k).any p || p x) := by rw [takeN h, List.any_append]; simp
theorem any_at {α : Type} {p : α → Bool} {l : List α} {k : Nat} {x : α} (h : l[k]? = some x) (hp : p x = true) : l.any p = true := List.any_eq_true.2 ⟨x, List.mem_of_getElem? h, hp⟩
set_option maxRecDepth 100000 in
theorem idx_any (A0 : Option Addr) (n0 cap0 : Nat) (A : Option Addr) (n c : Nat) (l : List ChB) (f t g : Int) (q : Nat) (w : World) (h : InL w A0 n0 cap0 l) (hn : n0 ≤ 140737488351232) (hq : w.heap[q]? = some (.cells (pkC f t g (.slice A n c)) 27 (0, 0))) :
    Calls Try.prog 52 #[.slice A0 n0 cap0, .func (.func 33) #[] #[.pointer (some ⟨q, 0, none⟩)]] w (IdxPost (l.any fun x => Pk.badB n g x.ty) w) := by
  have H := Lib.hid h
  have HQ := Lib.hid hq
  have HL := Lib.hid h.len
  have hcap := h.cap
  clear h hq
  go_enter Try.func52, Try.ntmps52
  go_wp2_with fail
  go_loopw [8] (fun i wr => ∃ k : Nat, k ≤ n0 ∧ i = .int .i64 (k : Int) ∧ Hid ((l.take k).any (fun x => Pk.badB n g x.ty) = false) ∧ Hid (Up w wr)) (fun i _ => n0 - (intOf i).toNat)
  case atStart => exact ⟨0, Nat.zero_le _, rfl, Lib.hid (by simp), Lib.hid (Up.refl _)⟩
  case round =>
    obtain ⟨k, hk, rfl, hA, hU⟩ := hrel
    by_cases hlt : k < n0
    · obtain ⟨x, ga, o, hx, rfl, k0, k1, k2, hci⟩ := (H.out.up hU.out).at_ hlt
      have HX := Lib.hid hx
      have HQ1 := Lib.hid ((hU.out.block _ (lt_of_blk HQ.out)).trans HQ.out)
      clear hx hci
      go_wp2_with fail
      refine (bad_any x.ty x.fl _ f t g A n c q wr HQ1.out).mono ?_
      rintro e w1 ⟨rfl, hu⟩
      have HU1 := Lib.hid (hU.out.trans hu.out)
      clear hu k0 k1 k2
      cases hb : Pk.badB n g x.ty
      · have HB := Lib.hid hb
        clear hb
        go_wp2_with fail
        go_roundw
        case rel => exact ⟨k + 1, by omega, by go_num, Lib.hid (by rw [any_take HX.out, hA.out, HB.out]; rfl), HU1⟩
        case measure => simp [intOf]; omega
      · have HB := Lib.hid hb
        clear hb
        go_wp2_with fail
        go_ret
        exact ⟨_, rfl, Lib.hid (by rw [any_at HX.out HB.out]; simp), HU1⟩
    · obtain rfl : k = n0 := by omega
      go_wp2_with fail
      go_ret
      exact ⟨_, rfl, Lib.hid (by have := hA.out; rw [List.take_of_length_le (by rw [HL.out]; exact Nat.le_refl _)] at this; rw [this]; rfl), hU⟩
set_option maxRecDepth 100000 in
theorem cont_any (A0 : Option Addr) (n0 cap0 : Nat) (A : Option Addr) (n c : Nat) (l : List ChB) (f t g : Int) (q : Nat) (w : World) (h : InL w A0 n0 cap0 l) (hn : n0 ≤ 140737488351232) (hq : w.heap[q]? = some (.cells (pkC f t g (.slice A n c)) 27 (0, 0))) :
    Calls Try.prog 34 #[.slice A0 n0 cap0, .func (.func 33) #[] #[.pointer (some ⟨q, 0, none⟩)]] w (RetB (l.any fun x => Pk.badB n g x.ty) w) := by
  have H := Lib.hid h
  have HQ := Lib.hid hq
  clear h hq
  go_enter Try.func34, Try.ntmps34
  go_wp2_with fail
  refine (idx_any A0 n0 cap0 A n c l f t g q w H.out hn HQ.out).mono ?_
  rintro e w1 ⟨r, rfl, hr, hu⟩
  go_wp2_with fail
  go_ret
  exact ⟨by rw [← hr.out]; rfl, hu⟩
def ChB.pkt (l : List ChB) (f t g : Int) : Pk.Pkt := ⟨f, t, g, l.map ChB.pure⟩
theorem any_pure (l : List ChB) (p : Int → Bool) : (l.map ChB.pure).any (fun c => p c.ty) = l.any fun x => p x.ty := by rw [List.any_map]; rfl
set_option maxRecDepth 100000 in
theorem sound_any (A : Option Addr) (n c : Nat) (l : List ChB) (f t g : Int) (w : World) (h : InL w A n c l) (hn : n ≤ 140737488351232) :
    Calls Try.prog 18 #[pkV f t g (.slice A n c)] w (RetB (Pk.soundB (ChB.pkt l f t g)) w) := by
  have hmf : ∀ (fn : Fn) (first cap : Array Value) (w : World), (Instr.makeFunc fn first cap).run Try.prog w = .ok (.func fn first cap) w := fun _ _ _ _ => rfl
  have H := Lib.hid h
  have HL := Lib.hid h.len
  have HN := Lib.hid (new_at w (.cells (pkC f t g (.slice A n c)) 27))
  have HU := Lib.hid (up_alloc w (.cells (pkC f t g (.slice A n c)) 27))
  have HG : Hid (Pk.soundB (ChB.pkt l f t g) = ((f != 0) && ((t != 0) && (decide (0 < n) && !(l.any fun x => Pk.badB n g x.ty))))) := Lib.hid (by
    unfold Pk.soundB ChB.pkt
    simp only [List.length_map, h.len]
    rw [any_pure l (fun k => Pk.badB n g k)])
  clear h
  rw [HG.out]
  unfold pkV pkC at *
  by_cases hf : f = 0
  · subst hf
    go_enter Try.func18, Try.ntmps18
    go_wp2_with fail
    go_ret
    exact ⟨rfl, HU⟩
  have df : (f != 0) = true := by simp [hf]
  clear hf
  by_cases ht : t = 0
  · subst ht
    rw [df]
    go_enter Try.func18, Try.ntmps18
    go_wp2_with fail
    go_ret
    exact ⟨rfl, HU⟩
  have dt : (t != 0) = true := by simp [ht]
  clear ht
  by_cases h0 : n = 0
  · subst h0
    rw [df, dt]
    go_enter Try.func18, Try.ntmps18
    go_wp2_with fail
    go_ret
    exact ⟨rfl, HU⟩
  have dn : decide ((0 : Int) < (n : Int)) = true := by simp; omega
  have hpos : 0 < n := by omega
  have HD := Lib.hid (show decide (0 < n) = true by simp; omega)
  clear h0
  rw [df, dt, HD.out]
  generalize hb : (l.any fun x => Pk.badB n g x.ty) = b
  have HB := Lib.hid hb
  clear hb
  go_enter Try.func18, Try.ntmps18
  go_wp2_with fail
  refine (cont_any A n c A n c l f t g w.heap.size _ (H.out.up HU.out) hn HN.out).mono ?_
  rintro e w1 ⟨rfl, hu⟩
  rw [HB.out]
  have HU1 := Lib.hid (HU.out.trans hu.out)
  go_wp2_with fail
  go_ret
  exact ⟨by cases b <;> rfl, HU1⟩
end Go.Proofs.Ytjdcglioppbfhaa
namespace Go.Proofs.Ytjdcglioppbfhaa
open Go Go.RowKit
set_option linter.unusedVariables false
set_option linter.unusedSimpArgs false
/-! The reference's SoundPacket, SamePacket. -/
set_option maxRecDepth 100000 in
theorem rsound_any (A : Option Addr) (n c : Nat) (l : List ChB) (f t g : Int) (w : World) (h : InL w A n c l) (hn : n ≤ 140737488351232) :
    Calls Try.prog 22 #[pkV f t g (.slice A n c)] w (RetB (Pk.soundB (ChB.pkt l f t g)) w) := by
  have H := Lib.hid h
  have HL := Lib.hid h.len
  have HN := Lib.hid (new_at w (.cells (pkC f t g (.slice A n c)) 27))
  have HU := Lib.hid (up_alloc w (.cells (pkC f t g (.slice A n c)) 27))
  have HG : Hid (Pk.soundB (ChB.pkt l f t g) = ((f != 0) && ((t != 0) && (decide (0 < n) && !(l.any fun x => Pk.badB n g x.ty))))) := Lib.hid (by
    unfold Pk.soundB ChB.pkt
    simp only [List.length_map, h.len]
    rw [any_pure l (fun k => Pk.badB n g k)])
  clear h
  rw [HG.out]
  unfold pkV pkC at *
  by_cases hf : f = 0
  · subst hf
    go_enter Try.func22, Try.ntmps22
    go_wp2_with fail
    go_ret
    exact ⟨rfl, HU⟩
  have df : (f != 0) = true := by simp [hf]
  have df' : (f == 0) = false := by rw [beq_eq_false_iff_ne]; exact hf
  clear hf
  by_cases ht : t = 0
  · subst ht
    rw [df]
    go_enter Try.func22, Try.ntmps22
    go_wp2_with fail
    go_ret
    exact ⟨rfl, HU⟩
  have dt : (t != 0) = true := by simp [ht]
  have dt' : (t == 0) = false := by rw [beq_eq_false_iff_ne]; exact ht
  clear ht
  by_cases h0 : n = 0
  · subst h0
    rw [df, dt]
    go_enter Try.func22, Try.ntmps22
    go_wp2_with fail
    go_ret
    exact ⟨rfl, HU⟩
  have dn : ((n : Int) == 0) = false := by rw [beq_eq_false_iff_ne]; omega
  have HD := Lib.hid (show decide (0 < n) = true by simp; omega)
  clear h0
  rw [df, dt, HD.out]
  clear df dt HD
  generalize hb : (l.any fun x => Pk.badB n g x.ty) = b
  have HB := Lib.hid hb
  clear hb
  go_enter Try.func22, Try.ntmps22
  go_upto_region 1 with (fail)
  have e0 : (w.alloc (.cells #[.int .u16 f, .int .u16 t, .int .u32 g, .slice A n c] 27)).cell? ⟨w.heap.size, 0, none⟩ = some (.int .u16 f) := cell_of HN.out rfl
  generalize hwa : w.alloc (.cells #[.int .u16 f, .int .u16 t, .int .u32 g, .slice A n c] 27) = wa at HN HU e0 ⊢
  have e1 : wa.cell? ⟨w.heap.size, 1, none⟩ = some (.int .u16 t) := cell_of HN.out rfl
  have e3 : wa.cell? ⟨w.heap.size, 3, none⟩ = some (.slice A n c) := cell_of HN.out rfl
  generalize hqq : w.heap.size = q at HN e0 e1 e3 ⊢
  clear hwa hqq
  go_wp2_with fail
  clear e0 e1 e3 df' dt' dn
  go_loopw [3] (fun i wr => ∃ k : Nat, k ≤ n ∧ i = .int .i64 (k : Int) ∧ Hid ((l.take k).any (fun x => Pk.badB n g x.ty) = false) ∧ Hid (Up wa wr)) (fun i _ => n - (intOf i).toNat)
  case atStart => exact ⟨0, Nat.zero_le _, rfl, Lib.hid (by simp), Lib.hid (Up.refl _)⟩
  case round =>
    obtain ⟨k, hk, rfl, hA, hU⟩ := hrel
    have HQ1 := Lib.hid ((hU.out.block _ (lt_of_blk HN.out)).trans HN.out)
    have y2 : wr.cell? ⟨q, 2, none⟩ = some (.int .u32 g) := cell_of HQ1.out rfl
    have y3 : wr.cell? ⟨q, 3, none⟩ = some (.slice A n c) := cell_of HQ1.out rfl
    have HV := Lib.hid (HU.out.trans hU.out)
    by_cases hlt : k < n
    · obtain ⟨x, ga, o, hx, rfl, k0, k1, k2, hci⟩ := ((H.out.up HU.out).up hU.out).at_ hlt
      have HX := Lib.hid hx
      clear hx hci
      go_wp2_with fail
      refine (ralone_any x.ty wr).mono ?_
      rintro e w1 ⟨rfl, rfl⟩
      clear k0 k1 k2
      have hdec : decide ((1 : Int) < (n : Int)) = decide (1 < n) := by rw [decide_eq_decide]; omega
      cases ha : Pk.aloneB x.ty <;> cases h1 : decide (1 < n) <;> cases h2 : (x.ty == 1) <;> cases h3 : (g == 0)
      all_goals
        have HBB := Lib.hid (show Pk.badB n g x.ty = _ by unfold Pk.badB; rw [ha, h1, h2, h3])
        rw [h1] at hdec
        clear ha
        first
        | (have HF := Lib.hid (HBB.out.trans (show _ = false from rfl))
           clear h1
           go_wp2_with fail
           go_roundw
           case rel => exact ⟨k + 1, by omega, by go_num, Lib.hid (by rw [any_take HX.out, hA.out, HF.out]; rfl), hU⟩
           case measure => simp [intOf]; omega)
        | (have HF := Lib.hid (HBB.out.trans (show _ = true from rfl))
           clear h1
           go_wp2_with fail
           go_ret
           exact ⟨by rw [← HB.out, any_at HX.out HF.out]; rfl, HV⟩)
    · obtain rfl : k = n := by omega
      have hA2 := Lib.hid (show l.any (fun x => Pk.badB k g x.ty) = false by have := hA.out; rwa [List.take_of_length_le (by rw [HL.out]; exact Nat.le_refl _)] at this)
      go_wp2_with fail
      go_ret
      exact ⟨by rw [← HB.out, hA2.out]; rfl, HV⟩
def samePB (p q : Pk.Pkt) : Bool := (p.src == q.src) && ((p.dst == q.dst) && ((p.tag == q.tag) && decide (p.chs = q.chs)))
theorem samePB_iff (p q : Pk.Pkt) : samePB p q = true ↔ p = q := by
  obtain ⟨a1, a2, a3, a4⟩ := p
  obtain ⟨b1, b2, b3, b4⟩ := q
  simp [samePB]
theorem samePB_eq {p q : Pk.Pkt} (h : p = q) : samePB p q = true := (samePB_iff p q).2 h
set_option maxRecDepth 100000 in
theorem samePk (l1 l2 : List ChB) (A1 A2 : Option Addr) (n1 c1 n2 c2 : Nat) (f t g f' t' g' : Int) (w : World) (h1 : InL w A1 n1 c1 l1) (h2 : InL w A2 n2 c2 l2) (hn1 : n1 ≤ 140737488351232) (hn2 : n2 ≤ 140737488351232) :
    Calls Try.prog 10 #[pkV f t g (.slice A1 n1 c1), pkV f' t' g' (.slice A2 n2 c2)] w (RetB (samePB (ChB.pkt l1 f t g) (ChB.pkt l2 f' t' g')) w) := by
  have H1 := Lib.hid h1
  have H2 := Lib.hid h2
  have HU := Lib.hid ((up_alloc w (.cells (pkC f t g (.slice A1 n1 c1)) 27)).trans (up_alloc (w.alloc (.cells (pkC f t g (.slice A1 n1 c1)) 27)) (.cells (pkC f' t' g' (.slice A2 n2 c2)) 27)))
  have HG := Lib.hid (show samePB (ChB.pkt l1 f t g) (ChB.pkt l2 f' t' g') = ((f == f') && ((t == t') && ((g == g') && decide (l1.map ChB.pure = l2.map ChB.pure)))) from rfl)
  clear h1 h2
  rw [HG.out]
  unfold pkV pkC at *
  cases hf : (f == f')
  · go_enter Try.func10, Try.ntmps10
    go_wp2_with fail
    go_ret
    exact ⟨rfl, HU⟩
  cases ht : (t == t')
  · go_enter Try.func10, Try.ntmps10
    go_wp2_with fail
    go_ret
    exact ⟨rfl, HU⟩
  cases hg : (g == g')
  · go_enter Try.func10, Try.ntmps10
    go_wp2_with fail
    go_ret
    exact ⟨rfl, HU⟩
  go_enter Try.func10, Try.ntmps10
  go_wp2_with fail
  refine (sameL l1 l2 A1 A2 n1 c1 n2 c2 _ (H1.out.up HU.out) (H2.out.up HU.out) hn1 hn2).mono ?_
  rintro e w1 ⟨rfl, hu⟩
  have HU1 := Lib.hid (HU.out.trans hu.out)
  go_wp2_with fail
  go_ret
  exact ⟨by simp, HU1⟩
end Go.Proofs.Ytjdcglioppbfhaa
