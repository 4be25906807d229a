import Derived.Test.YtghldkjbmfbdfaaDoorDcO
import Derived.Test.YtghldkjbmfbdfaaDoorDcJ1
namespace Go.Proofs.YtghldkjbmfbdfaaDoor
open Go Go.RowKit Dc
set_option linter.unusedVariables false
set_option linter.unusedSimpArgs false
/-! The law DictKeeps. -/
def aK (xs : List Int) : Av.Avp := ⟨9, 0, true, false, xs⟩
theorem judge_keep (xs : List Int) : judge [] [aK xs] = (5001, [aK xs], 0) := by
  have hf : fault [] (([aK xs] : List Av.Avp).take 0) (aK xs) = 5001 := rfl
  rw [judge_hit (k := 0) (a := aK xs) rfl rfl (fun j b hj => absurd hj (by omega)) (by rw [hf]; decide), hf]
def rK : Ru := ⟨1, 0, 1, false, 2, 1⟩
theorem judge_rK (l : List Av.Avp) : judge [rK] l = (0, [], 2) := judge_bad (by decide)
theorem build38k (A : Option Addr) (n c : Nat) (w : World) : (Instr.build 38 #[(0, .int .u32 9), (2, .bool true), (4, .slice A n c)]).run Tryd.prog w = .ok (.agg #[.int .u32 9, .int .u32 0, .bool true, .bool false, .slice A n c]) w := by kernel_rfl
theorem run_ne3 {a b : Int} {t : Bool} (h : (a != b) = t) (w : World) : (binOp .neq 3 (.int .i64 a) (.int .i64 b)).run Tryd.prog w = .ok (.bool t) w := by
  subst h; simp [go_sem]
theorem run_ne24 {a b : Int} {t : Bool} (h : (a != b) = t) (w : World) : (binOp .neq 24 (.int .i64 a) (.int .i64 b)).run Tryd.prog w = .ok (.bool t) w := by
  subst h; simp [go_sem]
theorem run_eq24 {a b : Int} {t : Bool} (h : (a == b) = t) (w : World) : (binOp .eql 24 (.int .i64 a) (.int .i64 b)).run Tryd.prog w = .ok (.bool t) w := by
  subst h; simp [go_sem]
theorem run_eqs (s : ByteArray) (w : World) : (binOp .eql 9 (.string s) (.string s)).run Tryd.prog w = .ok (.bool true) w := by
  simp [go_sem]
def inc8 (b : Int) : Int := if b = 255 then 0 else b + 1
theorem run_inc5 (b : Int) (h : 0 ≤ b ∧ b < 256) (w : World) : (binOp .add 5 (.int .u8 b) (.int .u8 1)).run Tryd.prog w = .ok (.int .u8 (inc8 b)) w := by
  unfold inc8
  split
  · rename_i e; subst e; simp [go_sem, IntKind.wrap, IntKind.bits, IntKind.signed]
  · simp [go_sem, IntKind.wrap, IntKind.bits, IntKind.signed]; omega
theorem byt_set {xs : List Int} (h : Byt xs) (i : Nat) {v : Int} (hv : 0 ≤ v ∧ v < 256) : Byt (xs.set i v) := fun x hx => by
  rcases List.mem_or_eq_of_mem_set hx with h1 | h1
  · exact h x h1
  · rw [h1]; exact hv
theorem own_blk {k : IntKind} {E : TypeId} {B : Nat} {w : World} {A : Option Addr} {n c : Nat} {xs : List Int} (h : OwnI k E B w A n c xs) (h0 : 0 < n) : ∃ g cs, A = some ⟨g, 0, none⟩ ∧ B ≤ g ∧ w.heap[g]? = some (.cells cs E (0, 0)) ∧ n ≤ cs.size := by
  rcases h.2 with ⟨h1, h2⟩ | ⟨g, cap, cur, hv, hg, hh, hnc, h63, hsz, _⟩
  · omega
  · injection hv with e1 e2 e3
    exact ⟨g, cur, e1, hg, hh, by rw [hsz]; omega⟩
set_option maxRecDepth 100000 in
set_option maxHeartbeats 8000000 in
theorem law_keeps (A : Option Addr) (n c : Nat) (xs : List Int) (w : World) (h : InB w A n c xs) (hT : Tab w) (hn : n ≤ 140737488351232) : Calls Tryd.prog 8 #[.slice A n c] w (RetB true w) := by
  have H := Lib.hid h
  have HT := Lib.hid hT
  have HLx := Lib.hid h.len
  have hcap := h.cap
  clear h hT
  go_enter Tryd.func8, Tryd.ntmps8
  go_upto_region 3 with (at_builtin; refine wpList_appendI rfl (.tmp 12) (.tmp 13) 22 rfl .u8 w.heap.size 5 1 Tryd.underlying22 info5 (some ⟨w.heap.size, 0, none⟩) 0 0 [] rfl (ownI_new _ _ _) A n c xs rfl H.out.len (H.out.cells.alloc _) (by omega) (by omega) (by simp) ((Below.refl _ _).alloc (Nat.le_refl _) _) ?_; intro A3 N3 c3 w3 HN3 HW3 HB3 hsz3; have hbu := build38k A3 N3 c3 w3; have hbs := bslice1 9 0 true false A3 N3 c3 w3)
  obtain rfl : n = N3 := by have := HN3.out; omega
  have HO3 := Lib.hid (show OwnI .u8 5 w.heap.size w3 A3 n c3 xs by have h1 := HW3.out; rw [List.nil_append] at h1; exact h1)
  have HU3 := Lib.hid (show Up w w3 from HB3.out)
  have HU4 := Lib.hid (HU3.out.trans (up_alloc w3 (.cells #[.int .u32 9, .int .u32 0, .bool true, .bool false, .slice A3 n c3] 38)))
  have HI4 := Lib.hid (inL_one (w := w3.alloc (.cells #[.int .u32 9, .int .u32 0, .bool true, .bool false, .slice A3 n c3] 38)) (q := w3.heap.size) (x := ⟨9, 0, true, false, A3, n, c3, xs⟩) (new_at _ _) ⟨(own_inB HO3.out H.out.byt).up (up_alloc _ _), ⟨by show (0 : Int) ≤ 9 ∧ (9 : Int) < 4294967296; omega, by show (0 : Int) ≤ 0 ∧ (0 : Int) < 4294967296; omega, H.out.byt⟩, hn⟩)
  have HQ4 := Lib.hid (new_at w3 (.cells #[.int .u32 9, .int .u32 0, .bool true, .bool false, .slice A3 n c3] 38))
  have HB3I := Lib.hid ((own_inB HO3.out H.out.byt).up (up_alloc w3 (.cells #[.int .u32 9, .int .u32 0, .bool true, .bool false, .slice A3 n c3] 38)))
  clear hbu hbs HW3 HB3 hsz3 HN3 HU3 HO3
  generalize w3.alloc (.cells #[.int .u32 9, .int .u32 0, .bool true, .bool false, .slice A3 n c3] 38) = w4 at HU4 HI4 HQ4 HB3I ⊢
  generalize w3.heap.size = q4 at HI4 HQ4 ⊢
  go_wp2_with fail
  have hj := judge_any none 0 0 [] (some ⟨q4, 0, none⟩) 1 1 [⟨9, 0, true, false, A3, n, c3, xs⟩] w4 (inR_nil _) HI4.out (HT.out.up HU4.out) (by omega) (by omega)
  rw [show ([⟨9, 0, true, false, A3, n, c3, xs⟩] : List AvB).map AvB.pure = [aK xs] from rfl, judge_keep] at hj
  refine Calls.mono hj ?_
  rintro e1 w5 ⟨A6, n6, c6, out, rfl, hG, hM, hl, hU⟩
  obtain rfl : n6 = 1 := map_len hM.out hG.out.len
  obtain ⟨y, rfl⟩ : ∃ y, out = [y] := by
    have := hG.out.len
    match out, this with
    | [y], _ => exact ⟨y, rfl⟩
  have HYB := Lib.hid (show y.bs = xs by have h1 : [y].map AvB.pure = [aK xs] := hM.out; have h2 : y.pure = aK xs := (by simpa using h1); exact congrArg Av.Avp.bs h2)
  obtain ⟨y', g6, o6, hy', rfl, k0, k1, k2, k3, k4, hyi⟩ := hG.out.inL.at_ (k := 0) (by omega)
  obtain rfl : y = y' := by simpa using hy'
  rw [Nat.zero_mul, Nat.add_zero] at k4
  have HYI := Lib.hid hyi
  have HYO := Lib.hid (hG.out.av y (by simp)).1.own
  have HYN := Lib.hid (show y.n = n by rw [← HYI.out.inb.len, HYB.out, HLx.out])
  have HYG := Lib.hid (show ∀ t, blk? y.A = some t → t ≠ g6 from fun t ht e => (hG.out.av y (by simp)).2 t ht (by rw [e]; rfl))
  have HK4 := Lib.hid k4
  have HG6 := Lib.hid (show w4.heap.size ≤ g6 from (hG.out.lt (k := g6) rfl).1)
  have HU5 := Lib.hid (HU4.out.trans hU.out)
  have HV5 := Lib.hid hU.out
  have HCV := Lib.hid (show ∀ wx, Up w5 wx → (convert 22 9 (.slice y.A y.n y.c)).run Tryd.prog wx = .ok (.string (strOfNums xs)) wx from fun wx hU => by have h1 := conv_up HYI.out.inb hU; rw [HYB.out] at h1; exact h1)
  have HI4b := HI4
  clear hj hM hl hU hy' k0 k1 k2 k3 k4 hyi HI4
  obtain ⟨YA, hYA⟩ : ∃ YA, y.A = YA := ⟨_, rfl⟩
  obtain ⟨yc, hyc⟩ : ∃ yc, y.c = yc := ⟨_, rfl⟩
  rw [HYN.out, hYA, hyc] at HYO HK4 HCV
  rw [hYA] at HYG
  rw [HYB.out] at HYO
  clear hYA hyc HYI HYB HYN hG
  go_upto_region 4 with (fail)
  have HK : ∀ φ ∈ [Is (.bool true), Is (.bool false), Is (.bool false), Is (.int .i64 5001), Is (.bool false), Is (.bool false), Is (.bool false), Is (.int .i64 0), Is (.bool false), Is (.bool false), Is (.bool false), Is (.slice (some ⟨g6, o6, none⟩) 1 c6), Is (.int .i64 ((1 : Nat) : Int)), Is (.bool false), Is (.bool false), Is (.bool false), Is (.slice (some ⟨g6, o6, none⟩) 1 c6), Is (.pointer (some ⟨g6, o6, none⟩)), Is (.pointer (some ⟨g6, o6 + 4, none⟩)), Is (.slice YA n yc), Is (.string (strOfNums xs)), Is (.slice A n c), Is (.string (strOfNums xs)), Is (.bool false), Is (.bool false)], Keeps φ := by
    simp [keeps_is]
  refine staged_lit (by kernel_rfl) (facts [Is (.bool true), Is (.bool false), Is (.bool false), Is (.int .i64 5001), Is (.bool false), Is (.bool false), Is (.bool false), Is (.int .i64 0), Is (.bool false), Is (.bool false), Is (.bool false), Is (.slice (some ⟨g6, o6, none⟩) 1 c6), Is (.int .i64 ((1 : Nat) : Int)), Is (.bool false), Is (.bool false), Is (.bool false), Is (.slice (some ⟨g6, o6, none⟩) 1 c6), Is (.pointer (some ⟨g6, o6, none⟩)), Is (.pointer (some ⟨g6, o6 + 4, none⟩)), Is (.slice YA n yc), Is (.string (strOfNums xs)), Is (.slice A n c), Is (.string (strOfNums xs)), Is (.bool false), Is (.bool false)]) (Stg [] (fun _ x => Up w5 x)) 92 rfl (by decide +kernel) (by decide +kernel) (Stg.start (Up.drew w5)) ?_ ?_
  · refine ⟨?_, ?_, ?_, ?_, ?_, ?_, ?_, ?_, ?_, ?_, ?_, ?_, ?_, ?_, ?_, ?_, ?_, ?_, ?_, ?_, ?_, ?_, ?_, ?_, ?_, trivial⟩
    · refine opS_callUp rfl rfl (fun k wx wy h hu => Up.trans h hu) (facts_keep HK) fun L ac wx hJ hl hc ho hd => ?_
      obtain ⟨_, _, hU⟩ := hJ
      refine ⟨14, _, x_fcall 14 [] _ rfl (by kernel_rfl), ?_⟩
      simp only [List.map_nil]
      exact (answers_any wx (HT.out.up (Up.trans HU5.out hU))).mono fun e w2 ⟨he, hu⟩ => ⟨_, he, hu, rfl⟩
    · refine opS_same rfl rfl fun Lx ac w1 hJ hl hc ho hd => ?_
      have d0 : ac.eval (.tmp 24) = .bool true := hd 0 _ _ rfl rfl rfl
      exact ⟨_, x_not 4 (.tmp 24) rfl d0, rfl⟩
    · refine opS_same rfl rfl fun Lx ac w1 hJ hl hc ho hd => ?_
      have d1 : ac.eval (.tmp 25) = .bool false := hd 1 _ _ rfl rfl rfl
      exact ⟨_, x_move (.tmp 25) rfl d1, rfl⟩
    · refine opS_sameG 2 false _ _ rfl rfl rfl rfl (fun _ _ h => h) rfl fun Lx ac w1 hJ hl hc ho hd => ?_
      have s5 : ac.eval (.tmp 5) = .int .i64 5001 := ho 5 rfl
      exact ⟨_, x_move (.tmp 5) rfl s5, rfl⟩
    · refine opS_sameG 2 false _ _ rfl rfl rfl rfl (fun _ _ h => h) rfl fun Lx ac w1 hJ hl hc ho hd => ?_
      have d3 : ac.eval (.tmp 27) = .int .i64 5001 := hd 3 _ _ rfl rfl rfl
      exact ⟨_, x_bin .neq 3 3 (.tmp 27) (.const (.int .i64 5001)) rfl d3 rfl (by kernel_rfl) (run_ne3 (by decide) _), rfl⟩
    · refine opS_same rfl rfl fun Lx ac w1 hJ hl hc ho hd => ?_
      have d2 : ac.eval (.tmp 26) = .bool false := hd 2 _ _ rfl rfl rfl
      have d4 : ac.eval (.tmp 28) = .bool false := hd 4 _ _ rfl rfl rfl
      exact ⟨_, x_pick (.tmp 26) (.const (.bool true)) (.tmp 28) (b := false) (X := .bool true) rfl d2 (fun h => absurd h (by decide)) (fun _ => d4), rfl⟩
    · refine opS_same rfl rfl fun Lx ac w1 hJ hl hc ho hd => ?_
      have d5 : ac.eval (.tmp 29) = .bool false := hd 5 _ _ rfl rfl rfl
      exact ⟨_, x_move (.tmp 29) rfl d5, rfl⟩
    · refine opS_sameG 6 false _ _ rfl rfl rfl rfl (fun _ _ h => h) rfl fun Lx ac w1 hJ hl hc ho hd => ?_
      have s7 : ac.eval (.tmp 7) = .int .i64 0 := ho 7 rfl
      exact ⟨_, x_move (.tmp 7) rfl s7, rfl⟩
    · refine opS_sameG 6 false _ _ rfl rfl rfl rfl (fun _ _ h => h) rfl fun Lx ac w1 hJ hl hc ho hd => ?_
      have d7 : ac.eval (.tmp 31) = .int .i64 0 := hd 7 _ _ rfl rfl rfl
      exact ⟨_, x_bin .neq 24 24 (.tmp 31) (.const (.int .i64 0)) rfl d7 rfl (by kernel_rfl) (run_ne24 (by decide) _), rfl⟩
    · refine opS_same rfl rfl fun Lx ac w1 hJ hl hc ho hd => ?_
      have d6 : ac.eval (.tmp 30) = .bool false := hd 6 _ _ rfl rfl rfl
      have d8 : ac.eval (.tmp 32) = .bool false := hd 8 _ _ rfl rfl rfl
      exact ⟨_, x_pick (.tmp 30) (.const (.bool true)) (.tmp 32) (b := false) (X := .bool true) rfl d6 (fun h => absurd h (by decide)) (fun _ => d8), rfl⟩
    · refine opS_same rfl rfl fun Lx ac w1 hJ hl hc ho hd => ?_
      have d9 : ac.eval (.tmp 33) = .bool false := hd 9 _ _ rfl rfl rfl
      exact ⟨_, x_move (.tmp 33) rfl d9, rfl⟩
    · refine opS_sameG 10 false _ _ rfl rfl rfl rfl (fun _ _ h => h) rfl fun Lx ac w1 hJ hl hc ho hd => ?_
      have s6 : ac.eval (.tmp 6) = .slice (some ⟨g6, o6, none⟩) 1 c6 := ho 6 rfl
      exact ⟨_, x_move (.tmp 6) rfl s6, rfl⟩
    · refine opS_sameG 10 false _ _ rfl rfl rfl rfl (fun _ _ h => h) rfl fun Lx ac w1 hJ hl hc ho hd => ?_
      have d11 : ac.eval (.tmp 35) = .slice (some ⟨g6, o6, none⟩) 1 c6 := hd 11 _ _ rfl rfl rfl
      exact ⟨_, x_len (.tmp 35) 29 38 rfl Tryd.underlying29 d11, rfl⟩
    · refine opS_sameG 10 false _ _ rfl rfl rfl rfl (fun _ _ h => h) rfl fun Lx ac w1 hJ hl hc ho hd => ?_
      have d12 : ac.eval (.tmp 36) = .int .i64 ((1 : Nat) : Int) := hd 12 _ _ rfl rfl rfl
      exact ⟨_, x_bin .neq 3 3 (.tmp 36) (.const (.int .i64 1)) rfl d12 rfl (by kernel_rfl) (run_ne3 (by decide) _), rfl⟩
    · refine opS_same rfl rfl fun Lx ac w1 hJ hl hc ho hd => ?_
      have d10 : ac.eval (.tmp 34) = .bool false := hd 10 _ _ rfl rfl rfl
      have d13 : ac.eval (.tmp 37) = .bool false := hd 13 _ _ rfl rfl rfl
      exact ⟨_, x_pick (.tmp 34) (.const (.bool true)) (.tmp 37) (b := false) (X := .bool true) rfl d10 (fun h => absurd h (by decide)) (fun _ => d13), rfl⟩
    · refine opS_same rfl rfl fun Lx ac w1 hJ hl hc ho hd => ?_
      have d14 : ac.eval (.tmp 38) = .bool false := hd 14 _ _ rfl rfl rfl
      exact ⟨_, x_move (.tmp 38) rfl d14, rfl⟩
    · refine opS_sameG 15 false _ _ rfl rfl rfl rfl (fun _ _ h => h) rfl fun Lx ac w1 hJ hl hc ho hd => ?_
      have s6 : ac.eval (.tmp 6) = .slice (some ⟨g6, o6, none⟩) 1 c6 := ho 6 rfl
      exact ⟨_, x_move (.tmp 6) rfl s6, rfl⟩
    · refine opS_sameG 15 false _ _ rfl rfl rfl rfl (fun _ _ h => h) rfl fun Lx ac w1 hJ hl hc ho hd => ?_
      have d16 : ac.eval (.tmp 40) = .slice (some ⟨g6, o6, none⟩) 1 c6 := hd 16 _ _ rfl rfl rfl
      exact ⟨_, x_index 29 (.tmp 40) (.const (.int .i64 0)) rfl d16 rfl (idx29z _ _ _ _ (by omega) _), rfl⟩
    · refine opS_sameG 15 false _ _ rfl rfl rfl rfl (fun _ _ h => h) rfl fun Lx ac w1 hJ hl hc ho hd => ?_
      have d17 : ac.eval (.tmp 41) = .pointer (some ⟨g6, o6, none⟩) := hd 17 _ _ rfl rfl rfl
      exact ⟨_, x_field 38 (.tmp 41) 4 rfl d17 (fld384g _ _ _), rfl⟩
    · refine opS_sameG 15 false _ _ rfl rfl rfl rfl (fun _ _ h => h) rfl fun Lx ac w1 hJ hl hc ho hd => ?_
      have d18 : ac.eval (.tmp 42) = .pointer (some ⟨g6, o6 + 4, none⟩) := hd 18 _ _ rfl rfl rfl
      obtain ⟨_, _, hU⟩ := hJ
      exact ⟨_, x_load 22 (.tmp 42) rfl d18 (run_load1 agg22' (cell_up HK4.out hU)), rfl⟩
    · refine opS_sameG 15 false _ _ rfl rfl rfl rfl (fun _ _ h => h) rfl fun Lx ac w1 hJ hl hc ho hd => ?_
      have d19 : ac.eval (.tmp 43) = .slice YA n yc := hd 19 _ _ rfl rfl rfl
      obtain ⟨_, _, hU⟩ := hJ
      exact ⟨_, x_conv 22 9 (.tmp 43) rfl d19 (HCV.out _ hU), rfl⟩
    · refine opS_sameG 15 false _ _ rfl rfl rfl rfl (fun _ _ h => h) rfl fun Lx ac w1 hJ hl hc ho hd => ?_
      have s0 : ac.eval (.tmp 0) = .slice A n c := ho 0 rfl
      exact ⟨_, x_move (.tmp 0) rfl s0, rfl⟩
    · refine opS_sameG 15 false _ _ rfl rfl rfl rfl (fun _ _ h => h) rfl fun Lx ac w1 hJ hl hc ho hd => ?_
      have d21 : ac.eval (.tmp 45) = .slice A n c := hd 21 _ _ rfl rfl rfl
      obtain ⟨_, _, hU⟩ := hJ
      exact ⟨_, x_conv 22 9 (.tmp 45) rfl d21 (conv_up H.out (Up.trans HU5.out hU)), rfl⟩
    · refine opS_sameG 15 false _ _ rfl rfl rfl rfl (fun _ _ h => h) rfl fun Lx ac w1 hJ hl hc ho hd => ?_
      have d20 : ac.eval (.tmp 44) = .string (strOfNums xs) := hd 20 _ _ rfl rfl rfl
      have d22 : ac.eval (.tmp 46) = .string (strOfNums xs) := hd 22 _ _ rfl rfl rfl
      exact ⟨_, x_bin .neq 9 9 (.tmp 44) (.tmp 46) rfl d20 d22 (by kernel_rfl) (run_nes _ _), rfl⟩
    · refine opS_same rfl rfl fun Lx ac w1 hJ hl hc ho hd => ?_
      have d15 : ac.eval (.tmp 39) = .bool false := hd 15 _ _ rfl rfl rfl
      have d23 : ac.eval (.tmp 47) = .bool false := hd 23 _ _ rfl rfl rfl
      exact ⟨_, x_pick (.tmp 39) (.const (.bool true)) (.tmp 47) (b := false) (X := .bool true) rfl d15 (fun h => absurd h (by decide)) (fun _ => d23), rfl⟩
  · intro L1 a1 w6 hI hall
    obtain ⟨kq, hk, hUF⟩ := hI.done hall (by simp)
    have HUn := Lib.hid (show Up w5 w6 from hUF)
    clear hk hUF kq
    have l0 : a1.tmps.getD 0 undef = .slice A n c := hI.old 0 rfl
    have l2 : a1.tmps.getD 2 undef = .bool false := hI.old 2 rfl
    have l4 : a1.tmps.getD 4 undef = .slice (some ⟨q4, 0, none⟩) 1 1 := hI.old 4 rfl
    have l6 : a1.tmps.getD 6 undef = .slice (some ⟨g6, o6, none⟩) 1 c6 := hI.old 6 rfl
    have l48 : a1.tmps.getD 48 undef = .bool false := hI.get hall (i := 24) rfl rfl
    have hde : a1.defers = [] := hI.defers
    have hal := act_lit a1 92 hI.size
    clear hI
    simp only [List.range, List.range.loop, List.map_cons, List.map_nil] at hal
    rw [l0, l2, l4, l6, l48, hde] at hal
    generalize a1.tmps.getD 1 undef = t1 at hal
    generalize a1.tmps.getD 3 undef = t3 at hal
    generalize a1.tmps.getD 5 undef = t5 at hal
    generalize a1.tmps.getD 7 undef = t7 at hal
    generalize a1.tmps.getD 8 undef = t8 at hal
    generalize a1.tmps.getD 9 undef = t9 at hal
    generalize a1.tmps.getD 10 undef = t10 at hal
    generalize a1.tmps.getD 11 undef = t11 at hal
    generalize a1.tmps.getD 12 undef = t12 at hal
    generalize a1.tmps.getD 13 undef = t13 at hal
    generalize a1.tmps.getD 14 undef = t14 at hal
    generalize a1.tmps.getD 15 undef = t15 at hal
    generalize a1.tmps.getD 16 undef = t16 at hal
    generalize a1.tmps.getD 17 undef = t17 at hal
    generalize a1.tmps.getD 18 undef = t18 at hal
    generalize a1.tmps.getD 19 undef = t19 at hal
    generalize a1.tmps.getD 20 undef = t20 at hal
    generalize a1.tmps.getD 21 undef = t21 at hal
    generalize a1.tmps.getD 22 undef = t22 at hal
    generalize a1.tmps.getD 23 undef = t23 at hal
    generalize a1.tmps.getD 24 undef = t24 at hal
    generalize a1.tmps.getD 25 undef = t25 at hal
    generalize a1.tmps.getD 26 undef = t26 at hal
    generalize a1.tmps.getD 27 undef = t27 at hal
    generalize a1.tmps.getD 28 undef = t28 at hal
    generalize a1.tmps.getD 29 undef = t29 at hal
    generalize a1.tmps.getD 30 undef = t30 at hal
    generalize a1.tmps.getD 31 undef = t31 at hal
    generalize a1.tmps.getD 32 undef = t32 at hal
    generalize a1.tmps.getD 33 undef = t33 at hal
    generalize a1.tmps.getD 34 undef = t34 at hal
    generalize a1.tmps.getD 35 undef = t35 at hal
    generalize a1.tmps.getD 36 undef = t36 at hal
    generalize a1.tmps.getD 37 undef = t37 at hal
    generalize a1.tmps.getD 38 undef = t38 at hal
    generalize a1.tmps.getD 39 undef = t39 at hal
    generalize a1.tmps.getD 40 undef = t40 at hal
    generalize a1.tmps.getD 41 undef = t41 at hal
    generalize a1.tmps.getD 42 undef = t42 at hal
    generalize a1.tmps.getD 43 undef = t43 at hal
    generalize a1.tmps.getD 44 undef = t44 at hal
    generalize a1.tmps.getD 45 undef = t45 at hal
    generalize a1.tmps.getD 46 undef = t46 at hal
    generalize a1.tmps.getD 47 undef = t47 at hal
    generalize a1.tmps.getD 49 undef = t49 at hal
    generalize a1.tmps.getD 50 undef = t50 at hal
    generalize a1.tmps.getD 51 undef = t51 at hal
    generalize a1.tmps.getD 52 undef = t52 at hal
    generalize a1.tmps.getD 53 undef = t53 at hal
    generalize a1.tmps.getD 54 undef = t54 at hal
    generalize a1.tmps.getD 55 undef = t55 at hal
    generalize a1.tmps.getD 56 undef = t56 at hal
    generalize a1.tmps.getD 57 undef = t57 at hal
    generalize a1.tmps.getD 58 undef = t58 at hal
    generalize a1.tmps.getD 59 undef = t59 at hal
    generalize a1.tmps.getD 60 undef = t60 at hal
    generalize a1.tmps.getD 61 undef = t61 at hal
    generalize a1.tmps.getD 62 undef = t62 at hal
    generalize a1.tmps.getD 63 undef = t63 at hal
    generalize a1.tmps.getD 64 undef = t64 at hal
    generalize a1.tmps.getD 65 undef = t65 at hal
    generalize a1.tmps.getD 66 undef = t66 at hal
    generalize a1.tmps.getD 67 undef = t67 at hal
    generalize a1.tmps.getD 68 undef = t68 at hal
    generalize a1.tmps.getD 69 undef = t69 at hal
    generalize a1.tmps.getD 70 undef = t70 at hal
    generalize a1.tmps.getD 71 undef = t71 at hal
    generalize a1.tmps.getD 72 undef = t72 at hal
    generalize a1.tmps.getD 73 undef = t73 at hal
    generalize a1.tmps.getD 74 undef = t74 at hal
    generalize a1.tmps.getD 75 undef = t75 at hal
    generalize a1.tmps.getD 76 undef = t76 at hal
    generalize a1.tmps.getD 77 undef = t77 at hal
    generalize a1.tmps.getD 78 undef = t78 at hal
    generalize a1.tmps.getD 79 undef = t79 at hal
    generalize a1.tmps.getD 80 undef = t80 at hal
    generalize a1.tmps.getD 81 undef = t81 at hal
    generalize a1.tmps.getD 82 undef = t82 at hal
    generalize a1.tmps.getD 83 undef = t83 at hal
    generalize a1.tmps.getD 84 undef = t84 at hal
    generalize a1.tmps.getD 85 undef = t85 at hal
    generalize a1.tmps.getD 86 undef = t86 at hal
    generalize a1.tmps.getD 87 undef = t87 at hal
    generalize a1.tmps.getD 88 undef = t88 at hal
    generalize a1.tmps.getD 89 undef = t89 at hal
    generalize a1.tmps.getD 90 undef = t90 at hal
    generalize a1.tmps.getD 91 undef = t91 at hal
    clear l0 l2 l4 l6 l48 hde
    subst hal
    have HU6 := Lib.hid (HU5.out.trans HUn.out)
    have HV6 := Lib.hid (Up.trans HV5.out HUn.out)
    have HO6 := Lib.hid (own_up HYO.out HUn.out)
    have HK6 := Lib.hid (cell_up HK4.out HUn.out)
    clear HU5 HV5 HYO HK4 HUn HK HCV
    go_wp2_with fail
    go_loopw [8] (fun i wr => ∃ (j : Nat) (ys : List Int), j ≤ n ∧ i = .int .i64 (j : Int) ∧ Hid (OwnI .u8 5 w4.heap.size wr YA n yc ys) ∧ Hid (Byt ys) ∧ Hid (Out (fun t => blk? YA = some t) w6 wr)) (fun i _ => n - (intOf i).toNat)
    case atStart => exact ⟨0, xs, Nat.zero_le _, rfl, HO6, Lib.hid H.out.byt, Lib.hid (Out.refl _ _)⟩
    case round =>
      obtain ⟨j, ys, hj, rfl, hO, hB, hS⟩ := hrel
      have HKr := Lib.hid (show wr.cell? ⟨g6, o6 + 4, none⟩ = some (.slice YA n yc) from by
        have h1 : g6 < w6.heap.size := by
          have h2 := HK6.out
          simp only [World.cell?] at h2
          rcases Nat.lt_or_ge g6 w6.heap.size with h | h
          · exact h
          · rw [Array.getElem?_eq_none (by omega)] at h2; simp at h2
        rw [← HK6.out]; exact World.cell?_of_block (hS.out.block g6 h1 (fun e => HYG.out _ e rfl)))
      have k4 := HKr.out
      by_cases hjn : j < n
      · have d1 : decide ((j : Int) < (n : Int)) = true := decide_eq_true (by omega)
        obtain ⟨ga, cs, rfl, hga, hh, hcs⟩ := own_blk hO.out (by omega)
        have HHg := Lib.hid hh
        have HGA := Lib.hid hga
        have HBc := Lib.hid (byt_cell (own_inB hO.out hB.out) hjn)
        have HBB := Lib.hid (byt_byt hB.out j)
        obtain ⟨b, hb⟩ : ∃ b, byt ys j = b := ⟨_, rfl⟩
        rw [hb, Nat.zero_add] at HBc
        rw [hb] at HBB
        have HIN := Lib.hid (show 0 ≤ inc8 b ∧ inc8 b < 256 by have := HBB.out; unfold inc8; split <;> omega)
        clear hb hh hga
        go_upto_region 9 with (fail)
        clear k4
        have HK : ∀ φ ∈ [Is (.slice (some ⟨g6, o6, none⟩) 1 c6), Is (.pointer (some ⟨g6, o6, none⟩)), Is (.pointer (some ⟨g6, o6 + 4, none⟩)), Is (.slice (some ⟨ga, 0, none⟩) n yc), Is (.int .i64 (j : Int)), Is (.slice (some ⟨g6, o6, none⟩) 1 c6), Is (.pointer (some ⟨g6, o6, none⟩)), Is (.pointer (some ⟨g6, o6 + 4, none⟩)), Is (.slice (some ⟨ga, 0, none⟩) n yc), Is (.int .i64 (j : Int)), Is (.pointer (some ⟨ga, 0 + j, none⟩)), Is (.int .u8 b), Is (.int .u8 (inc8 b)), Is (.pointer (some ⟨ga, 0 + j, none⟩))], Keeps φ := by
          simp [keeps_is]
        refine staged_last (l := [_, _, _, _, _, _, _, _, _, _, _, _, _, _]) (by kernel_rfl) (facts [Is (.slice (some ⟨g6, o6, none⟩) 1 c6), Is (.pointer (some ⟨g6, o6, none⟩)), Is (.pointer (some ⟨g6, o6 + 4, none⟩)), Is (.slice (some ⟨ga, 0, none⟩) n yc), Is (.int .i64 (j : Int)), Is (.slice (some ⟨g6, o6, none⟩) 1 c6), Is (.pointer (some ⟨g6, o6, none⟩)), Is (.pointer (some ⟨g6, o6 + 4, none⟩)), Is (.slice (some ⟨ga, 0, none⟩) n yc), Is (.int .i64 (j : Int)), Is (.pointer (some ⟨ga, 0 + j, none⟩)), Is (.int .u8 b), Is (.int .u8 (inc8 b)), Is (.pointer (some ⟨ga, 0 + j, none⟩))]) (Stg [] (fun _ y => Up wr y)) 92 rfl (by decide +kernel) (by decide +kernel) (by decide +kernel) rfl (Stg.start (Up.drew wr)) ?_ ?_
        · refine ⟨?_, ?_, ?_, ?_, ?_, ?_, ?_, ?_, ?_, ?_, ?_, ?_, ?_, ?_, trivial⟩
          · refine opS_same rfl rfl fun Lx ac w1 hJ hl hc ho hd => ?_
            have s6 : ac.eval (.tmp 6) = .slice (some ⟨g6, o6, none⟩) 1 c6 := ho 6 rfl
            exact ⟨_, x_move (.tmp 6) rfl s6, rfl⟩
          · refine opS_same rfl rfl fun Lx ac w1 hJ hl hc ho hd => ?_
            have d0 : ac.eval (.tmp 58) = .slice (some ⟨g6, o6, none⟩) 1 c6 := hd 0 _ _ rfl rfl rfl
            exact ⟨_, x_index 29 (.tmp 58) (.const (.int .i64 0)) rfl d0 rfl (idx29z _ _ _ _ (by omega) _), rfl⟩
          · refine opS_same rfl rfl fun Lx ac w1 hJ hl hc ho hd => ?_
            have d1 : ac.eval (.tmp 59) = .pointer (some ⟨g6, o6, none⟩) := hd 1 _ _ rfl rfl rfl
            exact ⟨_, x_field 38 (.tmp 59) 4 rfl d1 (fld384g _ _ _), rfl⟩
          · refine opS_same rfl rfl fun Lx ac w1 hJ hl hc ho hd => ?_
            have d2 : ac.eval (.tmp 60) = .pointer (some ⟨g6, o6 + 4, none⟩) := hd 2 _ _ rfl rfl rfl
            obtain ⟨_, _, hU⟩ := hJ
            exact ⟨_, x_load 22 (.tmp 60) rfl d2 (run_load1 agg22' (cell_up HKr.out hU)), rfl⟩
          · refine opS_same rfl rfl fun Lx ac w1 hJ hl hc ho hd => ?_
            have s8 : ac.eval (.tmp 8) = .int .i64 (j : Int) := ho 8 rfl
            exact ⟨_, x_move (.tmp 8) rfl s8, rfl⟩
          · refine opS_same rfl rfl fun Lx ac w1 hJ hl hc ho hd => ?_
            have s6 : ac.eval (.tmp 6) = .slice (some ⟨g6, o6, none⟩) 1 c6 := ho 6 rfl
            exact ⟨_, x_move (.tmp 6) rfl s6, rfl⟩
          · refine opS_same rfl rfl fun Lx ac w1 hJ hl hc ho hd => ?_
            have d5 : ac.eval (.tmp 63) = .slice (some ⟨g6, o6, none⟩) 1 c6 := hd 5 _ _ rfl rfl rfl
            exact ⟨_, x_index 29 (.tmp 63) (.const (.int .i64 0)) rfl d5 rfl (idx29z _ _ _ _ (by omega) _), rfl⟩
          · refine opS_same rfl rfl fun Lx ac w1 hJ hl hc ho hd => ?_
            have d6 : ac.eval (.tmp 64) = .pointer (some ⟨g6, o6, none⟩) := hd 6 _ _ rfl rfl rfl
            exact ⟨_, x_field 38 (.tmp 64) 4 rfl d6 (fld384g _ _ _), rfl⟩
          · refine opS_same rfl rfl fun Lx ac w1 hJ hl hc ho hd => ?_
            have d7 : ac.eval (.tmp 65) = .pointer (some ⟨g6, o6 + 4, none⟩) := hd 7 _ _ rfl rfl rfl
            obtain ⟨_, _, hU⟩ := hJ
            exact ⟨_, x_load 22 (.tmp 65) rfl d7 (run_load1 agg22' (cell_up HKr.out hU)), rfl⟩
          · refine opS_same rfl rfl fun Lx ac w1 hJ hl hc ho hd => ?_
            have s8 : ac.eval (.tmp 8) = .int .i64 (j : Int) := ho 8 rfl
            exact ⟨_, x_move (.tmp 8) rfl s8, rfl⟩
          · refine opS_same rfl rfl fun Lx ac w1 hJ hl hc ho hd => ?_
            have d8 : ac.eval (.tmp 66) = .slice (some ⟨ga, 0, none⟩) n yc := hd 8 _ _ rfl rfl rfl
            have d9 : ac.eval (.tmp 67) = .int .i64 (j : Int) := hd 9 _ _ rfl rfl rfl
            exact ⟨_, x_index 22 (.tmp 66) (.tmp 67) rfl d8 d9 (idx5 ga 0 n yc j hjn _), rfl⟩
          · refine opS_same rfl rfl fun Lx ac w1 hJ hl hc ho hd => ?_
            have d10 : ac.eval (.tmp 68) = .pointer (some ⟨ga, 0 + j, none⟩) := hd 10 _ _ rfl rfl rfl
            obtain ⟨_, _, hU⟩ := hJ
            exact ⟨_, x_load 5 (.tmp 68) rfl d10 (run_load1 agg5 (by rw [Nat.zero_add]; exact cell_up HBc.out hU)), rfl⟩
          · refine opS_same rfl rfl fun Lx ac w1 hJ hl hc ho hd => ?_
            have d11 : ac.eval (.tmp 69) = .int .u8 b := hd 11 _ _ rfl rfl rfl
            exact ⟨_, x_bin .add 5 5 (.tmp 69) (.const (.int .u8 1)) rfl d11 rfl (by kernel_rfl) (run_inc5 _ HBB.out _), rfl⟩
          · refine opS_same rfl rfl fun Lx ac w1 hJ hl hc ho hd => ?_
            have d3 : ac.eval (.tmp 61) = .slice (some ⟨ga, 0, none⟩) n yc := hd 3 _ _ rfl rfl rfl
            have d4 : ac.eval (.tmp 62) = .int .i64 (j : Int) := hd 4 _ _ rfl rfl rfl
            exact ⟨_, x_index 22 (.tmp 61) (.tmp 62) rfl d3 d4 (idx5 ga 0 n yc j hjn _), rfl⟩
        · intro L1 a1 wd hI hall
          obtain ⟨_, _, hW⟩ := hI.world
          have p70 : a1.tmps.getD 70 undef = .int .u8 (inc8 b) := hI.facts 12 _ 70 rfl (hall 12 (by decide)) rfl
          have p71 : a1.tmps.getD 71 undef = .pointer (some ⟨ga, 0 + j, none⟩) := hI.facts 13 _ 71 rfl (hall 13 (by decide)) rfl
          rw [Nat.zero_add] at p71
          have hb := blk_up HHg.out hW
          have hst := run_store1 (P := Tryd.prog) sz5 (v := .int .u8 (inc8 b)) hb (show j < cs.size by omega) rfl rfl
          unfold Oper.wp
          rw [x_store 5 (.tmp 71) (.tmp 70) rfl p71 p70 hst]
          have HOe := Lib.hid (OwnI.stored (show OwnI .u8 5 w4.heap.size wd (some ⟨ga, 0, none⟩) n yc ys from own_up hO.out hW) j (inc8 b))
          have HSe := Lib.hid (Out.trans hS.out (Out.trans (Up.out hW (fun t => blk? (some (⟨ga, 0, none⟩ : Addr)) = some t)) ((setCell_out wd ga j (.int .u8 (inc8 b))).mono (fun t (ht : t = ga) => by rw [ht]; rfl)) (Sub.refl _ _)) (Sub.refl _ _))
          have HBe := Lib.hid (byt_set hB.out j HIN.out)
          clear hst hb p70 p71 hW
          have l0 : a1.tmps.getD 0 undef = .slice A n c := hI.old 0 rfl
          have l4 : a1.tmps.getD 4 undef = .slice (some ⟨q4, 0, none⟩) 1 1 := hI.old 4 rfl
          have l6 : a1.tmps.getD 6 undef = .slice (some ⟨g6, o6, none⟩) 1 c6 := hI.old 6 rfl
          have l8 : a1.tmps.getD 8 undef = .int .i64 (j : Int) := hI.old 8 rfl
          have l2 : a1.tmps.getD 2 undef = .bool false := hI.old 2 rfl
          have l1 : a1.tmps.getD 1 undef = t1 := hI.old 1 rfl
          have l3 : a1.tmps.getD 3 undef = t3 := hI.old 3 rfl
          have l5 : a1.tmps.getD 5 undef = t5 := hI.old 5 rfl
          have l7 : a1.tmps.getD 7 undef = t7 := hI.old 7 rfl
          have l9 : a1.tmps.getD 9 undef = t9 := hI.old 9 rfl
          have l10 : a1.tmps.getD 10 undef = t10 := hI.old 10 rfl
          have l11 : a1.tmps.getD 11 undef = t11 := hI.old 11 rfl
          have l12 : a1.tmps.getD 12 undef = t12 := hI.old 12 rfl
          have l13 : a1.tmps.getD 13 undef = t13 := hI.old 13 rfl
          have l14 : a1.tmps.getD 14 undef = t14 := hI.old 14 rfl
          have l15 : a1.tmps.getD 15 undef = t15 := hI.old 15 rfl
          have l16 : a1.tmps.getD 16 undef = t16 := hI.old 16 rfl
          have l17 : a1.tmps.getD 17 undef = t17 := hI.old 17 rfl
          have l18 : a1.tmps.getD 18 undef = t18 := hI.old 18 rfl
          have l19 : a1.tmps.getD 19 undef = t19 := hI.old 19 rfl
          have l20 : a1.tmps.getD 20 undef = t20 := hI.old 20 rfl
          have l21 : a1.tmps.getD 21 undef = t21 := hI.old 21 rfl
          have l22 : a1.tmps.getD 22 undef = t22 := hI.old 22 rfl
          have l23 : a1.tmps.getD 23 undef = t23 := hI.old 23 rfl
          have l24 : a1.tmps.getD 24 undef = t24 := hI.old 24 rfl
          have l25 : a1.tmps.getD 25 undef = t25 := hI.old 25 rfl
          have l26 : a1.tmps.getD 26 undef = t26 := hI.old 26 rfl
          have l27 : a1.tmps.getD 27 undef = t27 := hI.old 27 rfl
          have l28 : a1.tmps.getD 28 undef = t28 := hI.old 28 rfl
          have l29 : a1.tmps.getD 29 undef = t29 := hI.old 29 rfl
          have l30 : a1.tmps.getD 30 undef = t30 := hI.old 30 rfl
          have l31 : a1.tmps.getD 31 undef = t31 := hI.old 31 rfl
          have l32 : a1.tmps.getD 32 undef = t32 := hI.old 32 rfl
          have l33 : a1.tmps.getD 33 undef = t33 := hI.old 33 rfl
          have l34 : a1.tmps.getD 34 undef = t34 := hI.old 34 rfl
          have l35 : a1.tmps.getD 35 undef = t35 := hI.old 35 rfl
          have l36 : a1.tmps.getD 36 undef = t36 := hI.old 36 rfl
          have l37 : a1.tmps.getD 37 undef = t37 := hI.old 37 rfl
          have l38 : a1.tmps.getD 38 undef = t38 := hI.old 38 rfl
          have l39 : a1.tmps.getD 39 undef = t39 := hI.old 39 rfl
          have l40 : a1.tmps.getD 40 undef = t40 := hI.old 40 rfl
          have l41 : a1.tmps.getD 41 undef = t41 := hI.old 41 rfl
          have l42 : a1.tmps.getD 42 undef = t42 := hI.old 42 rfl
          have l43 : a1.tmps.getD 43 undef = t43 := hI.old 43 rfl
          have l44 : a1.tmps.getD 44 undef = t44 := hI.old 44 rfl
          have l45 : a1.tmps.getD 45 undef = t45 := hI.old 45 rfl
          have l46 : a1.tmps.getD 46 undef = t46 := hI.old 46 rfl
          have l47 : a1.tmps.getD 47 undef = t47 := hI.old 47 rfl
          have l48 : a1.tmps.getD 48 undef = .bool false := hI.old 48 rfl
          have l72 : a1.tmps.getD 72 undef = t72 := hI.old 72 rfl
          have l73 : a1.tmps.getD 73 undef = t73 := hI.old 73 rfl
          have l74 : a1.tmps.getD 74 undef = t74 := hI.old 74 rfl
          have l75 : a1.tmps.getD 75 undef = t75 := hI.old 75 rfl
          have l76 : a1.tmps.getD 76 undef = t76 := hI.old 76 rfl
          have l77 : a1.tmps.getD 77 undef = t77 := hI.old 77 rfl
          have l78 : a1.tmps.getD 78 undef = t78 := hI.old 78 rfl
          have l79 : a1.tmps.getD 79 undef = t79 := hI.old 79 rfl
          have l80 : a1.tmps.getD 80 undef = t80 := hI.old 80 rfl
          have l81 : a1.tmps.getD 81 undef = t81 := hI.old 81 rfl
          have l82 : a1.tmps.getD 82 undef = t82 := hI.old 82 rfl
          have l83 : a1.tmps.getD 83 undef = t83 := hI.old 83 rfl
          have l84 : a1.tmps.getD 84 undef = t84 := hI.old 84 rfl
          have l85 : a1.tmps.getD 85 undef = t85 := hI.old 85 rfl
          have l86 : a1.tmps.getD 86 undef = t86 := hI.old 86 rfl
          have l87 : a1.tmps.getD 87 undef = t87 := hI.old 87 rfl
          have l88 : a1.tmps.getD 88 undef = t88 := hI.old 88 rfl
          have l89 : a1.tmps.getD 89 undef = t89 := hI.old 89 rfl
          have l90 : a1.tmps.getD 90 undef = t90 := hI.old 90 rfl
          have l91 : a1.tmps.getD 91 undef = t91 := hI.old 91 rfl
          have hde : a1.defers = [] := hI.defers
          have hal := act_lit a1 92 hI.size
          clear hI
          simp only [List.range, List.range.loop, List.map_cons, List.map_nil] at hal
          rw [l0, l4, l6, l8, l2, l1, l3, l5, l7, l9, l10, l11, l12, l13, l14, l15, l16, l17, l18, l19, l20, l21, l22, l23, l24, l25, l26, l27, l28, l29, l30, l31, l32, l33, l34, l35, l36, l37, l38, l39, l40, l41, l42, l43, l44, l45, l46, l47, l48, l72, l73, l74, l75, l76, l77, l78, l79, l80, l81, l82, l83, l84, l85, l86, l87, l88, l89, l90, l91, hde] at hal
          generalize a1.tmps.getD 49 undef = t49 at hal
          generalize a1.tmps.getD 50 undef = t50 at hal
          generalize a1.tmps.getD 51 undef = t51 at hal
          generalize a1.tmps.getD 52 undef = t52 at hal
          generalize a1.tmps.getD 53 undef = t53 at hal
          generalize a1.tmps.getD 54 undef = t54 at hal
          generalize a1.tmps.getD 55 undef = t55 at hal
          generalize a1.tmps.getD 56 undef = t56 at hal
          generalize a1.tmps.getD 57 undef = t57 at hal
          generalize a1.tmps.getD 58 undef = t58 at hal
          generalize a1.tmps.getD 59 undef = t59 at hal
          generalize a1.tmps.getD 60 undef = t60 at hal
          generalize a1.tmps.getD 61 undef = t61 at hal
          generalize a1.tmps.getD 62 undef = t62 at hal
          generalize a1.tmps.getD 63 undef = t63 at hal
          generalize a1.tmps.getD 64 undef = t64 at hal
          generalize a1.tmps.getD 65 undef = t65 at hal
          generalize a1.tmps.getD 66 undef = t66 at hal
          generalize a1.tmps.getD 67 undef = t67 at hal
          generalize a1.tmps.getD 68 undef = t68 at hal
          generalize a1.tmps.getD 69 undef = t69 at hal
          generalize a1.tmps.getD 70 undef = t70 at hal
          generalize a1.tmps.getD 71 undef = t71 at hal
          clear l0 l4 l6 l8 l2 l1 l3 l5 l7 l9 l10 l11 l12 l13 l14 l15 l16 l17 l18 l19 l20 l21 l22 l23 l24 l25 l26 l27 l28 l29 l30 l31 l32 l33 l34 l35 l36 l37 l38 l39 l40 l41 l42 l43 l44 l45 l46 l47 l48 l72 l73 l74 l75 l76 l77 l78 l79 l80 l81 l82 l83 l84 l85 l86 l87 l88 l89 l90 l91 hde
          subst hal
          simp only [Oper.upon, Act.put]
          generalize wd.setCell ⟨ga, j, none⟩ (.int .u8 (inc8 b)) = we at HOe HSe ⊢
          clear HK
          go_wp2_with fail
          go_roundw
          case rel => exact ⟨j + 1, ys.set j (inc8 b), by omega, by go_num, HOe, HBe, HSe⟩
          case measure => simp [intOf]; omega
      · have d1 : decide ((j : Int) < (n : Int)) = false := decide_eq_false (by omega)
        have HVr := Lib.hid (show Up w4 wr from Below.out HV6.out hS.out (fun t ht => (row_lt hO.out ht).1) HV6.out.size)
        have HUr := Lib.hid (show Up w wr from Up.trans HU4.out HVr.out)
        have HR8 := Lib.hid (inR_one wr rK ⟨by decide, by decide⟩)
        have HVs := Lib.hid (Up.trans HVr.out (up_alloc wr (ruC rK)))
        have HUs := Lib.hid (Up.trans HUr.out (up_alloc wr (ruC rK)))
        have hbu : (Instr.build 40 #[(0, .int .u32 1), (4, .int .i64 2), (5, .int .i64 1), (2, .int .i64 1)]).run Tryd.prog wr = .ok (.agg #[.int .u32 1, .int .u32 0, .int .i64 1, .bool false, .int .i64 2, .int .i64 1]) wr := by kernel_rfl
        have hbs := bslice40 1 0 1 false 2 1 wr
        go_wp2_with fail
        clear hbu hbs k4
        have hj2 := judge_any (some ⟨wr.heap.size, 0, none⟩) 1 1 [rK] (some ⟨q4, 0, none⟩) 1 1 [⟨9, 0, true, false, A3, n, c3, xs⟩] (wr.alloc (ruC rK)) HR8.out (HI4b.out.up HVs.out) (HT.out.up HUs.out) (by omega) (by omega)
        rw [judge_rK] at hj2
        refine Calls.mono hj2 ?_
        rintro e1 wt ⟨At, nt, ct, outt, rfl, hGt, hMt, hlt2, hUt⟩
        have HVt := Lib.hid (Up.trans HVs.out hUt.out)
        have HUt := Lib.hid (Up.trans HUs.out hUt.out)
        have HQt := Lib.hid (blk_up HQ4.out HVt.out)
        have HBt := Lib.hid (HB3I.out.up HVt.out)
        clear hj2 hGt hMt hlt2 hUt HVr HUr HR8 HVs HUs
        go_upto_region 11 with (fail)
        have HK : ∀ φ ∈ [Is (.slice (some ⟨q4, 0, none⟩) 1 1), Is (.pointer (some ⟨q4, 0, none⟩)), Is (.pointer (some ⟨q4, 0 + 4, none⟩)), Is (.slice A3 n c3), Is (.string (strOfNums xs)), Is (.slice A n c), Is (.string (strOfNums xs)), Is (.bool true), Is (.bool true), Is (.int .i64 2), Is (.bool true), Is (.bool true), Is (.bool true)], Keeps φ := by
          simp [keeps_is]
        refine staged_lit (by kernel_rfl) (facts [Is (.slice (some ⟨q4, 0, none⟩) 1 1), Is (.pointer (some ⟨q4, 0, none⟩)), Is (.pointer (some ⟨q4, 0 + 4, none⟩)), Is (.slice A3 n c3), Is (.string (strOfNums xs)), Is (.slice A n c), Is (.string (strOfNums xs)), Is (.bool true), Is (.bool true), Is (.int .i64 2), Is (.bool true), Is (.bool true), Is (.bool true)]) (Stg [] (fun _ x => Up wt x)) 92 rfl (by decide +kernel) (by decide +kernel) (Stg.start (Up.drew wt)) ?_ ?_
        · refine ⟨?_, ?_, ?_, ?_, ?_, ?_, ?_, ?_, ?_, ?_, ?_, ?_, ?_, trivial⟩
          · refine opS_same rfl rfl fun Lx ac w1 hJ hl hc ho hd => ?_
            have s4 : ac.eval (.tmp 4) = .slice (some ⟨q4, 0, none⟩) 1 1 := ho 4 rfl
            exact ⟨_, x_move (.tmp 4) rfl s4, rfl⟩
          · refine opS_same rfl rfl fun Lx ac w1 hJ hl hc ho hd => ?_
            have d0 : ac.eval (.tmp 80) = .slice (some ⟨q4, 0, none⟩) 1 1 := hd 0 _ _ rfl rfl rfl
            exact ⟨_, x_index 29 (.tmp 80) (.const (.int .i64 0)) rfl d0 rfl (idx29z _ _ _ _ (by omega) _), rfl⟩
          · refine opS_same rfl rfl fun Lx ac w1 hJ hl hc ho hd => ?_
            have d1 : ac.eval (.tmp 81) = .pointer (some ⟨q4, 0, none⟩) := hd 1 _ _ rfl rfl rfl
            exact ⟨_, x_field 38 (.tmp 81) 4 rfl d1 (fld384g _ _ _), rfl⟩
          · refine opS_same rfl rfl fun Lx ac w1 hJ hl hc ho hd => ?_
            have d2 : ac.eval (.tmp 82) = .pointer (some ⟨q4, 0 + 4, none⟩) := hd 2 _ _ rfl rfl rfl
            obtain ⟨_, _, hU⟩ := hJ
            exact ⟨_, x_load 22 (.tmp 82) rfl d2 (run_load1 agg22' (cell_up (cell_of HQt.out (j := 4) rfl) hU)), rfl⟩
          · refine opS_same rfl rfl fun Lx ac w1 hJ hl hc ho hd => ?_
            have d3 : ac.eval (.tmp 83) = .slice A3 n c3 := hd 3 _ _ rfl rfl rfl
            obtain ⟨_, _, hU⟩ := hJ
            exact ⟨_, x_conv 22 9 (.tmp 83) rfl d3 (conv_up HBt.out hU), rfl⟩
          · refine opS_same rfl rfl fun Lx ac w1 hJ hl hc ho hd => ?_
            have s0 : ac.eval (.tmp 0) = .slice A n c := ho 0 rfl
            exact ⟨_, x_move (.tmp 0) rfl s0, rfl⟩
          · refine opS_same rfl rfl fun Lx ac w1 hJ hl hc ho hd => ?_
            have d5 : ac.eval (.tmp 85) = .slice A n c := hd 5 _ _ rfl rfl rfl
            obtain ⟨_, _, hU⟩ := hJ
            exact ⟨_, x_conv 22 9 (.tmp 85) rfl d5 (conv_up H.out (Up.trans HUt.out hU)), rfl⟩
          · refine opS_same rfl rfl fun Lx ac w1 hJ hl hc ho hd => ?_
            have d4 : ac.eval (.tmp 84) = .string (strOfNums xs) := hd 4 _ _ rfl rfl rfl
            have d6 : ac.eval (.tmp 86) = .string (strOfNums xs) := hd 6 _ _ rfl rfl rfl
            exact ⟨_, x_bin .eql 9 9 (.tmp 84) (.tmp 86) rfl d4 d6 (by kernel_rfl) (run_eqs _ _), rfl⟩
          · refine opS_same rfl rfl fun Lx ac w1 hJ hl hc ho hd => ?_
            have d7 : ac.eval (.tmp 87) = .bool true := hd 7 _ _ rfl rfl rfl
            exact ⟨_, x_move (.tmp 87) rfl d7, rfl⟩
          · refine opS_sameG 8 true _ _ rfl rfl rfl rfl (fun _ _ h => h) rfl fun Lx ac w1 hJ hl hc ho hd => ?_
            have s11 : ac.eval (.tmp 11) = .int .i64 2 := ho 11 rfl
            exact ⟨_, x_move (.tmp 11) rfl s11, rfl⟩
          · refine opS_sameG 8 true _ _ rfl rfl rfl rfl (fun _ _ h => h) rfl fun Lx ac w1 hJ hl hc ho hd => ?_
            have d9 : ac.eval (.tmp 89) = .int .i64 2 := hd 9 _ _ rfl rfl rfl
            exact ⟨_, x_bin .eql 24 24 (.tmp 89) (.const (.int .i64 2)) rfl d9 rfl (by kernel_rfl) (run_eq24 (by decide) _), rfl⟩
          · refine opS_same rfl rfl fun Lx ac w1 hJ hl hc ho hd => ?_
            have d8 : ac.eval (.tmp 88) = .bool true := hd 8 _ _ rfl rfl rfl
            have d10 : ac.eval (.tmp 90) = .bool true := hd 10 _ _ rfl rfl rfl
            exact ⟨_, x_pick (.tmp 88) (.tmp 90) (.const (.bool false)) (b := true) (Y := .bool false) rfl d8 (fun _ => d10) (fun h => absurd h (by decide)), rfl⟩
          · refine opS_same rfl rfl fun Lx ac w1 hJ hl hc ho hd => ?_
            have d11 : ac.eval (.tmp 91) = .bool true := hd 11 _ _ rfl rfl rfl
            exact ⟨_, x_assign (.tmp 91) rfl d11, rfl⟩
        · intro L1 a1 wu hI hall
          obtain ⟨kq, hk, hUF⟩ := hI.done hall (by simp)
          have HUn := Lib.hid (show Up wt wu from hUF)
          clear hk hUF kq
          have l2 : a1.tmps.getD 2 undef = .bool true := hI.get hall (i := 12) rfl rfl
          have hde : a1.defers = [] := hI.defers
          have hal := act_lit a1 92 hI.size
          clear hI
          simp only [List.range, List.range.loop, List.map_cons, List.map_nil] at hal
          rw [l2, hde] at hal
          generalize a1.tmps.getD 0 undef = t0 at hal
          generalize a1.tmps.getD 1 undef = t1 at hal
          generalize a1.tmps.getD 3 undef = t3 at hal
          generalize a1.tmps.getD 4 undef = t4 at hal
          generalize a1.tmps.getD 5 undef = t5 at hal
          generalize a1.tmps.getD 6 undef = t6 at hal
          generalize a1.tmps.getD 7 undef = t7 at hal
          generalize a1.tmps.getD 8 undef = t8 at hal
          generalize a1.tmps.getD 9 undef = t9 at hal
          generalize a1.tmps.getD 10 undef = t10 at hal
          generalize a1.tmps.getD 11 undef = t11 at hal
          generalize a1.tmps.getD 12 undef = t12 at hal
          generalize a1.tmps.getD 13 undef = t13 at hal
          generalize a1.tmps.getD 14 undef = t14 at hal
          generalize a1.tmps.getD 15 undef = t15 at hal
          generalize a1.tmps.getD 16 undef = t16 at hal
          generalize a1.tmps.getD 17 undef = t17 at hal
          generalize a1.tmps.getD 18 undef = t18 at hal
          generalize a1.tmps.getD 19 undef = t19 at hal
          generalize a1.tmps.getD 20 undef = t20 at hal
          generalize a1.tmps.getD 21 undef = t21 at hal
          generalize a1.tmps.getD 22 undef = t22 at hal
          generalize a1.tmps.getD 23 undef = t23 at hal
          generalize a1.tmps.getD 24 undef = t24 at hal
          generalize a1.tmps.getD 25 undef = t25 at hal
          generalize a1.tmps.getD 26 undef = t26 at hal
          generalize a1.tmps.getD 27 undef = t27 at hal
          generalize a1.tmps.getD 28 undef = t28 at hal
          generalize a1.tmps.getD 29 undef = t29 at hal
          generalize a1.tmps.getD 30 undef = t30 at hal
          generalize a1.tmps.getD 31 undef = t31 at hal
          generalize a1.tmps.getD 32 undef = t32 at hal
          generalize a1.tmps.getD 33 undef = t33 at hal
          generalize a1.tmps.getD 34 undef = t34 at hal
          generalize a1.tmps.getD 35 undef = t35 at hal
          generalize a1.tmps.getD 36 undef = t36 at hal
          generalize a1.tmps.getD 37 undef = t37 at hal
          generalize a1.tmps.getD 38 undef = t38 at hal
          generalize a1.tmps.getD 39 undef = t39 at hal
          generalize a1.tmps.getD 40 undef = t40 at hal
          generalize a1.tmps.getD 41 undef = t41 at hal
          generalize a1.tmps.getD 42 undef = t42 at hal
          generalize a1.tmps.getD 43 undef = t43 at hal
          generalize a1.tmps.getD 44 undef = t44 at hal
          generalize a1.tmps.getD 45 undef = t45 at hal
          generalize a1.tmps.getD 46 undef = t46 at hal
          generalize a1.tmps.getD 47 undef = t47 at hal
          generalize a1.tmps.getD 48 undef = t48 at hal
          generalize a1.tmps.getD 49 undef = t49 at hal
          generalize a1.tmps.getD 50 undef = t50 at hal
          generalize a1.tmps.getD 51 undef = t51 at hal
          generalize a1.tmps.getD 52 undef = t52 at hal
          generalize a1.tmps.getD 53 undef = t53 at hal
          generalize a1.tmps.getD 54 undef = t54 at hal
          generalize a1.tmps.getD 55 undef = t55 at hal
          generalize a1.tmps.getD 56 undef = t56 at hal
          generalize a1.tmps.getD 57 undef = t57 at hal
          generalize a1.tmps.getD 58 undef = t58 at hal
          generalize a1.tmps.getD 59 undef = t59 at hal
          generalize a1.tmps.getD 60 undef = t60 at hal
          generalize a1.tmps.getD 61 undef = t61 at hal
          generalize a1.tmps.getD 62 undef = t62 at hal
          generalize a1.tmps.getD 63 undef = t63 at hal
          generalize a1.tmps.getD 64 undef = t64 at hal
          generalize a1.tmps.getD 65 undef = t65 at hal
          generalize a1.tmps.getD 66 undef = t66 at hal
          generalize a1.tmps.getD 67 undef = t67 at hal
          generalize a1.tmps.getD 68 undef = t68 at hal
          generalize a1.tmps.getD 69 undef = t69 at hal
          generalize a1.tmps.getD 70 undef = t70 at hal
          generalize a1.tmps.getD 71 undef = t71 at hal
          generalize a1.tmps.getD 72 undef = t72 at hal
          generalize a1.tmps.getD 73 undef = t73 at hal
          generalize a1.tmps.getD 74 undef = t74 at hal
          generalize a1.tmps.getD 75 undef = t75 at hal
          generalize a1.tmps.getD 76 undef = t76 at hal
          generalize a1.tmps.getD 77 undef = t77 at hal
          generalize a1.tmps.getD 78 undef = t78 at hal
          generalize a1.tmps.getD 79 undef = t79 at hal
          generalize a1.tmps.getD 80 undef = t80 at hal
          generalize a1.tmps.getD 81 undef = t81 at hal
          generalize a1.tmps.getD 82 undef = t82 at hal
          generalize a1.tmps.getD 83 undef = t83 at hal
          generalize a1.tmps.getD 84 undef = t84 at hal
          generalize a1.tmps.getD 85 undef = t85 at hal
          generalize a1.tmps.getD 86 undef = t86 at hal
          generalize a1.tmps.getD 87 undef = t87 at hal
          generalize a1.tmps.getD 88 undef = t88 at hal
          generalize a1.tmps.getD 89 undef = t89 at hal
          generalize a1.tmps.getD 90 undef = t90 at hal
          generalize a1.tmps.getD 91 undef = t91 at hal
          clear l2 hde
          subst hal
          go_wp2_with fail
          go_ret
          exact ⟨rfl, Lib.hid (Up.trans HUt.out HUn.out)⟩
end Go.Proofs.YtghldkjbmfbdfaaDoor
