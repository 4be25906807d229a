import Derived.Test.YtdlgdlgpmfccmaaCo4a
import Derived.Test.YtdlgdlgpmfccmaaCo5
import Derived.Test.YtdlgdlgpmfccmaaStaged
namespace Go.Proofs.Ytdlgdlgpmfccmaa
open Go Go.RowKit
set_option linter.unusedVariables false
set_option linter.unusedSimpArgs false
/-! The reference's Open. -/
set_option maxRecDepth 100000 in
set_option maxHeartbeats 4000000 in
theorem ropen_short (key : Int) (A : Option Addr) (m c : Nat) (xs : List Int) (w : World) (h : xs.length = m) (hm : m < 40) : Calls Try.prog 11 #[.int .u64 key, .slice A m c] w (OpPost key xs w) := by
  have HO := Lib.hid (opn_short (key := key) (xs := xs) (by omega))
  clear h
  have HC := Lib.hid (show (w.alloc (.cells #[.int .i64 0, .int .u32 0, .int .u32 0, .int .u32 0, .int .u32 0, .int .u32 0, .int .u32 0, .int .u32 0] 25)).heap[w.heap.size]? = some (.cells #[.int .i64 0, .int .u32 0, .int .u32 0, .int .u32 0, .int .u32 0, .int .u32 0, .int .u32 0, .int .u32 0] 25 (0, 0)) from new_at w _)
  have HU := Lib.hid (up_alloc w (.cells #[.int .i64 0, .int .u32 0, .int .u32 0, .int .u32 0, .int .u32 0, .int .u32 0, .int .u32 0, .int .u32 0] 25))
  have hd : decide ((m : Int) < 40) = true := by simp; omega
  go_enter Try.func11, Try.ntmps11
  go_wp2_with (with_reducible refine wpList_store_row rfl 25 _ _ rfl w.heap.size #[.int .i64 0, .int .u32 0, .int .u32 0, .int .u32 0, .int .u32 0, .int .u32 0, .int .u32 0, .int .u32 0] rfl rfl 25 _ HC.out (by kernel_rfl) rfl crOneZ ?_)
  refine bodyPost_ret (results_row_tmp (fn := Try.f11) (p := 4) (u := 5) (ty := 25) rfl _ _ w.heap.size 25 _ (0, 0) _ rfl (setRow_heap _ _ _ _ _ _ HC.out) Try.underlying25 rfl (by kernel_rfl)) rfl ?_
  exact opPost_no HO.out rfl (below_setRow HU.out (Nat.le_refl _) _)
set_option maxRecDepth 100000 in
set_option maxHeartbeats 4000000 in
theorem ropen_long (key : Int) (A : Option Addr) (m c : Nat) (xs : List Int) (w : World) (h : xs.length = m) (hm : 40 < m) (hm2 : m ≤ 140737488351232) : Calls Try.prog 11 #[.int .u64 key, .slice A m c] w (OpPost key xs w) := by
  have HO := Lib.hid (opn_long (key := key) (xs := xs) (by omega))
  clear h
  have HC := Lib.hid (show (w.alloc (.cells #[.int .i64 0, .int .u32 0, .int .u32 0, .int .u32 0, .int .u32 0, .int .u32 0, .int .u32 0, .int .u32 0] 25)).heap[w.heap.size]? = some (.cells #[.int .i64 0, .int .u32 0, .int .u32 0, .int .u32 0, .int .u32 0, .int .u32 0, .int .u32 0, .int .u32 0] 25 (0, 0)) from new_at w _)
  have HU := Lib.hid (up_alloc w (.cells #[.int .i64 0, .int .u32 0, .int .u32 0, .int .u32 0, .int .u32 0, .int .u32 0, .int .u32 0, .int .u32 0] 25))
  have hd : decide ((m : Int) < 40) = false := by simp; omega
  have hd2 : decide (40 < (m : Int)) = true := by simp; omega
  go_enter Try.func11, Try.ntmps11
  go_wp2_with (with_reducible refine wpList_store_row rfl 25 _ _ rfl w.heap.size #[.int .i64 0, .int .u32 0, .int .u32 0, .int .u32 0, .int .u32 0, .int .u32 0, .int .u32 0, .int .u32 0] rfl rfl 25 _ HC.out (by kernel_rfl) rfl crOneZ ?_)
  refine bodyPost_ret (results_row_tmp (fn := Try.f11) (p := 4) (u := 5) (ty := 25) rfl _ _ w.heap.size 25 _ (0, 0) _ rfl (setRow_heap _ _ _ _ _ _ HC.out) Try.underlying25 rfl (by kernel_rfl)) rfl ?_
  exact opPost_no HO.out rfl (below_setRow HU.out (Nat.le_refl _) _)
theorem hi36 (A : Option Addr) (c : Nat) (w : World) (h : 36 ≤ c) : (Instr.sliceAt 26 (.slice A 40 c) none (some (.int .i64 36)) none).run Try.prog w = .ok (.slice A 36 c) w := by
  have hel : Try.prog.elem 26 = 5 := by simp [Program.elem, Try.underlying26]
  have hu : Try.prog.underlying 26 = some (.slice (Try.prog.elem 26)) := by rw [hel]; exact Try.underlying26
  have hsz : (sizeOf 5).run Try.prog w = .ok 1 w := by
    cases hi : Try.prog.info? 5 with
    | none => have := size5; rw [hi] at this; cases this
    | some i =>
      have := size5
      rw [hi] at this
      have : i.size = 1 := by simpa using this
      simp [sizeOf, typeInfo, hi, this]
  have hr := run_slice_h (P := Try.prog) w 26 A 40 c hu .i64 36 (by omega) (by omega)
  rw [hel, hsz, ← run_sliceAt_slice (P := Try.prog) w 26 _ _ _ _ hu] at hr
  rw [hr]
  have e1 : (36 : Int).toNat = 36 := rfl
  have e0 : (if c = 0 then A else A.map (·.add 0)) = A := by split; rfl; exact map_add0 A
  simp only [Result.andThen, sliced, e1, Nat.sub_zero, Nat.zero_mul, e0]
theorem app_run {w : World} {base n c m d : Nat} {A B : Option Addr} {xs ys : List Int} (ty : TypeId) (h : OwnI .u8 5 base w A n c xs) (hl : ys.length = m) (hr : Cells w B (ints .u8 ys)) (hn : n + m ≤ 1000) (hb : base ≤ w.heap.size) :
    ∃ A' c' w', (Builtin.append_ #[26, 26] ty #[.slice A n c, .slice B m d]).run Try.prog w = .ok (.slice A' (n + m) c') w' ∧ OwnI .u8 5 base w' A' (n + m) c' (xs ++ ys) ∧ Below base w w' ∧ base ≤ w'.heap.size := by
  obtain ⟨v', w', h1, h2, h3⟩ := run_append_S (P := Try.prog) w base 26 ty 5 (.int .u8 0) 1 Try.underlying26 info5 rfl _ n (ints .u8 xs) h B m d (ints .u8 ys) (by rw [ints_length]; exact hl) hr (ints_one .u8 ys) (by unfold maxLen; omega) (by omega) hb
  obtain ⟨A', c', rfl⟩ := own_form h2
  exact ⟨A', c', w', h1, by unfold OwnI; rw [ints_append]; exact h2, (Below.refl _ _).grown h3 hb fun k hk => (h.lt k hk).1, Nat.le_trans hb h3.size⟩
def arrC (xs : List Int) : Nat → Array Value
  | 0 => #[.int .u32 0, .int .u32 0, .int .u32 0, .int .u32 0, .int .u32 0, .int .u32 0, .int .u32 0]
  | 1 => #[.int .u32 (Cr.nm xs 8 4), .int .u32 0, .int .u32 0, .int .u32 0, .int .u32 0, .int .u32 0, .int .u32 0]
  | 2 => #[.int .u32 (Cr.nm xs 8 4), .int .u32 (Cr.nm xs 12 4), .int .u32 0, .int .u32 0, .int .u32 0, .int .u32 0, .int .u32 0]
  | 3 => #[.int .u32 (Cr.nm xs 8 4), .int .u32 (Cr.nm xs 12 4), .int .u32 (Cr.nm xs 16 4), .int .u32 0, .int .u32 0, .int .u32 0, .int .u32 0]
  | 4 => #[.int .u32 (Cr.nm xs 8 4), .int .u32 (Cr.nm xs 12 4), .int .u32 (Cr.nm xs 16 4), .int .u32 (Cr.nm xs 20 4), .int .u32 0, .int .u32 0, .int .u32 0]
  | 5 => #[.int .u32 (Cr.nm xs 8 4), .int .u32 (Cr.nm xs 12 4), .int .u32 (Cr.nm xs 16 4), .int .u32 (Cr.nm xs 20 4), .int .u32 (Cr.nm xs 24 4), .int .u32 0, .int .u32 0]
  | 6 => #[.int .u32 (Cr.nm xs 8 4), .int .u32 (Cr.nm xs 12 4), .int .u32 (Cr.nm xs 16 4), .int .u32 (Cr.nm xs 20 4), .int .u32 (Cr.nm xs 24 4), .int .u32 (Cr.nm xs 28 4), .int .u32 0]
  | _ => #[.int .u32 (Cr.nm xs 8 4), .int .u32 (Cr.nm xs 12 4), .int .u32 (Cr.nm xs 16 4), .int .u32 (Cr.nm xs 20 4), .int .u32 (Cr.nm xs 24 4), .int .u32 (Cr.nm xs 28 4), .int .u32 (Cr.nm xs 32 4)]
theorem wrap_fit {n : Int} (h0 : 0 ≤ n) (h1 : n < 18446744073709551616) : (0 ≤ wrap64 n ∧ wrap64 n ≤ 1099511627776) ↔ n ≤ 1099511627776 := by unfold wrap64; omega
theorem wrap_small {n : Int} (h0 : 0 ≤ n) (h1 : n ≤ 1099511627776) : wrap64 n = n := by unfold wrap64; omega
theorem rnum_nm (A : Option Addr) (m c a s : Nat) (xs : List Int) (w : World) (h : InB w A m c xs) (hk : m ≤ 140737488355328) (ha : a + s ≤ m) (hs1 : 1 ≤ s) (hs8 : s ≤ 7) (x y : Int) (hx : x = (a : Int)) (hy : y = (s : Int)) :
    Calls Try.prog 20 #[.slice A m c, .int .i64 x, .int .i64 y] w fun e w' => e = .returned (.int .i64 (Cr.nm xs a s)) ∧ Up w w' := by
  subst hx hy; exact rnum_ok A m c a s xs w h hk ha hs1 hs8
theorem rget_nm (A : Option Addr) (m c a s : Nat) (xs : List Int) (w : World) (h : InB w A m c xs) (hk : m ≤ 140737488355328) (ha : a + s ≤ m) (hs1 : 1 ≤ s) (hs8 : s ≤ 8) (x y : Int) (hx : x = (a : Int)) (hy : y = (s : Int)) :
    Calls Try.prog 21 #[.slice A m c, .int .i64 x, .int .i64 y] w fun e w' => e = .returned (.tuple #[.int .u64 (Cr.nm xs a s), .int .i64 0]) ∧ Up w w' := by
  subst hx hy; exact rget_ok A m c a s xs w h hk ha hs1 hs8
theorem fit_iff (xs : List Int) (hb : Byt xs) : (Cr.dec xs).fit ↔ Cr.nm xs 0 8 ≤ 1099511627776 ∧ (Cr.nm xs 8 4 ≠ 0 ∧ Cr.nm xs 12 4 ≠ 0) := by
  have h := nm8_bd hb 0
  have h2 := wrap_fit h.1 h.2
  show ((0 ≤ wrap64 (Cr.nm xs 0 8) ∧ wrap64 (Cr.nm xs 0 8) ≤ 1099511627776) ∧ _) ↔ _
  rw [h2]
  exact Iff.rfl
set_option maxRecDepth 100000 in
set_option maxHeartbeats 8000000 in
theorem ropen_full (key : Int) (A : Option Addr) (c : Nat) (xs : List Int) (w : World) (h : InB w A 40 c xs) : Calls Try.prog 11 #[.int .u64 key, .slice A 40 c] w (OpPost key xs w) := by
  have H := Lib.hid h
  have HL := Lib.hid h.len
  have HCAP := Lib.hid h.cap
  clear h
  have HC := Lib.hid (show (w.alloc (.cells #[.int .i64 0, .int .u32 0, .int .u32 0, .int .u32 0, .int .u32 0, .int .u32 0, .int .u32 0, .int .u32 0] 25)).heap[w.heap.size]? = some (.cells #[.int .i64 0, .int .u32 0, .int .u32 0, .int .u32 0, .int .u32 0, .int .u32 0, .int .u32 0, .int .u32 0] 25 (0, 0)) from new_at w _)
  have HU := Lib.hid (up_alloc w (.cells #[.int .i64 0, .int .u32 0, .int .u32 0, .int .u32 0, .int .u32 0, .int .u32 0, .int .u32 0, .int .u32 0] 25))
  go_enter Try.func11, Try.ntmps11
  go_upto_region 5 with (fail)
  generalize w.alloc (.cells #[.int .i64 0, .int .u32 0, .int .u32 0, .int .u32 0, .int .u32 0, .int .u32 0, .int .u32 0, .int .u32 0] 25) = w0 at HC HU ⊢
  generalize hrr : w.heap.size = r at HC ⊢
  have HR := Lib.hid hrr
  clear hrr
  go_wp2_with fail
  refine (rput none 0 0 8 [] key w0 (inB_nil w0) (by omega) (by omega) (by omega)).mono ?_
  rintro e w1 ⟨A1, N1, d1, rfl, hN, hO, hu⟩
  obtain rfl : N1 = 8 := by rw [hN]; simp [be_length]
  rw [List.nil_append] at hO
  have HI1 := Lib.hid (own_inB hO (be_byt key 8))
  have HU1 := Lib.hid (HU.out.trans hu)
  have HC1 := Lib.hid ((hu.block _ (lt_of_blk HC.out)).trans HC.out)
  clear hN hO hu HU HC
  go_upto_region 6 with (fail)
  -- the worlds of the appends
  obtain ⟨wA, hwA⟩ : ∃ x, x = w1.drew := ⟨_, rfl⟩
  have UA : Up w1 wA := by rw [hwA]; exact Up.drew w1
  obtain ⟨wB, hwB⟩ : ∃ x, x = wA.alloc (.cells #[] 5) := ⟨_, rfl⟩
  have UB : Below wA.heap.size wA wB := by rw [hwB]; exact up_alloc _ _
  have OB : OwnI .u8 5 wA.heap.size wB (some ⟨wA.heap.size, 0, none⟩) 0 0 [] := by rw [hwB]; exact ownI_new _ _ _
  have hB : (Instr.buildSlice 26 0 #[]).run Try.prog wA = .ok (.slice (some ⟨wA.heap.size, 0, none⟩) 0 0) wB := by rw [hwB]; kernel_rfl
  obtain ⟨A2, d2, wC, rC, OC, UC, SC⟩ := app_run (ys := be key 8) (B := A1) (m := 8) (d := d1) 26 OB (be_length _ _) ((HI1.out.up UA).cells.up UB) (by omega) (by rw [hwB]; simp)
  have UC' := UB.trans UC
  obtain ⟨A3, d3, wD, rD, OD, UD, SD⟩ := app_run (ys := xs.take 36) (B := A) (m := 36) (d := c) 26 OC (by rw [List.length_take, HL.out]; rfl) (by have := (((H.out.up HU1.out).up UA).cells.up UC').cut 0 36; rw [map_add0] at this; simpa [ints, List.map_take] using this) (by omega) SC
  have UD' := UC'.trans UD
  obtain ⟨A4, d4, wE, rE, OE, UE, SE⟩ := app_run (ys := be key 8) (B := A1) (m := 8) (d := d1) 26 OD (be_length _ _) ((HI1.out.up UA).cells.up UD') (by omega) SD
  have UE' := UD'.trans UE
  refine staged_lit (by kernel_rfl) (facts [Is (.slice (some ⟨wA.heap.size, 0, none⟩) 0 0), Is (.slice A1 8 d1), Is (.slice A2 (0 + 8) d2), Is (.slice A 40 c), Is (.slice A 36 c), Is (.slice A3 (0 + 8 + 36) d3), Is (.slice A1 8 d1), Is (.slice A4 (0 + 8 + 36 + 8) d4), Is (.slice A4 (0 + 8 + 36 + 8) d4)]) (Stg [0, 2, 5, 7] (fun k x => x = [wA, wB, wC, wD, wE].getD k wE)) 83 rfl (by decide +kernel) (by decide +kernel) (Stg.start hwA.symm) ?_ ?_
  · refine ⟨?_, ?_, ?_, ?_, ?_, ?_, ?_, ?_, ?_, trivial⟩
    · refine opS_writeV (j := 0) rfl (by decide) rfl (fun _ _ h => absurd h (by omega)) fun ac wx hW ho hd => ?_
      obtain rfl := (show wx = wA from hW)
      exact ⟨_, _, x_bslice 26 0 _ rfl (by simpa using hB), rfl, rfl, fun q v _ => facts_free (by simp [free_is]) q v⟩
    · refine opS_same rfl rfl fun L ac w1 hJ hl hc ho hd => ?_
      have s6 : ac.eval (.tmp 6) = .slice A1 8 d1 := ho 6 rfl
      exact ⟨_, x_move (.tmp 6) rfl s6, rfl⟩
    · refine opS_writeV (j := 1) rfl (by decide) rfl (fun y hy _ => by simp at hy; subst hy; rfl) fun ac wx hW ho hd => ?_
      obtain rfl := (show wx = wB from hW)
      have d22 := hd 0 _ _ rfl rfl rfl
      have d23 := hd 1 _ _ rfl rfl rfl
      exact ⟨_, _, x_append (.tmp 22) (.tmp 23) 26 26 rfl d22 d23 rC, rfl, rfl, fun q v _ => facts_free (by simp [free_is]) q v⟩
    · refine opS_same rfl rfl fun L ac w1 hJ hl hc ho hd => ?_
      have s1 : ac.eval (.tmp 1) = .slice A 40 c := ho 1 rfl
      exact ⟨_, x_move (.tmp 1) rfl s1, rfl⟩
    · refine opS_same rfl rfl fun L ac w1 hJ hl hc ho hd => ?_
      have d25 := hd 3 _ _ rfl rfl rfl
      exact ⟨_, x_slice 26 (.tmp 25) (.const (.int .i64 36)) rfl d25 rfl (hi36 A c w1 (by have := HCAP.out; omega)), rfl⟩
    · refine opS_writeV (j := 2) rfl (by decide) rfl (fun y hy _ => by simp at hy; subst hy; rfl) fun ac wx hW ho hd => ?_
      obtain rfl := (show wx = wC from hW)
      have d24 := hd 2 _ _ rfl rfl rfl
      have d26 := hd 4 _ _ rfl rfl rfl
      exact ⟨_, _, x_append (.tmp 24) (.tmp 26) 26 26 rfl d24 d26 rD, rfl, rfl, fun q v _ => facts_free (by simp [free_is]) q v⟩
    · refine opS_same rfl rfl fun L ac w1 hJ hl hc ho hd => ?_
      have s6 : ac.eval (.tmp 6) = .slice A1 8 d1 := ho 6 rfl
      exact ⟨_, x_move (.tmp 6) rfl s6, rfl⟩
    · refine opS_writeV (j := 3) rfl (by decide) rfl (fun y hy _ => by simp at hy; subst hy; rfl) fun ac wx hW ho hd => ?_
      obtain rfl := (show wx = wD from hW)
      have d27 := hd 5 _ _ rfl rfl rfl
      have d28 := hd 6 _ _ rfl rfl rfl
      exact ⟨_, _, x_append (.tmp 27) (.tmp 28) 26 26 rfl d27 d28 rE, rfl, rfl, fun q v _ => facts_free (by simp [free_is]) q v⟩
    · refine opS_same rfl rfl fun L ac w1 hJ hl hc ho hd => ?_
      have d29 := hd 7 _ _ rfl rfl rfl
      exact ⟨_, x_assign (.tmp 29) rfl d29, rfl⟩
  · intro L a wF hI hall
    obtain rfl : wF = wE := by
      obtain ⟨k, hk, hW⟩ := hI.done hall (by decide)
      rcases Nat.eq_or_lt_of_le hk with h4 | h4
      · rw [hW, ← h4]; rfl
      · rw [hW, List.getD_eq_getElem?_getD, List.getElem?_eq_none (by simp at h4 ⊢; omega)]; rfl
    have l0 : a.tmps.getD 0 undef = .int .u64 key := hI.old 0 rfl
    have l1 : a.tmps.getD 1 undef = .slice A 40 c := hI.old 1 rfl
    have l4 : a.tmps.getD 4 undef = .pointer (some ⟨r, 0, none⟩) := hI.old 4 rfl
    have l5 : a.tmps.getD 5 undef = .int .i64 0 := hI.old 5 rfl
    have l7 : a.tmps.getD 7 undef = .slice A4 52 d4 := hI.get hall (i := 8) rfl rfl
    have hde : a.defers = [] := hI.defers
    have hal := act_lit a 83 hI.size
    clear hI
    simp only [List.range, List.range.loop, List.map_cons, List.map_nil] at hal
    rw [l0, l1, l4, l5, l7, hde] at hal
    generalize a.tmps.getD 2 undef = t2 at hal
    generalize a.tmps.getD 3 undef = t3 at hal
    generalize a.tmps.getD 6 undef = t6 at hal
    generalize a.tmps.getD 8 undef = t8 at hal
    generalize a.tmps.getD 9 undef = t9 at hal
    generalize a.tmps.getD 10 undef = t10 at hal
    generalize a.tmps.getD 11 undef = t11 at hal
    generalize a.tmps.getD 12 undef = t12 at hal
    generalize a.tmps.getD 13 undef = t13 at hal
    generalize a.tmps.getD 14 undef = t14 at hal
    generalize a.tmps.getD 15 undef = t15 at hal
    generalize a.tmps.getD 16 undef = t16 at hal
    generalize a.tmps.getD 17 undef = t17 at hal
    generalize a.tmps.getD 18 undef = t18 at hal
    generalize a.tmps.getD 19 undef = t19 at hal
    generalize a.tmps.getD 20 undef = t20 at hal
    generalize a.tmps.getD 21 undef = t21 at hal
    generalize a.tmps.getD 22 undef = t22 at hal
    generalize a.tmps.getD 23 undef = t23 at hal
    generalize a.tmps.getD 24 undef = t24 at hal
    generalize a.tmps.getD 25 undef = t25 at hal
    generalize a.tmps.getD 26 undef = t26 at hal
    generalize a.tmps.getD 27 undef = t27 at hal
    generalize a.tmps.getD 28 undef = t28 at hal
    generalize a.tmps.getD 29 undef = t29 at hal
    generalize a.tmps.getD 30 undef = t30 at hal
    generalize a.tmps.getD 31 undef = t31 at hal
    generalize a.tmps.getD 32 undef = t32 at hal
    generalize a.tmps.getD 33 undef = t33 at hal
    generalize a.tmps.getD 34 undef = t34 at hal
    generalize a.tmps.getD 35 undef = t35 at hal
    generalize a.tmps.getD 36 undef = t36 at hal
    generalize a.tmps.getD 37 undef = t37 at hal
    generalize a.tmps.getD 38 undef = t38 at hal
    generalize a.tmps.getD 39 undef = t39 at hal
    generalize a.tmps.getD 40 undef = t40 at hal
    generalize a.tmps.getD 41 undef = t41 at hal
    generalize a.tmps.getD 42 undef = t42 at hal
    generalize a.tmps.getD 43 undef = t43 at hal
    generalize a.tmps.getD 44 undef = t44 at hal
    generalize a.tmps.getD 45 undef = t45 at hal
    generalize a.tmps.getD 46 undef = t46 at hal
    generalize a.tmps.getD 47 undef = t47 at hal
    generalize a.tmps.getD 48 undef = t48 at hal
    generalize a.tmps.getD 49 undef = t49 at hal
    generalize a.tmps.getD 50 undef = t50 at hal
    generalize a.tmps.getD 51 undef = t51 at hal
    generalize a.tmps.getD 52 undef = t52 at hal
    generalize a.tmps.getD 53 undef = t53 at hal
    generalize a.tmps.getD 54 undef = t54 at hal
    generalize a.tmps.getD 55 undef = t55 at hal
    generalize a.tmps.getD 56 undef = t56 at hal
    generalize a.tmps.getD 57 undef = t57 at hal
    generalize a.tmps.getD 58 undef = t58 at hal
    generalize a.tmps.getD 59 undef = t59 at hal
    generalize a.tmps.getD 60 undef = t60 at hal
    generalize a.tmps.getD 61 undef = t61 at hal
    generalize a.tmps.getD 62 undef = t62 at hal
    generalize a.tmps.getD 63 undef = t63 at hal
    generalize a.tmps.getD 64 undef = t64 at hal
    generalize a.tmps.getD 65 undef = t65 at hal
    generalize a.tmps.getD 66 undef = t66 at hal
    generalize a.tmps.getD 67 undef = t67 at hal
    generalize a.tmps.getD 68 undef = t68 at hal
    generalize a.tmps.getD 69 undef = t69 at hal
    generalize a.tmps.getD 70 undef = t70 at hal
    generalize a.tmps.getD 71 undef = t71 at hal
    generalize a.tmps.getD 72 undef = t72 at hal
    generalize a.tmps.getD 73 undef = t73 at hal
    generalize a.tmps.getD 74 undef = t74 at hal
    generalize a.tmps.getD 75 undef = t75 at hal
    generalize a.tmps.getD 76 undef = t76 at hal
    generalize a.tmps.getD 77 undef = t77 at hal
    generalize a.tmps.getD 78 undef = t78 at hal
    generalize a.tmps.getD 79 undef = t79 at hal
    generalize a.tmps.getD 80 undef = t80 at hal
    generalize a.tmps.getD 81 undef = t81 at hal
    generalize a.tmps.getD 82 undef = t82 at hal
    clear l0 l1 l4 l5 l7 hde
    subst hal
    have HE := Lib.hid (show InB wF A4 52 d4 ((([] ++ be key 8) ++ xs.take 36) ++ be key 8) from own_inB OE (((byt_nil.append (be_byt key 8)).append (H.out.byt.take 36)).append (be_byt key 8)))
    have HXE := UA.trans (Below.mono UE' (Nat.le_refl _))
    have HU2 := Lib.hid (HU1.out.trans HXE)
    have HC2 := Lib.hid ((HXE.block _ (lt_of_blk HC1.out)).trans HC1.out)
    have H2 := Lib.hid (H.out.up HU2.out)
    clear HXE UA UB OB hB rC OC UC SC rD OD UD SD rE OE UE SE UC' UD' UE' hwA hwB HU1 HC1 hall
    clear wA wB wC wD A2 A3
    have HLT := Lib.hid (Cr.sum_lt (key := key) (H.out.byt.take 36))
    have hS : Crc.more 0 (nats ((([] ++ be key 8) ++ xs.take 36) ++ be key 8)) = Cr.sum key (xs.take 36) := by unfold Cr.sum; simp
    have HS := Lib.hid hS
    clear hS
    go_wp2_with fail
    refine (rnum_nm A 40 c 36 4 xs wF H2.out (by omega) (by omega) (by omega) (by omega) _ _ rfl rfl).mono ?_
    rintro e w3 ⟨rfl, hu⟩
    have HU3 := Lib.hid (HU2.out.trans hu)
    have HC3 := Lib.hid ((hu.block _ (lt_of_blk HC2.out)).trans HC2.out)
    have HE3 := Lib.hid (HE.out.up hu)
    clear hu
    go_wp2_with fail
    refine (rsumB HE3.out (by omega)).mono ?_
    rintro e w4 ⟨rfl, rfl⟩
    rw [HS.out]
    have hlt := HLT.out
    have HSM := Lib.hid (show Cr.sum key (xs.take 36) = Cr.sum key (xs.take 36) from rfl)
    have v0 := (nm_bd H.out.byt 36).1
    have v1 := (nm_bd H.out.byt 36).2
    by_cases hbad : Cr.nm xs 36 4 = ((Cr.sum key (xs.take 36) : Nat) : Int)
    case neg =>
      have HO := Lib.hid (opn_sum (key := key) HL.out hbad)
      clear HSM HS HLT HE HE3
      generalize hv : Cr.nm xs 36 4 = v at v0 v1 hbad ⊢
      generalize hs : Cr.sum key (xs.take 36) = s at hlt hbad ⊢
      have z1 : (v == (s : Int)) = false := by simpa using hbad
      have z2 : (v != (s : Int)) = true := by simpa using hbad
      have HV := Lib.hid hv
      have HS := Lib.hid hs
      clear hv hs hbad
      go_wp2_with (with_reducible refine wpList_store_row rfl 25 _ _ rfl r #[.int .i64 0, .int .u32 0, .int .u32 0, .int .u32 0, .int .u32 0, .int .u32 0, .int .u32 0, .int .u32 0] rfl rfl 25 _ HC3.out (by kernel_rfl) rfl crOneZ ?_)
      refine bodyPost_ret (results_row_tmp (fn := Try.f11) (p := 4) (u := 5) (ty := 25) rfl _ _ r 25 _ (0, 0) _ rfl (setRow_heap _ _ _ _ _ _ HC3.out) Try.underlying25 rfl (by kernel_rfl)) rfl ?_
      exact opPost_no HO.out rfl (below_setRow HU3.out (by rw [HR.out]; exact Nat.le_refl _) _)
    case pos =>
      have HEQ := Lib.hid hbad
      clear HSM HS HLT HE HE3
      generalize hv : Cr.nm xs 36 4 = v at v0 v1 hbad ⊢
      generalize hs : Cr.sum key (xs.take 36) = s at hlt hbad ⊢
      have z1 : (v == (s : Int)) = true := by simpa using hbad
      have z2 : (v != (s : Int)) = false := by simpa using hbad
      have HV := Lib.hid hv
      have HS := Lib.hid hs
      clear hv hs hbad
      go_wp2_with fail
      have H3 := Lib.hid (H.out.up HU3.out)
      refine (rget_nm A 40 c 0 8 xs w3 H3.out (by omega) (by omega) (by omega) (by omega) _ _ rfl rfl).mono ?_
      rintro e w4 ⟨rfl, hu⟩
      have HU4 := Lib.hid (HU3.out.trans hu)
      have HC4 := Lib.hid ((hu.block _ (lt_of_blk HC3.out)).trans HC3.out)
      clear hu z1 z2 v0 v1 hlt HV HS
      have n0 := (nm8_bd H.out.byt 0).1
      by_cases hbig : Cr.nm xs 0 8 ≤ 1099511627776
      case neg =>
        have HO := Lib.hid (opn_no (key := key) HL.out HEQ.out (fun h => hbig ((fit_iff xs H.out.byt).1 h).1))
        have n1 := (nm8_bd H.out.byt 0).2
        generalize hn : Cr.nm xs 0 8 = n at n0 n1 hbig ⊢
        have HNN := Lib.hid hn
        have hd : decide (1099511627776 < n) = true := by simp; omega
        clear hn hbig
        go_wp2_with (with_reducible refine wpList_store_row rfl 25 _ _ rfl r #[.int .i64 0, .int .u32 0, .int .u32 0, .int .u32 0, .int .u32 0, .int .u32 0, .int .u32 0, .int .u32 0] rfl rfl 25 _ HC4.out (by kernel_rfl) rfl crOneZ ?_)
        refine bodyPost_ret (results_row_tmp (fn := Try.f11) (p := 4) (u := 5) (ty := 25) rfl _ _ r 25 _ (0, 0) _ rfl (setRow_heap _ _ _ _ _ _ HC4.out) Try.underlying25 rfl (by kernel_rfl)) rfl ?_
        exact opPost_no HO.out rfl (below_setRow HU4.out (by rw [HR.out]; exact Nat.le_refl _) _)
      case pos =>
        have HBG := Lib.hid hbig
        generalize hn : Cr.nm xs 0 8 = n at n0 hbig ⊢
        have HNN := Lib.hid hn
        have hd : decide (1099511627776 < n) = false := by simp; omega
        clear hn
        go_upto_region 13 with (fail)
        have HQ5 := Lib.hid (show (w4.alloc (.cells #[.int .u32 0, .int .u32 0, .int .u32 0, .int .u32 0, .int .u32 0, .int .u32 0, .int .u32 0] 51)).heap[w4.heap.size]? = some (.cells (arrC xs 0) 51 (0, 0)) from new_at w4 _)
        have HX5 := up_alloc w4 (.cells #[.int .u32 0, .int .u32 0, .int .u32 0, .int .u32 0, .int .u32 0, .int .u32 0, .int .u32 0] 51)
        have HU5 := Lib.hid (HU4.out.trans HX5)
        have HC5 := Lib.hid ((HX5.block _ (lt_of_blk HC4.out)).trans HC4.out)
        have hlt := lt_of_blk HC4.out
        have hsz := HU4.out.size
        rw [HR.out] at hsz
        clear HX5
        generalize w4.alloc (.cells #[.int .u32 0, .int .u32 0, .int .u32 0, .int .u32 0, .int .u32 0, .int .u32 0, .int .u32 0] 51) = w5 at HQ5 HU5 HC5 ⊢
        generalize w4.heap.size = q at HQ5 hlt hsz ⊢
        have hqr : ¬ r = q := by omega
        have HLQ := Lib.hid hsz
        have HQR := Lib.hid hqr
        clear hlt hsz hqr HU4 HC4 HU3 HC3 H3 HU2 HC2 H2
        go_wp2_with fail
        go_loopw [11] (fun i wr => ∃ (j : Nat), j ≤ 7 ∧ i = .int .i64 j ∧ Hid (Up w wr) ∧ Hid (wr.heap[r]? = some (.cells #[.int .i64 0, .int .u32 0, .int .u32 0, .int .u32 0, .int .u32 0, .int .u32 0, .int .u32 0, .int .u32 0] 25 (0, 0))) ∧ Hid (wr.heap[q]? = some (.cells (arrC xs j) 51 (0, 0)))) (fun i _ => 7 - (intOf i).toNat)
        case atStart => exact ⟨0, Nat.zero_le _, rfl, HU5, HC5, HQ5⟩
        case round =>
          obtain ⟨j, hj, rfl, hU, hC, hQ⟩ := hrel
          have hI := Lib.hid (H.out.up hU.out)
          by_cases hlt : j < 7
          · obtain rfl | rfl | rfl | rfl | rfl | rfl | rfl : j = 0 ∨ j = 1 ∨ j = 2 ∨ j = 3 ∨ j = 4 ∨ j = 5 ∨ j = 6 := by omega
            · have b0 := (nm_bd H.out.byt 8).1
              have b1 := (nm_bd H.out.byt 8).2
              go_wp2_with fail
              refine (rnum_nm A 40 c 8 4 xs wr hI.out (by omega) (by omega) (by omega) (by omega) _ _ rfl rfl).mono ?_
              rintro e w6 ⟨rfl, hu⟩
              have HU6 := Lib.hid (hU.out.trans hu)
              have HC6 := Lib.hid ((hu.block _ (lt_of_blk hC.out)).trans hC.out)
              have HQ6 := Lib.hid ((hu.block _ (lt_of_blk hQ.out)).trans hQ.out)
              clear hu
              have ck : w6.cell? ⟨q, 0, none⟩ = some (.int .u32 0) := cell_of HQ6.out rfl
              have fk : w6.frozen? ⟨q, 0, none⟩ = false := frozen_at HQ6.out
              generalize hv : Cr.nm xs 8 4 = v at b0 b1 ⊢
              have HVV := Lib.hid hv
              clear hv
              go_wp2_with fail
              go_roundw
              case rel =>
                refine ⟨1, by omega, rfl, Lib.hid (HU6.out.setCell (by rw [HR.out]; exact HLQ.out) _), Lib.hid (((setCell_out _ _ _ _).block _ (lt_of_blk HC6.out) HQR.out).trans HC6.out), Lib.hid ?_⟩
                rw [setCell_at _ HQ6.out, ← HVV.out]
                rfl
              case measure => simp [intOf]
            · have b0 := (nm_bd H.out.byt 12).1
              have b1 := (nm_bd H.out.byt 12).2
              go_wp2_with fail
              refine (rnum_nm A 40 c 12 4 xs wr hI.out (by omega) (by omega) (by omega) (by omega) _ _ rfl rfl).mono ?_
              rintro e w6 ⟨rfl, hu⟩
              have HU6 := Lib.hid (hU.out.trans hu)
              have HC6 := Lib.hid ((hu.block _ (lt_of_blk hC.out)).trans hC.out)
              have HQ6 := Lib.hid ((hu.block _ (lt_of_blk hQ.out)).trans hQ.out)
              clear hu
              have ck : w6.cell? ⟨q, 1, none⟩ = some (.int .u32 0) := cell_of HQ6.out rfl
              have fk : w6.frozen? ⟨q, 1, none⟩ = false := frozen_at HQ6.out
              generalize hv : Cr.nm xs 12 4 = v at b0 b1 ⊢
              have HVV := Lib.hid hv
              clear hv
              go_wp2_with fail
              go_roundw
              case rel =>
                refine ⟨2, by omega, rfl, Lib.hid (HU6.out.setCell (by rw [HR.out]; exact HLQ.out) _), Lib.hid (((setCell_out _ _ _ _).block _ (lt_of_blk HC6.out) HQR.out).trans HC6.out), Lib.hid ?_⟩
                rw [setCell_at _ HQ6.out, ← HVV.out]
                rfl
              case measure => simp [intOf]
            · have b0 := (nm_bd H.out.byt 16).1
              have b1 := (nm_bd H.out.byt 16).2
              go_wp2_with fail
              refine (rnum_nm A 40 c 16 4 xs wr hI.out (by omega) (by omega) (by omega) (by omega) _ _ rfl rfl).mono ?_
              rintro e w6 ⟨rfl, hu⟩
              have HU6 := Lib.hid (hU.out.trans hu)
              have HC6 := Lib.hid ((hu.block _ (lt_of_blk hC.out)).trans hC.out)
              have HQ6 := Lib.hid ((hu.block _ (lt_of_blk hQ.out)).trans hQ.out)
              clear hu
              have ck : w6.cell? ⟨q, 2, none⟩ = some (.int .u32 0) := cell_of HQ6.out rfl
              have fk : w6.frozen? ⟨q, 2, none⟩ = false := frozen_at HQ6.out
              generalize hv : Cr.nm xs 16 4 = v at b0 b1 ⊢
              have HVV := Lib.hid hv
              clear hv
              go_wp2_with fail
              go_roundw
              case rel =>
                refine ⟨3, by omega, rfl, Lib.hid (HU6.out.setCell (by rw [HR.out]; exact HLQ.out) _), Lib.hid (((setCell_out _ _ _ _).block _ (lt_of_blk HC6.out) HQR.out).trans HC6.out), Lib.hid ?_⟩
                rw [setCell_at _ HQ6.out, ← HVV.out]
                rfl
              case measure => simp [intOf]
            · have b0 := (nm_bd H.out.byt 20).1
              have b1 := (nm_bd H.out.byt 20).2
              go_wp2_with fail
              refine (rnum_nm A 40 c 20 4 xs wr hI.out (by omega) (by omega) (by omega) (by omega) _ _ rfl rfl).mono ?_
              rintro e w6 ⟨rfl, hu⟩
              have HU6 := Lib.hid (hU.out.trans hu)
              have HC6 := Lib.hid ((hu.block _ (lt_of_blk hC.out)).trans hC.out)
              have HQ6 := Lib.hid ((hu.block _ (lt_of_blk hQ.out)).trans hQ.out)
              clear hu
              have ck : w6.cell? ⟨q, 3, none⟩ = some (.int .u32 0) := cell_of HQ6.out rfl
              have fk : w6.frozen? ⟨q, 3, none⟩ = false := frozen_at HQ6.out
              generalize hv : Cr.nm xs 20 4 = v at b0 b1 ⊢
              have HVV := Lib.hid hv
              clear hv
              go_wp2_with fail
              go_roundw
              case rel =>
                refine ⟨4, by omega, rfl, Lib.hid (HU6.out.setCell (by rw [HR.out]; exact HLQ.out) _), Lib.hid (((setCell_out _ _ _ _).block _ (lt_of_blk HC6.out) HQR.out).trans HC6.out), Lib.hid ?_⟩
                rw [setCell_at _ HQ6.out, ← HVV.out]
                rfl
              case measure => simp [intOf]
            · have b0 := (nm_bd H.out.byt 24).1
              have b1 := (nm_bd H.out.byt 24).2
              go_wp2_with fail
              refine (rnum_nm A 40 c 24 4 xs wr hI.out (by omega) (by omega) (by omega) (by omega) _ _ rfl rfl).mono ?_
              rintro e w6 ⟨rfl, hu⟩
              have HU6 := Lib.hid (hU.out.trans hu)
              have HC6 := Lib.hid ((hu.block _ (lt_of_blk hC.out)).trans hC.out)
              have HQ6 := Lib.hid ((hu.block _ (lt_of_blk hQ.out)).trans hQ.out)
              clear hu
              have ck : w6.cell? ⟨q, 4, none⟩ = some (.int .u32 0) := cell_of HQ6.out rfl
              have fk : w6.frozen? ⟨q, 4, none⟩ = false := frozen_at HQ6.out
              generalize hv : Cr.nm xs 24 4 = v at b0 b1 ⊢
              have HVV := Lib.hid hv
              clear hv
              go_wp2_with fail
              go_roundw
              case rel =>
                refine ⟨5, by omega, rfl, Lib.hid (HU6.out.setCell (by rw [HR.out]; exact HLQ.out) _), Lib.hid (((setCell_out _ _ _ _).block _ (lt_of_blk HC6.out) HQR.out).trans HC6.out), Lib.hid ?_⟩
                rw [setCell_at _ HQ6.out, ← HVV.out]
                rfl
              case measure => simp [intOf]
            · have b0 := (nm_bd H.out.byt 28).1
              have b1 := (nm_bd H.out.byt 28).2
              go_wp2_with fail
              refine (rnum_nm A 40 c 28 4 xs wr hI.out (by omega) (by omega) (by omega) (by omega) _ _ rfl rfl).mono ?_
              rintro e w6 ⟨rfl, hu⟩
              have HU6 := Lib.hid (hU.out.trans hu)
              have HC6 := Lib.hid ((hu.block _ (lt_of_blk hC.out)).trans hC.out)
              have HQ6 := Lib.hid ((hu.block _ (lt_of_blk hQ.out)).trans hQ.out)
              clear hu
              have ck : w6.cell? ⟨q, 5, none⟩ = some (.int .u32 0) := cell_of HQ6.out rfl
              have fk : w6.frozen? ⟨q, 5, none⟩ = false := frozen_at HQ6.out
              generalize hv : Cr.nm xs 28 4 = v at b0 b1 ⊢
              have HVV := Lib.hid hv
              clear hv
              go_wp2_with fail
              go_roundw
              case rel =>
                refine ⟨6, by omega, rfl, Lib.hid (HU6.out.setCell (by rw [HR.out]; exact HLQ.out) _), Lib.hid (((setCell_out _ _ _ _).block _ (lt_of_blk HC6.out) HQR.out).trans HC6.out), Lib.hid ?_⟩
                rw [setCell_at _ HQ6.out, ← HVV.out]
                rfl
              case measure => simp [intOf]
            · have b0 := (nm_bd H.out.byt 32).1
              have b1 := (nm_bd H.out.byt 32).2
              go_wp2_with fail
              refine (rnum_nm A 40 c 32 4 xs wr hI.out (by omega) (by omega) (by omega) (by omega) _ _ rfl rfl).mono ?_
              rintro e w6 ⟨rfl, hu⟩
              have HU6 := Lib.hid (hU.out.trans hu)
              have HC6 := Lib.hid ((hu.block _ (lt_of_blk hC.out)).trans hC.out)
              have HQ6 := Lib.hid ((hu.block _ (lt_of_blk hQ.out)).trans hQ.out)
              clear hu
              have ck : w6.cell? ⟨q, 6, none⟩ = some (.int .u32 0) := cell_of HQ6.out rfl
              have fk : w6.frozen? ⟨q, 6, none⟩ = false := frozen_at HQ6.out
              generalize hv : Cr.nm xs 32 4 = v at b0 b1 ⊢
              have HVV := Lib.hid hv
              clear hv
              go_wp2_with fail
              go_roundw
              case rel =>
                refine ⟨7, by omega, rfl, Lib.hid (HU6.out.setCell (by rw [HR.out]; exact HLQ.out) _), Lib.hid (((setCell_out _ _ _ _).block _ (lt_of_blk HC6.out) HQR.out).trans HC6.out), Lib.hid ?_⟩
                rw [setCell_at _ HQ6.out, ← HVV.out]
                rfl
              case measure => simp [intOf]
          · obtain rfl : j = 7 := by omega
            have hQ7 := Lib.hid (show wr.heap[q]? = some (.cells #[.int .u32 (Cr.nm xs 8 4), .int .u32 (Cr.nm xs 12 4), .int .u32 (Cr.nm xs 16 4), .int .u32 (Cr.nm xs 20 4), .int .u32 (Cr.nm xs 24 4), .int .u32 (Cr.nm xs 28 4), .int .u32 (Cr.nm xs 32 4)] 51 (0, 0)) from hQ.out)
            generalize hf0 : Cr.nm xs 8 4 = f0 at hQ7
            have HF0 := Lib.hid hf0
            have g0 : wr.cell? ⟨q, 0, none⟩ = some (.int .u32 f0) := cell_of hQ7.out rfl
            generalize hf1 : Cr.nm xs 12 4 = f1 at hQ7
            have HF1 := Lib.hid hf1
            have g1 : wr.cell? ⟨q, 1, none⟩ = some (.int .u32 f1) := cell_of hQ7.out rfl
            generalize hf2 : Cr.nm xs 16 4 = f2 at hQ7
            have HF2 := Lib.hid hf2
            have g2 : wr.cell? ⟨q, 2, none⟩ = some (.int .u32 f2) := cell_of hQ7.out rfl
            generalize hf3 : Cr.nm xs 20 4 = f3 at hQ7
            have HF3 := Lib.hid hf3
            have g3 : wr.cell? ⟨q, 3, none⟩ = some (.int .u32 f3) := cell_of hQ7.out rfl
            generalize hf4 : Cr.nm xs 24 4 = f4 at hQ7
            have HF4 := Lib.hid hf4
            have g4 : wr.cell? ⟨q, 4, none⟩ = some (.int .u32 f4) := cell_of hQ7.out rfl
            generalize hf5 : Cr.nm xs 28 4 = f5 at hQ7
            have HF5 := Lib.hid hf5
            have g5 : wr.cell? ⟨q, 5, none⟩ = some (.int .u32 f5) := cell_of hQ7.out rfl
            generalize hf6 : Cr.nm xs 32 4 = f6 at hQ7
            have HF6 := Lib.hid hf6
            have g6 : wr.cell? ⟨q, 6, none⟩ = some (.int .u32 f6) := cell_of hQ7.out rfl
            clear hf0 hf1 hf2 hf3 hf4 hf5 hf6
            have HDEC := Lib.hid (show (Cr.dec xs).cells = #[.int .i64 n, .int .u32 f0, .int .u32 f1, .int .u32 f2, .int .u32 f3, .int .u32 f4, .int .u32 f5, .int .u32 f6] from by
              show (#[.int .i64 (wrap64 (Cr.nm xs 0 8)), .int .u32 (Cr.nm xs 8 4), .int .u32 (Cr.nm xs 12 4), .int .u32 (Cr.nm xs 16 4), .int .u32 (Cr.nm xs 20 4), .int .u32 (Cr.nm xs 24 4), .int .u32 (Cr.nm xs 28 4), .int .u32 (Cr.nm xs 32 4)] : Array Value) = _
              rw [HNN.out, wrap_small n0 hbig, HF0.out, HF1.out, HF2.out, HF3.out, HF4.out, HF5.out, HF6.out])
            by_cases h0 : f0 = 0
            case pos =>
              have HO := Lib.hid (opn_no (key := key) HL.out HEQ.out (fun h => ((fit_iff xs H.out.byt).1 h).2.1 (by rw [HF0.out]; exact h0)))
              have z1 : (f0 == 0) = true := by simpa using h0
              clear h0
              go_wp2_with (with_reducible refine wpList_store_row rfl 25 _ _ rfl r #[.int .i64 0, .int .u32 0, .int .u32 0, .int .u32 0, .int .u32 0, .int .u32 0, .int .u32 0, .int .u32 0] rfl rfl 25 _ hC.out (by kernel_rfl) rfl crOneZ ?_)
              refine bodyPost_ret (results_row_tmp (fn := Try.f11) (p := 4) (u := 5) (ty := 25) rfl _ _ r 25 _ (0, 0) _ rfl (setRow_heap _ _ _ _ _ _ hC.out) Try.underlying25 rfl (by kernel_rfl)) rfl ?_
              exact opPost_no HO.out rfl (below_setRow hU.out (by rw [HR.out]; exact Nat.le_refl _) _)
            have z1 : (f0 == 0) = false := by simpa using h0
            have HNZ := Lib.hid h0
            clear h0
            by_cases h0 : f1 = 0
            case pos =>
              have HO := Lib.hid (opn_no (key := key) HL.out HEQ.out (fun h => ((fit_iff xs H.out.byt).1 h).2.2 (by rw [HF1.out]; exact h0)))
              have z2 : (f1 == 0) = true := by simpa using h0
              clear h0
              go_wp2_with (with_reducible refine wpList_store_row rfl 25 _ _ rfl r #[.int .i64 0, .int .u32 0, .int .u32 0, .int .u32 0, .int .u32 0, .int .u32 0, .int .u32 0, .int .u32 0] rfl rfl 25 _ hC.out (by kernel_rfl) rfl crOneZ ?_)
              refine bodyPost_ret (results_row_tmp (fn := Try.f11) (p := 4) (u := 5) (ty := 25) rfl _ _ r 25 _ (0, 0) _ rfl (setRow_heap _ _ _ _ _ _ hC.out) Try.underlying25 rfl (by kernel_rfl)) rfl ?_
              exact opPost_no HO.out rfl (below_setRow hU.out (by rw [HR.out]; exact Nat.le_refl _) _)
            have z2 : (f1 == 0) = false := by simpa using h0
            have HO := Lib.hid (opn_ok (key := key) HL.out HEQ.out ((fit_iff xs H.out.byt).2 ⟨HBG.out, by rw [HF0.out]; exact HNZ.out, by rw [HF1.out]; exact h0⟩))
            clear h0
            go_wp2_with (with_reducible refine wpList_store_row rfl 25 _ _ rfl r #[.int .i64 n, .int .u32 f0, .int .u32 f1, .int .u32 f2, .int .u32 f3, .int .u32 f4, .int .u32 f5, .int .u32 f6] rfl rfl 25 _ hC.out (by kernel_rfl) rfl (by simp [Value.oneCell']) ?_)
            refine bodyPost_ret (results_row_tmp (fn := Try.f11) (p := 4) (u := 5) (ty := 25) rfl _ _ r 25 _ (0, 0) _ rfl (setRow_heap _ _ _ _ _ _ hC.out) Try.underlying25 rfl (by kernel_rfl)) rfl ?_
            refine ⟨?_, Lib.hid (below_setRow hU.out (by rw [HR.out]; exact Nat.le_refl _) _)⟩
            rw [HO.out]
            show _ = Ending.returned (.tuple #[.agg (Cr.dec xs).cells, .int .i64 0])
            rw [HDEC.out]
            rfl
theorem ropen_any (key : Int) (A : Option Addr) (m c : Nat) (xs : List Int) (w : World) (h : InB w A m c xs) (hm : m ≤ 140737488351232) : Calls Try.prog 11 #[.int .u64 key, .slice A m c] w (OpPost key xs w) := by
  by_cases h1 : m < 40
  · exact ropen_short key A m c xs w h.len h1
  by_cases h2 : 40 < m
  · exact ropen_long key A m c xs w h.len h2 hm
  obtain rfl : m = 40 := by omega
  exact ropen_full key A c xs w h
end Go.Proofs.Ytdlgdlgpmfccmaa
