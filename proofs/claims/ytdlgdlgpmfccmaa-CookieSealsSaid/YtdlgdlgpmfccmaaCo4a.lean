import Derived.Test.YtdlgdlgpmfccmaaCo3
import Derived.Test.YtdlgdlgpmfccmaaSteady
import Derived.Test.YtdlgdlgpmfccmaaBytes
namespace Go.Proofs.Ytdlgdlgpmfccmaa
open Go Go.RowKit
set_option linter.unusedVariables false
set_option linter.unusedSimpArgs false
/-! cookie.Open. -/
def OpPost (key : Int) (xs : List Int) (w : World) (e : Ending) (w' : World) : Prop := e = .returned (.tuple #[(Cr.opn key xs).1.val, .int .i64 (Cr.opn key xs).2]) ∧ Hid (Up w w')
theorem opPost_no {key : Int} {xs : List Int} {k : Int} {w w' : World} {e : Ending} (h : Cr.opn key xs = (Cr.zero, k)) (he : e = .returned (.tuple #[.agg #[.int .i64 0, .int .u32 0, .int .u32 0, .int .u32 0, .int .u32 0, .int .u32 0, .int .u32 0, .int .u32 0], .int .i64 k])) (hu : Up w w') : OpPost key xs w e w' := by
  unfold OpPost; rw [h]; exact ⟨he, Lib.hid hu⟩
theorem crOne (x : Cr) : x.cells.all (·.oneCell') = true := by simp [Cr.cells, Value.oneCell']
theorem crOneZ : (#[.int .i64 0, .int .u32 0, .int .u32 0, .int .u32 0, .int .u32 0, .int .u32 0, .int .u32 0, .int .u32 0] : Array Value).all (·.oneCell') = true := crOne Cr.zero
def uptoC (xs : List Int) (tv : Int) : Nat → Array Value
  | 0 => #[.int .i64 tv, .int .u32 0, .int .u32 0, .int .u32 0, .int .u32 0, .int .u32 0, .int .u32 0, .int .u32 0]
  | 1 => #[.int .i64 tv, .int .u32 (Cr.nm xs 8 4), .int .u32 0, .int .u32 0, .int .u32 0, .int .u32 0, .int .u32 0, .int .u32 0]
  | 2 => #[.int .i64 tv, .int .u32 (Cr.nm xs 8 4), .int .u32 (Cr.nm xs 12 4), .int .u32 0, .int .u32 0, .int .u32 0, .int .u32 0, .int .u32 0]
  | 3 => #[.int .i64 tv, .int .u32 (Cr.nm xs 8 4), .int .u32 (Cr.nm xs 12 4), .int .u32 (Cr.nm xs 16 4), .int .u32 0, .int .u32 0, .int .u32 0, .int .u32 0]
  | 4 => #[.int .i64 tv, .int .u32 (Cr.nm xs 8 4), .int .u32 (Cr.nm xs 12 4), .int .u32 (Cr.nm xs 16 4), .int .u32 (Cr.nm xs 20 4), .int .u32 0, .int .u32 0, .int .u32 0]
  | 5 => #[.int .i64 tv, .int .u32 (Cr.nm xs 8 4), .int .u32 (Cr.nm xs 12 4), .int .u32 (Cr.nm xs 16 4), .int .u32 (Cr.nm xs 20 4), .int .u32 (Cr.nm xs 24 4), .int .u32 0, .int .u32 0]
  | 6 => #[.int .i64 tv, .int .u32 (Cr.nm xs 8 4), .int .u32 (Cr.nm xs 12 4), .int .u32 (Cr.nm xs 16 4), .int .u32 (Cr.nm xs 20 4), .int .u32 (Cr.nm xs 24 4), .int .u32 (Cr.nm xs 28 4), .int .u32 0]
  | _ => #[.int .i64 tv, .int .u32 (Cr.nm xs 8 4), .int .u32 (Cr.nm xs 12 4), .int .u32 (Cr.nm xs 16 4), .int .u32 (Cr.nm xs 20 4), .int .u32 (Cr.nm xs 24 4), .int .u32 (Cr.nm xs 28 4), .int .u32 (Cr.nm xs 32 4)]
theorem nm_bd {xs : List Int} (h : Byt xs) (i : Nat) : 0 ≤ Cr.nm xs i 4 ∧ Cr.nm xs i 4 < 4294967296 := by
  have h1 := num_bd ((xs.drop i).take 4) ((h.drop i).take 4)
  have h2 : ((xs.drop i).take 4).length ≤ 4 := by simp; omega
  have h3 : (256 : Int) ^ ((xs.drop i).take 4).length ≤ 4294967296 := by
    match ((xs.drop i).take 4).length, h2 with
    | 0, _ => decide
    | 1, _ => decide
    | 2, _ => decide
    | 3, _ => decide
    | 4, _ => decide
  unfold Cr.nm; omega
theorem nm8_bd {xs : List Int} (h : Byt xs) (i : Nat) : 0 ≤ Cr.nm xs i 8 ∧ Cr.nm xs i 8 < 18446744073709551616 := num_u64 _ ((h.drop i).take 8) (by simp; omega)
theorem opn_short {key : Int} {xs : List Int} (h : xs.length < 40) : Cr.opn key xs = (Cr.zero, 3) := by unfold Cr.opn; rw [if_pos h]
theorem opn_long {key : Int} {xs : List Int} (h : 40 < xs.length) : Cr.opn key xs = (Cr.zero, 2) := by unfold Cr.opn; rw [if_neg (by omega), if_pos h]
theorem opn_sum {key : Int} {xs : List Int} (h : xs.length = 40) (hs : Cr.nm xs 36 4 ≠ (Cr.sum key (xs.take 36) : Nat)) : Cr.opn key xs = (Cr.zero, 5) := by unfold Cr.opn; rw [if_neg (by omega), if_neg (by omega), if_pos hs]
theorem opn_no {key : Int} {xs : List Int} (h : xs.length = 40) (hs : Cr.nm xs 36 4 = (Cr.sum key (xs.take 36) : Nat)) (hf : ¬ (Cr.dec xs).fit) : Cr.opn key xs = (Cr.zero, 2) := by unfold Cr.opn; rw [if_neg (by omega), if_neg (by omega), if_neg (by simpa using hs), if_neg hf]
theorem opn_ok {key : Int} {xs : List Int} (h : xs.length = 40) (hs : Cr.nm xs 36 4 = (Cr.sum key (xs.take 36) : Nat)) (hf : (Cr.dec xs).fit) : Cr.opn key xs = (Cr.dec xs, 0) := by unfold Cr.opn; rw [if_neg (by omega), if_neg (by omega), if_neg (by simpa using hs), if_pos hf]
theorem fine_neqi {P : Program} {o : Oper} {a : Act} {w : World} {φ : Value → World → Prop} (tx ty : TypeId) (x y : Operand) (k : IntKind) (n m : Int) (b : Bool) (ho : o.op = .binOp .neq tx x y ty) (hx : a.eval x = .int k n) (hy : a.eval y = .int k m) (hb : (n != m) = b) (h : φ (.bool b) w) : Fine P o a w φ := by
  refine fine_bin .neq tx ty x y _ ho ?_ ?_ h
  · rw [hx, hy]; simp [go_sem]
  · rw [hx, hy, ← hb]; simp [go_sem, bne]
theorem size5 : (Try.prog.info? 5).map (·.size) = some 1 := by kernel_rfl
set_option maxRecDepth 100000 in
set_option maxHeartbeats 4000000 in
theorem open_short (key : Int) (A : Option Addr) (m c : Nat) (xs : List Int) (w : World) (h : xs.length = m) (hm : m < 40) : Calls Try.prog 10 #[.int .u64 key, .slice A m c] w (OpPost key xs w) := by
  have HO := Lib.hid (opn_short (key := key) (xs := xs) (by omega))
  clear h
  have HC := Lib.hid (show (w.alloc (.cells #[.int .i64 0, .int .u32 0, .int .u32 0, .int .u32 0, .int .u32 0, .int .u32 0, .int .u32 0, .int .u32 0] 25)).heap[w.heap.size]? = some (.cells #[.int .i64 0, .int .u32 0, .int .u32 0, .int .u32 0, .int .u32 0, .int .u32 0, .int .u32 0, .int .u32 0] 25 (0, 0)) from new_at w _)
  have HU := Lib.hid (up_alloc w (.cells #[.int .i64 0, .int .u32 0, .int .u32 0, .int .u32 0, .int .u32 0, .int .u32 0, .int .u32 0, .int .u32 0] 25))
  have hd : decide ((m : Int) < 40) = true := by simp; omega
  go_enter Try.func10, Try.ntmps10
  go_wp2_with (with_reducible refine wpList_store_row rfl 25 _ _ rfl w.heap.size #[.int .i64 0, .int .u32 0, .int .u32 0, .int .u32 0, .int .u32 0, .int .u32 0, .int .u32 0, .int .u32 0] rfl rfl 25 _ HC.out (by kernel_rfl) rfl crOneZ ?_)
  refine bodyPost_ret (results_row_tmp (fn := Try.f10) (p := 4) (u := 5) (ty := 25) rfl _ _ w.heap.size 25 _ (0, 0) _ rfl (setRow_heap _ _ _ _ _ _ HC.out) Try.underlying25 rfl (by kernel_rfl)) rfl ?_
  exact opPost_no HO.out rfl (below_setRow HU.out (Nat.le_refl _) _)
set_option maxRecDepth 100000 in
set_option maxHeartbeats 4000000 in
theorem open_long (key : Int) (A : Option Addr) (m c : Nat) (xs : List Int) (w : World) (h : xs.length = m) (hm : 40 < m) (hm2 : m ≤ 140737488351232) : Calls Try.prog 10 #[.int .u64 key, .slice A m c] w (OpPost key xs w) := by
  have HO := Lib.hid (opn_long (key := key) (xs := xs) (by omega))
  clear h
  have HC := Lib.hid (show (w.alloc (.cells #[.int .i64 0, .int .u32 0, .int .u32 0, .int .u32 0, .int .u32 0, .int .u32 0, .int .u32 0, .int .u32 0] 25)).heap[w.heap.size]? = some (.cells #[.int .i64 0, .int .u32 0, .int .u32 0, .int .u32 0, .int .u32 0, .int .u32 0, .int .u32 0, .int .u32 0] 25 (0, 0)) from new_at w _)
  have HU := Lib.hid (up_alloc w (.cells #[.int .i64 0, .int .u32 0, .int .u32 0, .int .u32 0, .int .u32 0, .int .u32 0, .int .u32 0, .int .u32 0] 25))
  have hd : decide ((m : Int) < 40) = false := by simp; omega
  have hd2 : decide (40 < (m : Int)) = true := by simp; omega
  go_enter Try.func10, Try.ntmps10
  go_wp2_with (with_reducible refine wpList_store_row rfl 25 _ _ rfl w.heap.size #[.int .i64 0, .int .u32 0, .int .u32 0, .int .u32 0, .int .u32 0, .int .u32 0, .int .u32 0, .int .u32 0] rfl rfl 25 _ HC.out (by kernel_rfl) rfl crOneZ ?_)
  refine bodyPost_ret (results_row_tmp (fn := Try.f10) (p := 4) (u := 5) (ty := 25) rfl _ _ w.heap.size 25 _ (0, 0) _ rfl (setRow_heap _ _ _ _ _ _ HC.out) Try.underlying25 rfl (by kernel_rfl)) rfl ?_
  exact opPost_no HO.out rfl (below_setRow HU.out (Nat.le_refl _) _)
end Go.Proofs.Ytdlgdlgpmfccmaa
namespace Go.Proofs.Ytdlgdlgpmfccmaa
open Go Go.RowKit
set_option linter.unusedVariables false
set_option linter.unusedSimpArgs false
theorem HS8 {x : Cr} {cs : Array Value} (h : x.cells = cs) : (#[.int .i64 0, .int .u32 0, .int .u32 0, .int .u32 0, .int .u32 0, .int .u32 0, .int .u32 0, .int .u32 0] : Array Value).size = cs.size := by rw [← h]; rfl
set_option maxRecDepth 100000 in
set_option maxHeartbeats 8000000 in
theorem open_full (key : Int) (A : Option Addr) (c : Nat) (xs : List Int) (w : World) (h : InB w A 40 c xs) : Calls Try.prog 10 #[.int .u64 key, .slice A 40 c] w (OpPost key xs w) := by
  have H := Lib.hid h
  have HL := Lib.hid h.len
  clear h
  have HC := Lib.hid (show (w.alloc (.cells #[.int .i64 0, .int .u32 0, .int .u32 0, .int .u32 0, .int .u32 0, .int .u32 0, .int .u32 0, .int .u32 0] 25)).heap[w.heap.size]? = some (.cells #[.int .i64 0, .int .u32 0, .int .u32 0, .int .u32 0, .int .u32 0, .int .u32 0, .int .u32 0, .int .u32 0] 25 (0, 0)) from new_at w _)
  have HU := Lib.hid (up_alloc w (.cells #[.int .i64 0, .int .u32 0, .int .u32 0, .int .u32 0, .int .u32 0, .int .u32 0, .int .u32 0, .int .u32 0] 25))
  have HLT := Lib.hid (Cr.sum_lt (key := key) (H.out.byt.take 36))
  generalize hb : (Cr.nm xs 36 4 != ((Cr.sum key (xs.take 36) : Nat) : Int)) = bad
  have HBAD := Lib.hid hb
  clear hb
  go_enter Try.func10, Try.ntmps10
  go_upto_region 5 with (fail)
  generalize w.alloc (.cells #[.int .i64 0, .int .u32 0, .int .u32 0, .int .u32 0, .int .u32 0, .int .u32 0, .int .u32 0, .int .u32 0] 25) = w1 at HC HU ⊢
  generalize hrr : w.heap.size = r at HC ⊢
  have HR := Lib.hid hrr
  clear hrr
  refine steady_lit (by kernel_rfl) (facts [Is (.slice A 40 c), Is (.int .u64 (Cr.nm xs 36 4)), Is (.int .u64 key), Is (.slice A 40 c), IsI .u8 (xs.take 36), Is (.int .u64 ((Cr.sum key (xs.take 36) : Nat) : Int)), Is (.bool bad), Is (.bool bad)])
    (facts_keep (by simp [keeps_is, keeps_isI])) 51 rfl (by decide +kernel) (by decide +kernel) ?_ ?_
  · refine ⟨?_, ?_, ?_, ?_, ?_, ?_, ?_, ?_, trivial⟩
    · refine opOk_plain rfl fun a w3 hu ho hd => ?_
      have s := ho 1 rfl
      exact fine_move _ rfl s
    · refine opOk_plain rfl fun a w3 hu ho hd => ?_
      have d1 := hd 0 _ _ rfl rfl rfl
      exact fine_fcall 19 [.tmp 20, .const (.int .i64 36), .const (.int .i64 4)] _ rfl (by kernel_rfl) (by simp only [List.map_cons, List.map_nil, show a.eval (.tmp 20) = _ from d1]; exact ((number_any A 40 c 36 4 xs w3 ((H.out.up HU.out).up hu) (by omega) (by omega) (by omega) (by omega) _ rfl _ rfl).mono fun e w' ⟨he, hw⟩ => ⟨by rw [hw]; exact Up.refl _, _, he, rfl⟩))
    · refine opOk_plain rfl fun a w3 hu ho hd => ?_
      have s := ho 0 rfl
      exact fine_move _ rfl s
    · refine opOk_plain rfl fun a w3 hu ho hd => ?_
      have s := ho 1 rfl
      exact fine_move _ rfl s
    · refine opOk_plain rfl fun a w3 hu ho hd => ?_
      have d1 := hd 3 _ _ rfl rfl rfl
      exact fine_sliceHi (.tmp 23) (.const (.int .i64 36)) 26 5 .u8 Try.underlying26 size5 xs 36 rfl (by rw [show a.eval (.tmp 23) = _ from d1]; exact (((H.out.up HU.out).up hu)).isI) rfl (by have := HL.out; omega) (fun A' c' hc hcl => ⟨A', c', by rw [ints_length, List.length_take, HL.out]; rfl, by rw [ints_length, List.length_take]; omega, hcl⟩)
    · refine opOk_plain rfl fun a w3 hu ho hd => ?_
      have d1 := hd 2 _ _ rfl rfl rfl
      obtain ⟨B0, c0, e1, hc1, x1⟩ := hd 4 _ _ rfl rfl rfl
      rw [ints_length] at e1 hc1
      have hln : (xs.take 36).length = 36 := by rw [List.length_take, HL.out]; rfl
      rw [hln] at e1 hc1
      exact fine_fcall 16 [.tmp 22, .tmp 24] _ rfl (by kernel_rfl) (by simp only [List.map_cons, List.map_nil, show a.eval (.tmp 24) = _ from e1, show a.eval (.tmp 22) = _ from d1]; exact ((csum_any key B0 36 c0 (xs.take 36) _ ⟨x1, H.out.byt.take 36, hc1, hln⟩ (by omega)).mono fun e w' ⟨he, hup⟩ => ⟨hup, _, he, rfl⟩))
    · refine opOk_plain rfl fun a w3 hu ho hd => ?_
      have d1 := hd 1 _ _ rfl rfl rfl
      have d2 := hd 5 _ _ rfl rfl rfl
      exact fine_neqi _ _ _ _ .u64 (Cr.nm xs 36 4) ((Cr.sum key (xs.take 36) : Nat) : Int) bad rfl d1 d2 HBAD.out rfl
    · refine opOk_plain rfl fun a w3 hu ho hd => ?_
      have d1 := hd 6 _ _ rfl rfl rfl
      exact fine_assign _ rfl d1
  · intro a w2 hI
    have HU2 := Lib.hid (HU.out.trans hI.world)
    have HC2 := Lib.hid ((hI.world.block _ (lt_of_blk HC.out)).trans HC.out)
    have l0 : a.tmps.getD 0 undef = .int .u64 key := hI.old 0 rfl
    have l1 : a.tmps.getD 1 undef = .slice A 40 c := hI.old 1 rfl
    have l4 : a.tmps.getD 4 undef = .pointer (some ⟨r, 0, none⟩) := hI.old 4 rfl
    have l5 : a.tmps.getD 5 undef = .int .i64 0 := hI.old 5 rfl
    have l19 : a.tmps.getD 19 undef = .bool bad := hI.get (i := 7) rfl rfl
    have hde : a.defers = [] := hI.defers
    have hal := act_lit a 51 hI.size
    clear hI
    simp only [List.range, List.range.loop, List.map_cons, List.map_nil] at hal
    rw [l0, l1, l4, l5, l19, hde] at hal
    generalize a.tmps.getD 2 undef = t2 at hal
    generalize a.tmps.getD 3 undef = t3 at hal
    generalize a.tmps.getD 6 undef = t6 at hal
    generalize a.tmps.getD 7 undef = t7 at hal
    generalize a.tmps.getD 8 undef = t8 at hal
    generalize a.tmps.getD 9 undef = t9 at hal
    generalize a.tmps.getD 10 undef = t10 at hal
    generalize a.tmps.getD 11 undef = t11 at hal
    generalize a.tmps.getD 12 undef = t12 at hal
    generalize a.tmps.getD 13 undef = t13 at hal
    generalize a.tmps.getD 14 undef = t14 at hal
    generalize a.tmps.getD 15 undef = t15 at hal
    generalize a.tmps.getD 16 undef = t16 at hal
    generalize a.tmps.getD 17 undef = t17 at hal
    generalize a.tmps.getD 18 undef = t18 at hal
    generalize a.tmps.getD 20 undef = t20 at hal
    generalize a.tmps.getD 21 undef = t21 at hal
    generalize a.tmps.getD 22 undef = t22 at hal
    generalize a.tmps.getD 23 undef = t23 at hal
    generalize a.tmps.getD 24 undef = t24 at hal
    generalize a.tmps.getD 25 undef = t25 at hal
    generalize a.tmps.getD 26 undef = t26 at hal
    generalize a.tmps.getD 27 undef = t27 at hal
    generalize a.tmps.getD 28 undef = t28 at hal
    generalize a.tmps.getD 29 undef = t29 at hal
    generalize a.tmps.getD 30 undef = t30 at hal
    generalize a.tmps.getD 31 undef = t31 at hal
    generalize a.tmps.getD 32 undef = t32 at hal
    generalize a.tmps.getD 33 undef = t33 at hal
    generalize a.tmps.getD 34 undef = t34 at hal
    generalize a.tmps.getD 35 undef = t35 at hal
    generalize a.tmps.getD 36 undef = t36 at hal
    generalize a.tmps.getD 37 undef = t37 at hal
    generalize a.tmps.getD 38 undef = t38 at hal
    generalize a.tmps.getD 39 undef = t39 at hal
    generalize a.tmps.getD 40 undef = t40 at hal
    generalize a.tmps.getD 41 undef = t41 at hal
    generalize a.tmps.getD 42 undef = t42 at hal
    generalize a.tmps.getD 43 undef = t43 at hal
    generalize a.tmps.getD 44 undef = t44 at hal
    generalize a.tmps.getD 45 undef = t45 at hal
    generalize a.tmps.getD 46 undef = t46 at hal
    generalize a.tmps.getD 47 undef = t47 at hal
    generalize a.tmps.getD 48 undef = t48 at hal
    generalize a.tmps.getD 49 undef = t49 at hal
    generalize a.tmps.getD 50 undef = t50 at hal
    clear l0 l1 l4 l5 l19 hde
    subst hal
    have H2 := Lib.hid (H.out.up HU2.out)
    clear HC HU
    cases bad
    case true =>
      have HO := Lib.hid (opn_sum (key := key) HL.out (by simpa using HBAD.out))
      go_wp2_with (with_reducible refine wpList_store_row rfl 25 _ _ rfl r #[.int .i64 0, .int .u32 0, .int .u32 0, .int .u32 0, .int .u32 0, .int .u32 0, .int .u32 0, .int .u32 0] rfl rfl 25 _ HC2.out (by kernel_rfl) rfl crOneZ ?_)
      refine bodyPost_ret (results_row_tmp (fn := Try.f10) (p := 4) (u := 5) (ty := 25) rfl _ _ r 25 _ (0, 0) _ rfl (setRow_heap _ _ _ _ _ _ HC2.out) Try.underlying25 rfl (by kernel_rfl)) rfl ?_
      exact opPost_no HO.out rfl (below_setRow HU2.out (by rw [HR.out]; exact Nat.le_refl _) _)
    case false =>
      have HEQ := Lib.hid (show Cr.nm xs 36 4 = ((Cr.sum key (xs.take 36) : Nat) : Int) by simpa using HBAD.out)
      have z0 := (nm8_bd H2.out.byt 0).1
      have z1 := (nm8_bd H2.out.byt 0).2
      go_wp2_with fail
      refine (number_any A 40 c 0 8 xs w2 H2.out (by omega) (by omega) (by omega) (by omega) _ rfl _ rfl).mono ?_
      rintro e w3 ⟨rfl, he⟩
      rw [he]
      clear he w3 z0 z1
      go_upto_region 8 with (fail)
      generalize htv : wrap64 (Cr.nm xs 0 8) = tv
      have HTV := Lib.hid htv
      clear htv
      have HQ3 := Lib.hid (show (w2.alloc (.cells #[.int .i64 tv, .int .u32 0, .int .u32 0, .int .u32 0, .int .u32 0, .int .u32 0, .int .u32 0, .int .u32 0] 25)).heap[w2.heap.size]? = some (.cells (uptoC xs tv 0) 25 (0, 0)) from new_at w2 _)
      have HX3 := up_alloc w2 (.cells #[.int .i64 tv, .int .u32 0, .int .u32 0, .int .u32 0, .int .u32 0, .int .u32 0, .int .u32 0, .int .u32 0] 25)
      have HU3 := Lib.hid (HU2.out.trans HX3)
      have HC3 := Lib.hid ((HX3.block _ (lt_of_blk HC2.out)).trans HC2.out)
      have hlt := lt_of_blk HC2.out
      have hsz := HU2.out.size
      rw [HR.out] at hsz
      clear HX3
      generalize w2.alloc (.cells #[.int .i64 tv, .int .u32 0, .int .u32 0, .int .u32 0, .int .u32 0, .int .u32 0, .int .u32 0, .int .u32 0] 25) = w3 at HQ3 HU3 HC3 ⊢
      generalize w2.heap.size = q at HQ3 hlt hsz ⊢
      have hqr : ¬ r = q := by omega
      have HLQ := Lib.hid hsz
      have HQR := Lib.hid hqr
      clear hlt hsz hqr HU2 HC2 H2
      go_wp2_with fail
      refine (behind_any q w3).mono ?_
      rintro e w4 ⟨rfl, hu⟩
      unfold ptr
      have HU4 := Lib.hid (HU3.out.trans hu.out)
      have HC4 := Lib.hid ((hu.out.block _ (lt_of_blk HC3.out)).trans HC3.out)
      have HQ4 := Lib.hid ((hu.out.block _ (lt_of_blk HQ3.out)).trans HQ3.out)
      clear hu HU3 HC3 HQ3
      go_wp2_with fail
      go_loopw [33] (fun i wr => ∃ (j : Nat), j ≤ 7 ∧ i = .int .i64 j ∧ Hid (Up w wr) ∧ Hid (wr.heap[r]? = some (.cells #[.int .i64 0, .int .u32 0, .int .u32 0, .int .u32 0, .int .u32 0, .int .u32 0, .int .u32 0, .int .u32 0] 25 (0, 0))) ∧ Hid (wr.heap[q]? = some (.cells (uptoC xs tv j) 25 (0, 0)))) (fun i _ => 7 - (intOf i).toNat)
      case atStart => exact ⟨0, Nat.zero_le _, rfl, HU4, HC4, HQ4⟩
      case round =>
        obtain ⟨j, hj, rfl, hU, hC, hQ⟩ := hrel
        have hI := Lib.hid (H.out.up hU.out)
        by_cases hlt : j < 7
        · obtain rfl | rfl | rfl | rfl | rfl | rfl | rfl : j = 0 ∨ j = 1 ∨ j = 2 ∨ j = 3 ∨ j = 4 ∨ j = 5 ∨ j = 6 := by omega
          · have hix : ∀ w, (Instr.index 42 (.agg #[.pointer (some ⟨q, 1, none⟩), .pointer (some ⟨q, 2, none⟩), .pointer (some ⟨q, 3, none⟩), .pointer (some ⟨q, 4, none⟩), .pointer (some ⟨q, 5, none⟩), .pointer (some ⟨q, 6, none⟩), .pointer (some ⟨q, 7, none⟩)]) (.int .i64 0)).run Try.prog w = .ok (.pointer (some ⟨q, 1, none⟩)) w := fun w => index_arr _ rfl 0 _ rfl _ rfl w
            have b0 := (nm_bd H.out.byt 8).1
            have b1 := (nm_bd H.out.byt 8).2
            have ck : wr.cell? ⟨q, 1, none⟩ = some (.int .u32 0) := cell_of hQ.out rfl
            have fk : wr.frozen? ⟨q, 1, none⟩ = false := frozen_at hQ.out
            go_wp2_with fail
            refine (number_any A 40 c 8 4 xs wr hI.out (by omega) (by omega) (by omega) (by omega) _ rfl _ rfl).mono ?_
            rintro e w5 ⟨rfl, he⟩
            rw [he]
            clear he w5
            generalize hv : Cr.nm xs 8 4 = v at b0 b1 ⊢
            have HVV := Lib.hid hv
            clear hv
            go_wp2_with fail
            go_roundw
            case rel =>
              refine ⟨1, by omega, rfl, Lib.hid (hU.out.setCell (by rw [HR.out]; exact HLQ.out) _), Lib.hid (((setCell_out _ _ _ _).block _ (lt_of_blk hC.out) HQR.out).trans hC.out), Lib.hid ?_⟩
              rw [setCell_at _ hQ.out, ← HVV.out]
              rfl
            case measure => simp [intOf]
          · have hix : ∀ w, (Instr.index 42 (.agg #[.pointer (some ⟨q, 1, none⟩), .pointer (some ⟨q, 2, none⟩), .pointer (some ⟨q, 3, none⟩), .pointer (some ⟨q, 4, none⟩), .pointer (some ⟨q, 5, none⟩), .pointer (some ⟨q, 6, none⟩), .pointer (some ⟨q, 7, none⟩)]) (.int .i64 1)).run Try.prog w = .ok (.pointer (some ⟨q, 2, none⟩)) w := fun w => index_arr _ rfl 1 _ rfl _ rfl w
            have b0 := (nm_bd H.out.byt 12).1
            have b1 := (nm_bd H.out.byt 12).2
            have ck : wr.cell? ⟨q, 2, none⟩ = some (.int .u32 0) := cell_of hQ.out rfl
            have fk : wr.frozen? ⟨q, 2, none⟩ = false := frozen_at hQ.out
            go_wp2_with fail
            refine (number_any A 40 c 12 4 xs wr hI.out (by omega) (by omega) (by omega) (by omega) _ rfl _ rfl).mono ?_
            rintro e w5 ⟨rfl, he⟩
            rw [he]
            clear he w5
            generalize hv : Cr.nm xs 12 4 = v at b0 b1 ⊢
            have HVV := Lib.hid hv
            clear hv
            go_wp2_with fail
            go_roundw
            case rel =>
              refine ⟨2, by omega, rfl, Lib.hid (hU.out.setCell (by rw [HR.out]; exact HLQ.out) _), Lib.hid (((setCell_out _ _ _ _).block _ (lt_of_blk hC.out) HQR.out).trans hC.out), Lib.hid ?_⟩
              rw [setCell_at _ hQ.out, ← HVV.out]
              rfl
            case measure => simp [intOf]
          · have hix : ∀ w, (Instr.index 42 (.agg #[.pointer (some ⟨q, 1, none⟩), .pointer (some ⟨q, 2, none⟩), .pointer (some ⟨q, 3, none⟩), .pointer (some ⟨q, 4, none⟩), .pointer (some ⟨q, 5, none⟩), .pointer (some ⟨q, 6, none⟩), .pointer (some ⟨q, 7, none⟩)]) (.int .i64 2)).run Try.prog w = .ok (.pointer (some ⟨q, 3, none⟩)) w := fun w => index_arr _ rfl 2 _ rfl _ rfl w
            have b0 := (nm_bd H.out.byt 16).1
            have b1 := (nm_bd H.out.byt 16).2
            have ck : wr.cell? ⟨q, 3, none⟩ = some (.int .u32 0) := cell_of hQ.out rfl
            have fk : wr.frozen? ⟨q, 3, none⟩ = false := frozen_at hQ.out
            go_wp2_with fail
            refine (number_any A 40 c 16 4 xs wr hI.out (by omega) (by omega) (by omega) (by omega) _ rfl _ rfl).mono ?_
            rintro e w5 ⟨rfl, he⟩
            rw [he]
            clear he w5
            generalize hv : Cr.nm xs 16 4 = v at b0 b1 ⊢
            have HVV := Lib.hid hv
            clear hv
            go_wp2_with fail
            go_roundw
            case rel =>
              refine ⟨3, by omega, rfl, Lib.hid (hU.out.setCell (by rw [HR.out]; exact HLQ.out) _), Lib.hid (((setCell_out _ _ _ _).block _ (lt_of_blk hC.out) HQR.out).trans hC.out), Lib.hid ?_⟩
              rw [setCell_at _ hQ.out, ← HVV.out]
              rfl
            case measure => simp [intOf]
          · have hix : ∀ w, (Instr.index 42 (.agg #[.pointer (some ⟨q, 1, none⟩), .pointer (some ⟨q, 2, none⟩), .pointer (some ⟨q, 3, none⟩), .pointer (some ⟨q, 4, none⟩), .pointer (some ⟨q, 5, none⟩), .pointer (some ⟨q, 6, none⟩), .pointer (some ⟨q, 7, none⟩)]) (.int .i64 3)).run Try.prog w = .ok (.pointer (some ⟨q, 4, none⟩)) w := fun w => index_arr _ rfl 3 _ rfl _ rfl w
            have b0 := (nm_bd H.out.byt 20).1
            have b1 := (nm_bd H.out.byt 20).2
            have ck : wr.cell? ⟨q, 4, none⟩ = some (.int .u32 0) := cell_of hQ.out rfl
            have fk : wr.frozen? ⟨q, 4, none⟩ = false := frozen_at hQ.out
            go_wp2_with fail
            refine (number_any A 40 c 20 4 xs wr hI.out (by omega) (by omega) (by omega) (by omega) _ rfl _ rfl).mono ?_
            rintro e w5 ⟨rfl, he⟩
            rw [he]
            clear he w5
            generalize hv : Cr.nm xs 20 4 = v at b0 b1 ⊢
            have HVV := Lib.hid hv
            clear hv
            go_wp2_with fail
            go_roundw
            case rel =>
              refine ⟨4, by omega, rfl, Lib.hid (hU.out.setCell (by rw [HR.out]; exact HLQ.out) _), Lib.hid (((setCell_out _ _ _ _).block _ (lt_of_blk hC.out) HQR.out).trans hC.out), Lib.hid ?_⟩
              rw [setCell_at _ hQ.out, ← HVV.out]
              rfl
            case measure => simp [intOf]
          · have hix : ∀ w, (Instr.index 42 (.agg #[.pointer (some ⟨q, 1, none⟩), .pointer (some ⟨q, 2, none⟩), .pointer (some ⟨q, 3, none⟩), .pointer (some ⟨q, 4, none⟩), .pointer (some ⟨q, 5, none⟩), .pointer (some ⟨q, 6, none⟩), .pointer (some ⟨q, 7, none⟩)]) (.int .i64 4)).run Try.prog w = .ok (.pointer (some ⟨q, 5, none⟩)) w := fun w => index_arr _ rfl 4 _ rfl _ rfl w
            have b0 := (nm_bd H.out.byt 24).1
            have b1 := (nm_bd H.out.byt 24).2
            have ck : wr.cell? ⟨q, 5, none⟩ = some (.int .u32 0) := cell_of hQ.out rfl
            have fk : wr.frozen? ⟨q, 5, none⟩ = false := frozen_at hQ.out
            go_wp2_with fail
            refine (number_any A 40 c 24 4 xs wr hI.out (by omega) (by omega) (by omega) (by omega) _ rfl _ rfl).mono ?_
            rintro e w5 ⟨rfl, he⟩
            rw [he]
            clear he w5
            generalize hv : Cr.nm xs 24 4 = v at b0 b1 ⊢
            have HVV := Lib.hid hv
            clear hv
            go_wp2_with fail
            go_roundw
            case rel =>
              refine ⟨5, by omega, rfl, Lib.hid (hU.out.setCell (by rw [HR.out]; exact HLQ.out) _), Lib.hid (((setCell_out _ _ _ _).block _ (lt_of_blk hC.out) HQR.out).trans hC.out), Lib.hid ?_⟩
              rw [setCell_at _ hQ.out, ← HVV.out]
              rfl
            case measure => simp [intOf]
          · have hix : ∀ w, (Instr.index 42 (.agg #[.pointer (some ⟨q, 1, none⟩), .pointer (some ⟨q, 2, none⟩), .pointer (some ⟨q, 3, none⟩), .pointer (some ⟨q, 4, none⟩), .pointer (some ⟨q, 5, none⟩), .pointer (some ⟨q, 6, none⟩), .pointer (some ⟨q, 7, none⟩)]) (.int .i64 5)).run Try.prog w = .ok (.pointer (some ⟨q, 6, none⟩)) w := fun w => index_arr _ rfl 5 _ rfl _ rfl w
            have b0 := (nm_bd H.out.byt 28).1
            have b1 := (nm_bd H.out.byt 28).2
            have ck : wr.cell? ⟨q, 6, none⟩ = some (.int .u32 0) := cell_of hQ.out rfl
            have fk : wr.frozen? ⟨q, 6, none⟩ = false := frozen_at hQ.out
            go_wp2_with fail
            refine (number_any A 40 c 28 4 xs wr hI.out (by omega) (by omega) (by omega) (by omega) _ rfl _ rfl).mono ?_
            rintro e w5 ⟨rfl, he⟩
            rw [he]
            clear he w5
            generalize hv : Cr.nm xs 28 4 = v at b0 b1 ⊢
            have HVV := Lib.hid hv
            clear hv
            go_wp2_with fail
            go_roundw
            case rel =>
              refine ⟨6, by omega, rfl, Lib.hid (hU.out.setCell (by rw [HR.out]; exact HLQ.out) _), Lib.hid (((setCell_out _ _ _ _).block _ (lt_of_blk hC.out) HQR.out).trans hC.out), Lib.hid ?_⟩
              rw [setCell_at _ hQ.out, ← HVV.out]
              rfl
            case measure => simp [intOf]
          · have hix : ∀ w, (Instr.index 42 (.agg #[.pointer (some ⟨q, 1, none⟩), .pointer (some ⟨q, 2, none⟩), .pointer (some ⟨q, 3, none⟩), .pointer (some ⟨q, 4, none⟩), .pointer (some ⟨q, 5, none⟩), .pointer (some ⟨q, 6, none⟩), .pointer (some ⟨q, 7, none⟩)]) (.int .i64 6)).run Try.prog w = .ok (.pointer (some ⟨q, 7, none⟩)) w := fun w => index_arr _ rfl 6 _ rfl _ rfl w
            have b0 := (nm_bd H.out.byt 32).1
            have b1 := (nm_bd H.out.byt 32).2
            have ck : wr.cell? ⟨q, 7, none⟩ = some (.int .u32 0) := cell_of hQ.out rfl
            have fk : wr.frozen? ⟨q, 7, none⟩ = false := frozen_at hQ.out
            go_wp2_with fail
            refine (number_any A 40 c 32 4 xs wr hI.out (by omega) (by omega) (by omega) (by omega) _ rfl _ rfl).mono ?_
            rintro e w5 ⟨rfl, he⟩
            rw [he]
            clear he w5
            generalize hv : Cr.nm xs 32 4 = v at b0 b1 ⊢
            have HVV := Lib.hid hv
            clear hv
            go_wp2_with fail
            go_roundw
            case rel =>
              refine ⟨7, by omega, rfl, Lib.hid (hU.out.setCell (by rw [HR.out]; exact HLQ.out) _), Lib.hid (((setCell_out _ _ _ _).block _ (lt_of_blk hC.out) HQR.out).trans hC.out), Lib.hid ?_⟩
              rw [setCell_at _ hQ.out, ← HVV.out]
              rfl
            case measure => simp [intOf]
        · obtain rfl : j = 7 := by omega
          have hQ7 := Lib.hid (show wr.heap[q]? = some (.cells (Cr.dec xs).cells 25 (0, 0)) from by rw [hQ.out, ← HTV.out]; rfl)
          have HX := Lib.hid (crOne (Cr.dec xs))
          have HS := Lib.hid (show (Try.prog.info? 25).map (·.size) = some (Cr.dec xs).cells.size from by kernel_rfl)
          have hcell := hQ7.out
          generalize hcs : (Cr.dec xs).cells = cs at hcell HX HS
          have HCS := Lib.hid hcs
          clear hcs hQ
          have HQC := Lib.hid hcell
          clear hcell
          go_wp2_with (with_reducible refine wpList_load_row rfl 25 _ rfl q rfl 25 cs (0, 0) _ HQC.out Try.underlying25 rfl HS.out ?_)
          have hm := may_any (Cr.dec xs) wr
          unfold Cr.val at hm
          rw [HCS.out] at hm
          refine hm.mono ?_
          rintro e w5 ⟨rfl, hu⟩
          have HU5 := Lib.hid (hU.out.trans hu.out)
          have HC5 := Lib.hid ((hu.out.block _ (lt_of_blk hC.out)).trans hC.out)
          have HQ5 := Lib.hid ((hu.out.block _ (lt_of_blk HQC.out)).trans HQC.out)
          clear hm hu
          by_cases hf : (Cr.dec xs).fit
          · have HO := Lib.hid (opn_ok (key := key) HL.out HEQ.out hf)
            rw [decide_eq_true hf]
            clear hf
            go_wp2_with (first | (with_reducible refine wpList_load_row rfl 25 _ rfl q rfl 25 cs (0, 0) _ HQ5.out Try.underlying25 rfl HS.out ?_) | (with_reducible refine wpList_store_row rfl 25 _ _ rfl r cs rfl rfl 25 _ HC5.out HS.out (HS8 HCS.out) HX.out ?_))
            refine bodyPost_ret (results_row_tmp (fn := Try.f10) (p := 4) (u := 5) (ty := 25) rfl _ _ r 25 _ (0, 0) _ rfl (setRow_heap _ _ _ _ _ _ HC5.out) Try.underlying25 rfl HS.out) rfl ?_
            refine ⟨?_, Lib.hid (below_setRow HU5.out (by rw [HR.out]; exact Nat.le_refl _) _)⟩
            rw [HO.out, ← HCS.out]
            rfl
          · have HO := Lib.hid (opn_no (key := key) HL.out HEQ.out hf)
            rw [decide_eq_false hf]
            clear hf
            go_wp2_with (with_reducible refine wpList_store_row rfl 25 _ _ rfl r #[.int .i64 0, .int .u32 0, .int .u32 0, .int .u32 0, .int .u32 0, .int .u32 0, .int .u32 0, .int .u32 0] rfl rfl 25 _ HC5.out (by kernel_rfl) rfl crOneZ ?_)
            refine bodyPost_ret (results_row_tmp (fn := Try.f10) (p := 4) (u := 5) (ty := 25) rfl _ _ r 25 _ (0, 0) _ rfl (setRow_heap _ _ _ _ _ _ HC5.out) Try.underlying25 rfl (by kernel_rfl)) rfl ?_
            exact opPost_no HO.out rfl (below_setRow HU5.out (by rw [HR.out]; exact Nat.le_refl _) _)
theorem open_any (key : Int) (A : Option Addr) (m c : Nat) (xs : List Int) (w : World) (h : InB w A m c xs) (hm : m ≤ 140737488351232) : Calls Try.prog 10 #[.int .u64 key, .slice A m c] w (OpPost key xs w) := by
  by_cases h1 : m < 40
  · exact open_short key A m c xs w h.len h1
  by_cases h2 : 40 < m
  · exact open_long key A m c xs w h.len h2 hm
  obtain rfl : m = 40 := by omega
  exact open_full key A c xs w h
end Go.Proofs.Ytdlgdlgpmfccmaa
