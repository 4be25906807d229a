import Derived.Test.YtgikgcepeniekaaCk16
import Derived.Test.YtgikgcepeniekaaCk19
namespace Go.Proofs.Ytgikgcepeniekaa
open Go Go.RowKit
set_option linter.unusedVariables false
set_option linter.unusedSimpArgs false
theorem RH.sideT {g : Nat} {L : List (Nat × Obj)} {w0 w w' : World} {xs : List Int} {r : R} {T : Nat → Prop} (H : RH g L w0 xs r w) (ho : Out T w w') (hg : ∀ k, T k → g < k) (hL : ∀ p ∈ L, ¬ T p.1) : RH g L w0 xs r w' := by
  obtain ⟨A0, m0, c0, k1, k2, k3⟩ := H.isR.ex
  exact ⟨⟨⟨A0, m0, c0, ho.blk k1 (fun e => by have := hg _ e; omega), k2.outS' ho (fun hne k hk e => by have := k3 hne k hk; have := hg _ e; omega), k3⟩, H.isR.len, H.isR.at_⟩,
    fun p hp => ⟨ho.blk (H.kept p hp).1 (hL p hp), (H.kept p hp).2⟩, Below.out H.up ho (fun k hk => by have := H.g0; have := hg _ hk; omega) H.up.size, H.g0⟩
theorem row_cap {w : World} {A : Option Addr} {n c base : Nat} {e : TypeId} {s : Nat} {xs : List Value} (h : w.ownsRow base e s (.slice A n c) n xs) : n ≤ c := by
  rcases h.2 with ⟨h1, h2⟩ | ⟨g', cap, cur, hv, _, hh, h1, _⟩
  · omega
  · injection hv with _ _ hv
    omega
/-- A reader's states, number by number. -/
def rsN (xs : List Int) (s : Nat) (r : R) : Nat → R
  | 0 => r
  | j + 1 => rdN xs s (rsN xs s r j)
/-- The stages of a round: some calls read, the row grows, and is stored. -/
def GW (nc : Nat) (C : R → World → Prop) (rs : Nat → R) (hb : Nat) (cf : Option Addr → Nat → Nat → Array Value) (B0 : Nat) (X : Nat → Prop) (E : TypeId) (s : Nat) (A : Option Addr) (n c : Nat) (row row' : List Value) (BB : Nat) (j : Nat) (w : World) : Prop :=
  if j ≤ nc then C (rs j) w ∧ w.heap[hb]? = some (.cells (cf A n c) 59 (0, 0)) ∧ Row B0 X E s w A n c row ∧ BB ≤ w.heap.size
  else if j = nc + 1 then C (rs nc) w ∧ w.heap[hb]? = some (.cells (cf A n c) 59 (0, 0)) ∧ BB ≤ w.heap.size
  else ∃ A' c', C (rs nc) w ∧ w.heap[hb]? = some (.cells (cf A' (n + 1) c') 59 (0, 0)) ∧ Row B0 X E s w A' (n + 1) c' row'
section
variable {nc : Nat} {C : R → World → Prop} {rs : Nat → R} {hb : Nat} {cf : Option Addr → Nat → Nat → Array Value} {B0 : Nat} {X : Nat → Prop} {E : TypeId} {s : Nat} {A : Option Addr} {n c : Nat} {row row' : List Value} {BB j : Nat} {w w' : World}
theorem gw_lo (h : GW nc C rs hb cf B0 X E s A n c row row' BB j w) (hj : j ≤ nc) : C (rs j) w ∧ w.heap[hb]? = some (.cells (cf A n c) 59 (0, 0)) ∧ Row B0 X E s w A n c row ∧ BB ≤ w.heap.size := by
  unfold GW at h; rwa [if_pos hj] at h
theorem gw_lo' (hj : j ≤ nc) (h : C (rs j) w ∧ w.heap[hb]? = some (.cells (cf A n c) 59 (0, 0)) ∧ Row B0 X E s w A n c row ∧ BB ≤ w.heap.size) : GW nc C rs hb cf B0 X E s A n c row row' BB j w := by
  unfold GW; rwa [if_pos hj]
theorem gw_mid (h : GW nc C rs hb cf B0 X E s A n c row row' BB (nc + 1) w) : C (rs nc) w ∧ w.heap[hb]? = some (.cells (cf A n c) 59 (0, 0)) ∧ BB ≤ w.heap.size := by
  unfold GW at h; rwa [if_neg (by omega), if_pos rfl] at h
theorem gw_mid' (h : C (rs nc) w ∧ w.heap[hb]? = some (.cells (cf A n c) 59 (0, 0)) ∧ BB ≤ w.heap.size) : GW nc C rs hb cf B0 X E s A n c row row' BB (nc + 1) w := by
  unfold GW; rwa [if_neg (by omega), if_pos rfl]
theorem gw_hi (h : GW nc C rs hb cf B0 X E s A n c row row' BB (j + nc + 2) w) : ∃ A' c', C (rs nc) w ∧ w.heap[hb]? = some (.cells (cf A' (n + 1) c') 59 (0, 0)) ∧ Row B0 X E s w A' (n + 1) c' row' := by
  unfold GW at h; rwa [if_neg (by omega), if_neg (by omega)] at h
theorem gw_hi' (h : ∃ A' c', C (rs nc) w ∧ w.heap[hb]? = some (.cells (cf A' (n + 1) c') 59 (0, 0)) ∧ Row B0 X E s w A' (n + 1) c' row') : GW nc C rs hb cf B0 X E s A n c row row' BB (nc + 2) w := by
  unfold GW; rwa [if_neg (by omega), if_neg (by omega)]
theorem gw_up (hC : ∀ r w w', C r w → Up w w' → C r w') (h : GW nc C rs hb cf B0 X E s A n c row row' BB j w) (hu : Up w w') : GW nc C rs hb cf B0 X E s A n c row row' BB j w' := by
  unfold GW at h ⊢
  split at h
  · rename_i hj
    rw [if_pos hj]
    exact ⟨hC _ _ _ h.1 hu, (hu.block _ (lt_of_blk h.2.1)).trans h.2.1, h.2.2.1.up hu, Nat.le_trans h.2.2.2 hu.size⟩
  · rename_i hj
    rw [if_neg hj]
    split at h
    · rename_i hk
      rw [if_pos hk]
      exact ⟨hC _ _ _ h.1 hu, (hu.block _ (lt_of_blk h.2.1)).trans h.2.1, Nat.le_trans h.2.2 hu.size⟩
    · rename_i hk
      rw [if_neg hk]
      obtain ⟨A', c', h1, h2, h3⟩ := h
      exact ⟨A', c', hC _ _ _ h1 hu, (hu.block _ (lt_of_blk h2)).trans h2, h3.up hu⟩
end
set_option maxRecDepth 100000 in
theorem toD_e1 (A : Option Addr) (m c : Nat) (ty fl : Int) (w : World) (h1 : (ty == 3) = false) : Calls Try.prog 30 #[chV ty fl (.slice A m c)] w (DNo w) := by
  obtain ⟨W, hW⟩ : ∃ W, W = (w.alloc (.cells #[.int .u8 ty, .int .u8 fl, .slice A m c] 41)).alloc (.cells #[.int .u32 0, .int .u32 0, .slice none 0 0, .slice none 0 0] 59) := ⟨_, rfl⟩
  have u1 := up_alloc w (.cells #[.int .u8 ty, .int .u8 fl, .slice A m c] 41)
  have a1 := new_at w (.cells #[.int .u8 ty, .int .u8 fl, .slice A m c] 41)
  have u2 := up_alloc (w.alloc (.cells #[.int .u8 ty, .int .u8 fl, .slice A m c] 41)) (.cells #[.int .u32 0, .int .u32 0, .slice none 0 0, .slice none 0 0] 59)
  have a2 := new_at (w.alloc (.cells #[.int .u8 ty, .int .u8 fl, .slice A m c] 41)) (.cells #[.int .u32 0, .int .u32 0, .slice none 0 0, .slice none 0 0] 59)
  have b1 := (u2.block _ (lt_of_blk a1)).trans a1
  have s1 : (w.alloc (.cells #[.int .u8 ty, .int .u8 fl, .slice A m c] 41)).heap.size = w.heap.size + 1 := by simp
  rw [s1] at a2
  have HS := Lib.hid (show ((w.alloc (.cells #[.int .u8 ty, .int .u8 fl, .slice A m c] 41)).alloc (.cells #[.int .u32 0, .int .u32 0, .slice none 0 0, .slice none 0 0] 59)).heap.size = w.heap.size + 1 + 1 by simp)
  have HU := Lib.hid (u1.trans u2)
  rw [← hW] at a2 b1 HU HS
  have HW := Lib.hid hW
  have HQ := Lib.hid a2
  have HB := Lib.hid b1
  have c0 := cell_of b1 (j := 0) rfl
  have c1 := cell_of b1 (j := 1) rfl
  have c2 := cell_of b1 (j := 2) rfl
  clear u1 a1 u2 a2 b1 s1 hW
  unfold chV
  go_enter Try.func30, Try.ntmps30
  go_upto_region 1 with (fail)
  rw [← HW.out]
  have e0 := cell_of HQ.out (j := 0) rfl
  have f0 := frozen_at (j := 0) HQ.out
  have e1 := cell_of HQ.out (j := 1) rfl
  have f1 := frozen_at (j := 1) HQ.out
  have e2 := cell_of HQ.out (j := 2) rfl
  have f2 := frozen_at (j := 2) HQ.out
  have e3 := cell_of HQ.out (j := 3) rfl
  have f3 := frozen_at (j := 3) HQ.out
  go_wp2_with fail
  have hs := set4 (a := .int .u32 0) (b := .int .u32 0) (c := .slice none 0 0) (d := .slice none 0 0) HQ.out rfl
  refine bodyPost_ret (results_row_tmp (fn := Try.f30) (p := 2) (u := 3) (ty := 59) rfl _ _ (w.heap.size + 1) 59 _ (0, 0) _ rfl hs.1 Try.underlying59 rfl rfl) rfl ⟨rfl, Lib.hid (Below.out HU.out hs.2 (fun k hk => by rw [hk]; omega) HU.out.size)⟩
set_option maxRecDepth 100000 in
theorem toD_e2 (A : Option Addr) (m c : Nat) (fl : Int) (w : World) (h1 : (fl == 0) = false) : Calls Try.prog 30 #[chV 3 fl (.slice A m c)] w (DNo w) := by
  obtain ⟨W, hW⟩ : ∃ W, W = (w.alloc (.cells #[.int .u8 3, .int .u8 fl, .slice A m c] 41)).alloc (.cells #[.int .u32 0, .int .u32 0, .slice none 0 0, .slice none 0 0] 59) := ⟨_, rfl⟩
  have u1 := up_alloc w (.cells #[.int .u8 3, .int .u8 fl, .slice A m c] 41)
  have a1 := new_at w (.cells #[.int .u8 3, .int .u8 fl, .slice A m c] 41)
  have u2 := up_alloc (w.alloc (.cells #[.int .u8 3, .int .u8 fl, .slice A m c] 41)) (.cells #[.int .u32 0, .int .u32 0, .slice none 0 0, .slice none 0 0] 59)
  have a2 := new_at (w.alloc (.cells #[.int .u8 3, .int .u8 fl, .slice A m c] 41)) (.cells #[.int .u32 0, .int .u32 0, .slice none 0 0, .slice none 0 0] 59)
  have b1 := (u2.block _ (lt_of_blk a1)).trans a1
  have s1 : (w.alloc (.cells #[.int .u8 3, .int .u8 fl, .slice A m c] 41)).heap.size = w.heap.size + 1 := by simp
  rw [s1] at a2
  have HS := Lib.hid (show ((w.alloc (.cells #[.int .u8 3, .int .u8 fl, .slice A m c] 41)).alloc (.cells #[.int .u32 0, .int .u32 0, .slice none 0 0, .slice none 0 0] 59)).heap.size = w.heap.size + 1 + 1 by simp)
  have HU := Lib.hid (u1.trans u2)
  rw [← hW] at a2 b1 HU HS
  have HW := Lib.hid hW
  have HQ := Lib.hid a2
  have HB := Lib.hid b1
  have c0 := cell_of b1 (j := 0) rfl
  have c1 := cell_of b1 (j := 1) rfl
  have c2 := cell_of b1 (j := 2) rfl
  clear u1 a1 u2 a2 b1 s1 hW
  unfold chV
  go_enter Try.func30, Try.ntmps30
  go_upto_region 1 with (fail)
  rw [← HW.out]
  have e0 := cell_of HQ.out (j := 0) rfl
  have f0 := frozen_at (j := 0) HQ.out
  have e1 := cell_of HQ.out (j := 1) rfl
  have f1 := frozen_at (j := 1) HQ.out
  have e2 := cell_of HQ.out (j := 2) rfl
  have f2 := frozen_at (j := 2) HQ.out
  have e3 := cell_of HQ.out (j := 3) rfl
  have f3 := frozen_at (j := 3) HQ.out
  go_wp2_with fail
  have hs := set4 (a := .int .u32 0) (b := .int .u32 0) (c := .slice none 0 0) (d := .slice none 0 0) HQ.out rfl
  refine bodyPost_ret (results_row_tmp (fn := Try.f30) (p := 2) (u := 3) (ty := 59) rfl _ _ (w.heap.size + 1) 59 _ (0, 0) _ rfl hs.1 Try.underlying59 rfl rfl) rfl ⟨rfl, Lib.hid (Below.out HU.out hs.2 (fun k hk => by rw [hk]; omega) HU.out.size)⟩
set_option maxRecDepth 1000000 in
set_option maxHeartbeats 8000000 in
theorem toD_read (A : Option Addr) (m c : Nat) (xs : List Int) (w : World) (hin : InB w A m c xs) (hm : m ≤ 140737488351232) : Calls Try.prog 30 #[chV 3 0 (.slice A m c)] w (ToDPost 3 0 xs w) := by
  obtain ⟨W, hW⟩ : ∃ W, W = (w.alloc (.cells #[.int .u8 3, .int .u8 0, .slice A m c] 41)).alloc (.cells #[.int .u32 0, .int .u32 0, .slice none 0 0, .slice none 0 0] 59) := ⟨_, rfl⟩
  have u1 := up_alloc w (.cells #[.int .u8 3, .int .u8 0, .slice A m c] 41)
  have a1 := new_at w (.cells #[.int .u8 3, .int .u8 0, .slice A m c] 41)
  have u2 := up_alloc (w.alloc (.cells #[.int .u8 3, .int .u8 0, .slice A m c] 41)) (.cells #[.int .u32 0, .int .u32 0, .slice none 0 0, .slice none 0 0] 59)
  have a2 := new_at (w.alloc (.cells #[.int .u8 3, .int .u8 0, .slice A m c] 41)) (.cells #[.int .u32 0, .int .u32 0, .slice none 0 0, .slice none 0 0] 59)
  have b1 := (u2.block _ (lt_of_blk a1)).trans a1
  have s1 : (w.alloc (.cells #[.int .u8 3, .int .u8 0, .slice A m c] 41)).heap.size = w.heap.size + 1 := by simp
  rw [s1] at a2
  have HS := Lib.hid (show ((w.alloc (.cells #[.int .u8 3, .int .u8 0, .slice A m c] 41)).alloc (.cells #[.int .u32 0, .int .u32 0, .slice none 0 0, .slice none 0 0] 59)).heap.size = w.heap.size + 1 + 1 by simp)
  have HU := Lib.hid (u1.trans u2)
  rw [← hW] at a2 b1 HU HS
  have HW := Lib.hid hW
  have HQ := Lib.hid a2
  have HB := Lib.hid b1
  have c0 := cell_of b1 (j := 0) rfl
  have c1 := cell_of b1 (j := 1) rfl
  have c2 := cell_of b1 (j := 2) rfl
  clear u1 a1 u2 a2 b1 s1 hW
  have HI := Lib.hid hin
  have HM := Lib.hid hm
  have G0 := Lib.hid (RH.start (L := [(w.heap.size + 1, .cells #[.int .u32 0, .int .u32 0, .slice none 0 0, .slice none 0 0] 59)]) hin hm HU.out (by intro p hp; rw [List.mem_singleton] at hp; subst hp; exact HQ.out))
  clear hin hm
  unfold chV
  go_enter Try.func30, Try.ntmps30
  go_upto_region 4 with (fail)
  rw [← HW.out]
  rw [HS.out] at G0
  have HGQ := Lib.hid (show w.heap.size + 1 < w.heap.size + 1 + 1 by omega)
  generalize (W.alloc (.cells #[.slice A m c, .int .i64 0, .int .i64 0] 77)) = x0 at G0 ⊢
  generalize w.heap.size + 1 + 1 = g at G0 HGQ ⊢
  clear c0 c1 c2
  go_wp2_with fail
  refine (rfour x0 G0.out.isR).mono ?_
  rintro e x1 ⟨t1, r1, rfl, s1, b1, i1, o1⟩
  have G1 := Lib.hid (G0.out.step i1 o1)
  clear i1 o1 G0
  go_wp2_with fail
  refine (rfour x1 G1.out.isR).mono ?_
  rintro e x2 ⟨t2, r2, rfl, s2, b2, i1, o1⟩
  have G2 := Lib.hid (G1.out.step i1 o1)
  clear i1 o1 G1
  go_upto_region 5 with (fail)
  have GA := Lib.hid (G2.out.add (.cells #[.int .u32 t1, .int .u32 t2, .slice none 0 0, .slice none 0 0] 59))
  have HBQ := Lib.hid (show x2.heap.size ≠ w.heap.size + 1 from fun e => by have := lt_of_blk (G2.out.kept _ List.mem_cons_self).1; simp only at this; omega)
  have HGH := Lib.hid (show g < x2.heap.size from G2.out.isR.lt)
  generalize (x2.alloc (.cells #[.int .u32 t1, .int .u32 t2, .slice none 0 0, .slice none 0 0] 59)) = x3 at GA ⊢
  generalize x2.heap.size = hb at GA HBQ HGH ⊢
  clear G2
  go_wp2_with fail
  refine (rtwo x3 GA.out.isR).mono ?_
  rintro e x4 ⟨v3, r3, rfl, s3, b3, i1, o1⟩
  obtain ⟨ng, rfl⟩ : ∃ n : Nat, v3 = n := ⟨v3.toNat, by have := b3.out.1; omega⟩
  have GB := Lib.hid (GA.out.step i1 o1)
  clear i1 o1 GA
  have hng : (ng : Int) < 65536 := by have := b3.out.2; simpa using this
  go_wp2_with fail
  refine (rtwo x4 GB.out.isR).mono ?_
  rintro e x5 ⟨v4, r4, rfl, s4, b4, i1, o1⟩
  obtain ⟨nd, rfl⟩ : ∃ n : Nat, v4 = n := ⟨v4.toNat, by have := b4.out.1; omega⟩
  have GC := Lib.hid (GB.out.step i1 o1)
  clear i1 o1 GB
  have hnd : (nd : Int) < 65536 := by have := b4.out.2; simpa using this
  have HQ5 := Lib.hid (GC.out.kept _ (List.mem_cons_of_mem _ List.mem_cons_self)).1
  simp only at HQ5
  by_cases hg64 : 64 < ng
  · have d1 : decide (64 < (ng : Int)) = true := by simp; omega
    have e0 := cell_of HQ5.out (j := 0) rfl
    have f0 := frozen_at (j := 0) HQ5.out
    have e1 := cell_of HQ5.out (j := 1) rfl
    have f1 := frozen_at (j := 1) HQ5.out
    have e2 := cell_of HQ5.out (j := 2) rfl
    have f2 := frozen_at (j := 2) HQ5.out
    have e3 := cell_of HQ5.out (j := 3) rfl
    have f3 := frozen_at (j := 3) HQ5.out
    go_wp2_with fail
    have hs := set4 (a := .int .u32 0) (b := .int .u32 0) (c := .slice none 0 0) (d := .slice none 0 0) HQ5.out rfl
    refine bodyPost_ret (results_row_tmp (fn := Try.f30) (p := 2) (u := 3) (ty := 59) rfl _ _ (w.heap.size + 1) 59 _ (0, 0) _ rfl hs.1 Try.underlying59 rfl rfl) rfl (DNo.post ⟨rfl, Lib.hid (Below.out GC.out.up hs.2 (fun k hk => by rw [hk]; omega) GC.out.up.size)⟩ (fun h hp => by have h1 := toD_back4 hp s1.out s2.out s3.out s4.out; have h2 := chkD_zero hp.2.2.1; omega))
  by_cases hd64 : 64 < nd
  · have d1 : decide (64 < (ng : Int)) = false := by simp; omega
    have d2 : decide (64 < (nd : Int)) = true := by simp; omega
    have e0 := cell_of HQ5.out (j := 0) rfl
    have f0 := frozen_at (j := 0) HQ5.out
    have e1 := cell_of HQ5.out (j := 1) rfl
    have f1 := frozen_at (j := 1) HQ5.out
    have e2 := cell_of HQ5.out (j := 2) rfl
    have f2 := frozen_at (j := 2) HQ5.out
    have e3 := cell_of HQ5.out (j := 3) rfl
    have f3 := frozen_at (j := 3) HQ5.out
    go_wp2_with fail
    have hs := set4 (a := .int .u32 0) (b := .int .u32 0) (c := .slice none 0 0) (d := .slice none 0 0) HQ5.out rfl
    refine bodyPost_ret (results_row_tmp (fn := Try.f30) (p := 2) (u := 3) (ty := 59) rfl _ _ (w.heap.size + 1) 59 _ (0, 0) _ rfl hs.1 Try.underlying59 rfl rfl) rfl (DNo.post ⟨rfl, Lib.hid (Below.out GC.out.up hs.2 (fun k hk => by rw [hk]; omega) GC.out.up.size)⟩ (fun h hp => by have h1 := toD_back4 hp s1.out s2.out s3.out s4.out; have h2 := chkD_zero hp.2.2.1; omega))
  have d1 : decide (64 < (ng : Int)) = false := by simp; omega
  have d2 : decide (64 < (nd : Int)) = false := by simp; omega
  have hng4 : ng ≤ 64 := by omega
  have hnd4 : nd ≤ 64 := by omega
  clear hg64 hd64 HQ5
  go_wp2_with fail
  clear d1 d2
  have HH5 := Lib.hid (GC.out.kept _ List.mem_cons_self).1
  simp only at HH5
  have GD := Lib.hid GC.out.tail
  clear GC
  go_loopw [35] (fun i wr => ∃ (k : Nat) (A1 : Option Addr) (c1 : Nat), k ≤ ng ∧ i = .int .i64 (k : Int) ∧ Hid (RH g [(w.heap.size + 1, .cells #[.int .u32 0, .int .u32 0, .slice none 0 0, .slice none 0 0] 59)] w xs (gapsR xs k r4).2 wr) ∧ Hid (wr.heap[hb]? = some (.cells #[.int .u32 t1, .int .u32 t2, .slice A1 k c1, .slice none 0 0] 59 (0, 0))) ∧ Hid (Row (g + 1) (fun q => q = g ∨ q = hb ∨ q = w.heap.size + 1) 93 2 wr A1 k c1 (gapc (gapsR xs k r4).1))) (fun i _ => ng - (intOf i).toNat)
  case atStart => exact ⟨0, none, 0, Nat.zero_le _, rfl, GD, HH5, Lib.hid (row_nil _ _ _ _ _)⟩
  case round =>
    obtain ⟨k, A1, c1, hk, rfl, hG, hH, hR⟩ := hrel
    by_cases hlt : k < ng
    · obtain ⟨gl, hgl⟩ : ∃ gl, gl = (gapsR xs k r4).1 := ⟨_, rfl⟩
      obtain ⟨rr, hrr⟩ : ∃ rr, rr = (gapsR xs k r4).2 := ⟨_, rfl⟩
      rw [← hgl] at hR
      rw [← hrr] at hG
      have HNX := Lib.hid (show gapsR xs (k + 1) r4 = (gl ++ [(rdV xs 2 (rsN xs 2 rr 0), rdV xs 2 (rsN xs 2 rr 1))], rsN xs 2 rr 2) by rw [hgl, hrr]; rfl)
      clear hgl hrr
      have HGWR := Lib.hid hG.out.isR.lt
      have HHWR := Lib.hid (lt_of_blk hH.out)
      have HAWR := Lib.hid (show ∀ q, blk? A1 = some q → q < wr.heap.size from fun q hq => hR.out.lt hq)
      have HCU : ∀ (r : R) (w1 w2 : World), RH g [(w.heap.size + 1, .cells #[.int .u32 0, .int .u32 0, .slice none 0 0, .slice none 0 0] 59)] w xs r w1 → Up w1 w2 → RH g [(w.heap.size + 1, .cells #[.int .u32 0, .int .u32 0, .slice none 0 0, .slice none 0 0] 59)] w xs r w2 := fun r w1 w2 h hu => h.next hu
      go_upto_region 10 with (fail)
      have HK : ∀ φ ∈ [Is (.pointer (some ⟨hb, 2, none⟩)), Is (.slice A1 k c1), Is (.int .u16 (rdV xs 2 (rsN xs 2 rr 0))), Is (.int .u16 (rdV xs 2 (rsN xs 2 rr 1))), Is (.agg #[.int .u16 (rdV xs 2 (rsN xs 2 rr 0)), .int .u16 (rdV xs 2 (rsN xs 2 rr 1))]), PhS wr.heap.size 93 [.int .u16 (rdV xs 2 (rsN xs 2 rr 0)), .int .u16 (rdV xs 2 (rsN xs 2 rr 1))], PhR (g + 1) (fun q => q = g ∨ q = hb ∨ q = w.heap.size + 1) 93 2 (k + 1) (gapc gl ++ [.int .u16 (rdV xs 2 (rsN xs 2 rr 0)), .int .u16 (rdV xs 2 (rsN xs 2 rr 1))]), Is (.pointer (some ⟨hb, 2, none⟩)), Tru], Keeps φ := by
        intro φ hφ
        simp only [List.mem_cons, List.mem_nil_iff, or_false] at hφ
        rcases hφ with rfl | rfl | rfl | rfl | rfl | rfl | rfl | rfl | rfl <;> first | exact keeps_is _ | exact keeps_PhS | exact keeps_PhR | exact fun _ _ _ _ _ => trivial
      have HKg : ∀ φ ∈ [Is (.pointer (some ⟨hb, 2, none⟩)), Is (.slice A1 k c1), Is (.int .u16 (rdV xs 2 (rsN xs 2 rr 0))), Is (.int .u16 (rdV xs 2 (rsN xs 2 rr 1))), Is (.agg #[.int .u16 (rdV xs 2 (rsN xs 2 rr 0)), .int .u16 (rdV xs 2 (rsN xs 2 rr 1))]), PhS wr.heap.size 93 [.int .u16 (rdV xs 2 (rsN xs 2 rr 0)), .int .u16 (rdV xs 2 (rsN xs 2 rr 1))], PhR (g + 1) (fun q => q = g ∨ q = hb ∨ q = w.heap.size + 1) 93 2 (k + 1) (gapc gl ++ [.int .u16 (rdV xs 2 (rsN xs 2 rr 0)), .int .u16 (rdV xs 2 (rsN xs 2 rr 1))]), Is (.pointer (some ⟨hb, 2, none⟩)), Tru], KpT (One g) φ := by
        intro φ hφ
        simp only [List.mem_cons, List.mem_nil_iff, or_false] at hφ
        rcases hφ with rfl | rfl | rfl | rfl | rfl | rfl | rfl | rfl | rfl <;> first | exact kpT_is _ _ | exact kpT_PhS (fun k hk => by rw [show k = g from hk]; exact HGWR.out) | exact kpT_PhR (fun k hk => .inl hk) | exact kpT_tru _
      have HKh : ∀ φ ∈ [Is (.pointer (some ⟨hb, 2, none⟩)), Is (.slice A1 k c1), Is (.int .u16 (rdV xs 2 (rsN xs 2 rr 0))), Is (.int .u16 (rdV xs 2 (rsN xs 2 rr 1))), Is (.agg #[.int .u16 (rdV xs 2 (rsN xs 2 rr 0)), .int .u16 (rdV xs 2 (rsN xs 2 rr 1))]), PhS wr.heap.size 93 [.int .u16 (rdV xs 2 (rsN xs 2 rr 0)), .int .u16 (rdV xs 2 (rsN xs 2 rr 1))], PhR (g + 1) (fun q => q = g ∨ q = hb ∨ q = w.heap.size + 1) 93 2 (k + 1) (gapc gl ++ [.int .u16 (rdV xs 2 (rsN xs 2 rr 0)), .int .u16 (rdV xs 2 (rsN xs 2 rr 1))]), Is (.pointer (some ⟨hb, 2, none⟩)), Tru], KpT (fun k => k = hb) φ := by
        intro φ hφ
        simp only [List.mem_cons, List.mem_nil_iff, or_false] at hφ
        rcases hφ with rfl | rfl | rfl | rfl | rfl | rfl | rfl | rfl | rfl <;> first | exact kpT_is _ _ | exact kpT_PhS (fun k hk => by rw [hk]; exact HHWR.out) | exact kpT_PhR (fun k hk => .inr (.inl hk)) | exact kpT_tru _
      have HNE : ∀ j φ, [Is (.pointer (some ⟨hb, 2, none⟩)), Is (.slice A1 k c1), Is (.int .u16 (rdV xs 2 (rsN xs 2 rr 0))), Is (.int .u16 (rdV xs 2 (rsN xs 2 rr 1))), Is (.agg #[.int .u16 (rdV xs 2 (rsN xs 2 rr 0)), .int .u16 (rdV xs 2 (rsN xs 2 rr 1))]), PhS wr.heap.size 93 [.int .u16 (rdV xs 2 (rsN xs 2 rr 0)), .int .u16 (rdV xs 2 (rsN xs 2 rr 1))], PhR (g + 1) (fun q => q = g ∨ q = hb ∨ q = w.heap.size + 1) 93 2 (k + 1) (gapc gl ++ [.int .u16 (rdV xs 2 (rsN xs 2 rr 0)), .int .u16 (rdV xs 2 (rsN xs 2 rr 1))]), Is (.pointer (some ⟨hb, 2, none⟩)), Tru][j]? = some φ → j ≠ 6 → KpT (fun k => blk? A1 = some k) φ := by
        intro j φ hj hne
        rcases j with _ | _ | _ | _ | _ | _ | _ | _ | _ | j <;> first | exact absurd rfl hne | (simp at hj; done) | (have hj2 := Option.some.inj hj; subst hj2; first | exact kpT_is _ _ | exact kpT_PhS (fun k hk => HAWR.out k hk) | exact kpT_tru _)
      refine staged_lit (by kernel_rfl) (facts [Is (.pointer (some ⟨hb, 2, none⟩)), Is (.slice A1 k c1), Is (.int .u16 (rdV xs 2 (rsN xs 2 rr 0))), Is (.int .u16 (rdV xs 2 (rsN xs 2 rr 1))), Is (.agg #[.int .u16 (rdV xs 2 (rsN xs 2 rr 0)), .int .u16 (rdV xs 2 (rsN xs 2 rr 1))]), PhS wr.heap.size 93 [.int .u16 (rdV xs 2 (rsN xs 2 rr 0)), .int .u16 (rdV xs 2 (rsN xs 2 rr 1))], PhR (g + 1) (fun q => q = g ∨ q = hb ∨ q = w.heap.size + 1) 93 2 (k + 1) (gapc gl ++ [.int .u16 (rdV xs 2 (rsN xs 2 rr 0)), .int .u16 (rdV xs 2 (rsN xs 2 rr 1))]), Is (.pointer (some ⟨hb, 2, none⟩)), Tru]) (Stg [2, 3, 6, 8] (GW 2 (fun r wx => RH g [(w.heap.size + 1, .cells #[.int .u32 0, .int .u32 0, .slice none 0 0, .slice none 0 0] 59)] w xs r wx) (rsN xs 2 rr) hb (fun A n c => #[.int .u32 t1, .int .u32 t2, .slice A n c, .slice none 0 0]) (g + 1) (fun q => q = g ∨ q = hb ∨ q = w.heap.size + 1) 93 2 A1 k c1 ((gapc gl)) (gapc gl ++ [.int .u16 (rdV xs 2 (rsN xs 2 rr 0)), .int .u16 (rdV xs 2 (rsN xs 2 rr 1))]) wr.heap.size)) 65 rfl (by decide +kernel) (by decide +kernel) (Stg.start (gw_lo' (by omega) ⟨hG.out.next (Up.drew wr), ((Up.drew wr).block _ (lt_of_blk hH.out)).trans hH.out, hR.out.up (Up.drew wr), (Up.drew wr).size⟩)) ?_ ?_
      · refine ⟨?_, ?_, ?_, ?_, ?_, ?_, ?_, ?_, ?_, trivial⟩
        · refine opS_same rfl rfl fun L ac w1 hJ hl hc ho hd => ?_
          have s5 : ac.eval (.tmp 5) = .pointer (some ⟨hb, 0, none⟩) := ho 5 rfl
          exact ⟨_, x_field 59 (.tmp 5) 2 rfl s5 (fld592 _ _ _), rfl⟩
        · refine opS_same rfl rfl fun L ac w1 hJ hl hc ho hd => ?_
          have d0 : ac.eval (.tmp 37) = .pointer (some ⟨hb, 2, none⟩) := hd 0 _ _ rfl rfl rfl
          obtain ⟨k1, hk1, hW⟩ := hJ.ahead (j := 2) (x := 6) rfl (reach_not hc (n := 9) (k := 6) (by kernel_rfl) hl)
          have hW := gw_lo hW hk1
          exact ⟨_, x_load 56 (.tmp 37) rfl d0 (run_load1 agg56 (cell_of hW.2.1 (j := 2) rfl)), rfl⟩
        · refine opS_writeCall (j := 0) rfl (by decide) rfl (fun y hy h0 => absurd h0 (by omega)) fun ac w1 hW ho hd => ?_
          have s4 : ac.eval (.tmp 4) = .pointer (some ⟨g, 0, none⟩) := ho 4 rfl
          have hW := gw_lo hW (by omega)
          refine ⟨48, _, x_fcall 48 [.tmp 4] _ rfl (by kernel_rfl), ?_⟩
          simp only [List.map_cons, List.map_nil, s4]
          refine (rtwo w1 hW.1.isR).mono fun e w2 ⟨v, r9, he, hs, hbd, hi, ho2⟩ => ?_
          obtain rfl := hs.out.val
          obtain rfl := hs.out.st
          exact ⟨_, he, gw_lo' (by omega) ⟨hW.1.step hi ho2, ho2.out.blk hW.2.1 (fun e => by have := HGH.out; have e1 : hb = g := e; omega), hW.2.2.1.outX ho2.out (fun k hk => .inl hk), Nat.le_trans hW.2.2.2 ho2.out.size⟩, rfl, fun j x _ hx => facts_kp HKg j x w1 w2 hx ho2.out⟩
        · refine opS_writeCall (j := 1) rfl (by decide) rfl (fun y hy _ => by cases hy; rfl) fun ac w1 hW ho hd => ?_
          have s4 : ac.eval (.tmp 4) = .pointer (some ⟨g, 0, none⟩) := ho 4 rfl
          have hW := gw_lo hW (by omega)
          refine ⟨48, _, x_fcall 48 [.tmp 4] _ rfl (by kernel_rfl), ?_⟩
          simp only [List.map_cons, List.map_nil, s4]
          refine (rtwo w1 hW.1.isR).mono fun e w2 ⟨v, r9, he, hs, hbd, hi, ho2⟩ => ?_
          obtain rfl := hs.out.val
          obtain rfl := hs.out.st
          exact ⟨_, he, gw_lo' (by omega) ⟨hW.1.step hi ho2, ho2.out.blk hW.2.1 (fun e => by have := HGH.out; have e1 : hb = g := e; omega), hW.2.2.1.outX ho2.out (fun k hk => .inl hk), Nat.le_trans hW.2.2.2 ho2.out.size⟩, rfl, fun j x _ hx => facts_kp HKg j x w1 w2 hx ho2.out⟩
        · refine opS_same rfl rfl fun L ac w1 hJ hl hc ho hd => ?_
          have d2 : ac.eval (.tmp 39) = .int .u16 (rdV xs 2 (rsN xs 2 rr 0)) := hd 2 _ _ rfl rfl rfl
          have d3 : ac.eval (.tmp 40) = .int .u16 (rdV xs 2 (rsN xs 2 rr 1)) := hd 3 _ _ rfl rfl rfl
          exact ⟨_, x_build 93 _ rfl (by simp only [List.map_toArray, List.map_cons, List.map_nil, d2, d3]; exact build_gap _ _ w1), rfl⟩
        · refine opS_grow rfl rfl (fun k wa wb h hu => gw_up HCU h hu) (facts_keep HK) fun L ac w1 hJ hl hc ho hd => ?_
          have d4 : ac.eval (.tmp 41) = .agg #[.int .u16 (rdV xs 2 (rsN xs 2 rr 0)), .int .u16 (rdV xs 2 (rsN xs 2 rr 1))] := hd 4 _ _ rfl rfl rfl
          obtain ⟨k1, hk1, hW⟩ := hJ.ahead (j := 2) (x := 6) rfl (reach_not hc (n := 9) (k := 6) (by kernel_rfl) hl)
          have hW := gw_lo hW hk1
          exact fine_run (.slice (some ⟨w1.heap.size, 0, none⟩) 1 1) (w1.alloc (.cells #[.int .u16 (rdV xs 2 (rsN xs 2 rr 0)), .int .u16 (rdV xs 2 (rsN xs 2 rr 1))] 93)) (x_bslice 56 1 _ rfl (by simp only [List.map_toArray, List.map_cons, List.map_nil, d4]; exact bs_gap _ _ w1)) (up_alloc _ _) ⟨w1.heap.size, rfl, hW.2.2.2, new_at _ _⟩
        · refine opS_writeV (j := 2) rfl (by decide) rfl (fun y hy _ => by cases hy; rfl) fun ac w1 hW ho hd => ?_
          have d1 : ac.eval (.tmp 38) = .slice A1 k c1 := hd 1 _ _ rfl rfl rfl
          have d5 := hd 5 _ _ rfl rfl rfl
          have hW := gw_lo hW (by omega)
          obtain ⟨u, w2, hr, ho2, hu⟩ := app_step (ty := 56) Try.underlying56 info93 rfl (by decide) hW.2.2.1 d5 rfl (by simp [Value.oneCell']) (fun k hk => by rcases hk with hk | hk | hk <;> rw [hk]; exact hW.1.isR.lt; exact lt_of_blk hW.2.1; exact lt_of_blk (hW.1.kept _ List.mem_cons_self).1) (by have := hW.1.isR.lt; omega) (by omega) (by omega)
          exact ⟨u, w2, x_append (.tmp 38) (.tmp 42) 56 56 rfl d1 rfl hr, gw_mid' ⟨hW.1.sideT ho2 (fun k hk => (hW.2.2.1.blk k hk).1) (by intro p hp; rw [List.mem_singleton] at hp; subst hp; exact fun e => (hW.2.2.1.blk _ e).2 (.inr (.inr rfl))), ho2.blk hW.2.1 (fun e => (hW.2.2.1.blk _ e).2 (.inr (.inl rfl))), Nat.le_trans hW.2.2.2 ho2.size⟩, hu, fun j x hj hx => facts_ne HNE j x w1 w2 hj hx ho2⟩
        · refine opS_same rfl rfl fun L ac w1 hJ hl hc ho hd => ?_
          have s5 : ac.eval (.tmp 5) = .pointer (some ⟨hb, 0, none⟩) := ho 5 rfl
          exact ⟨_, x_field 59 (.tmp 5) 2 rfl s5 (fld592 _ _ _), rfl⟩
        · refine opS_write (j := 3) rfl rfl (by decide) rfl (fun y hy _ => by cases hy; rfl) fun ac w1 hW ho hd => ?_
          have d7 : ac.eval (.tmp 44) = .pointer (some ⟨hb, 2, none⟩) := hd 7 _ _ rfl rfl rfl
          have d6 := hd 6 _ _ rfl rfl rfl
          have hW := gw_mid hW
          obtain ⟨A7, c7, e7, row7⟩ := d6
          have hs := setCell_out w1 hb 2 (.slice A7 (k + 1) c7)
          exact ⟨_, x_store 56 (.tmp 44) (.tmp 43) rfl d7 e7 (run_store1 sz56 hW.2.1 (j := 2) (by simp) rfl rfl), gw_hi' ⟨A7, c7, hW.1.sideT hs (fun k hk => by rw [show k = hb from hk]; exact HGH.out) (by intro p hp; rw [List.mem_singleton] at hp; subst hp; exact fun e => HBQ.out e.symm), (setCell_at _ hW.2.1).trans rfl, row7.outX hs (fun k hk => .inr (.inl hk))⟩, fun _ => trivial, fun j x hx => facts_kp HKh j x w1 _ hx hs⟩
      · intro L a1 w9 hI hall
        obtain ⟨j, hj, hW⟩ := hI.done hall (by simp)
        obtain ⟨j, rfl⟩ : ∃ q, j = q + 2 + 2 := ⟨j - 4, by simp at hj; omega⟩
        obtain ⟨A8, c8, hC8, hH8, hR8⟩ := gw_hi hW
        clear hj hW j HK HKg HKh HNE
        have l0 : a1.tmps.getD 0 undef = Value.agg #[Value.int IntKind.u8 3, Value.int IntKind.u8 0, Value.slice A m c] := hI.old 0 rfl
        have l1 : a1.tmps.getD 1 undef = Value.pointer (some { block := w.heap.size, off := 0 }) := hI.old 1 rfl
        have l2 : a1.tmps.getD 2 undef = Value.pointer (some { block := w.heap.size + 1, off := 0 }) := hI.old 2 rfl
        have l3 : a1.tmps.getD 3 undef = Value.int IntKind.i64 0 := hI.old 3 rfl
        have l4 : a1.tmps.getD 4 undef = Value.pointer (some { block := g, off := 0 }) := hI.old 4 rfl
        have l5 : a1.tmps.getD 5 undef = Value.pointer (some { block := hb, off := 0 }) := hI.old 5 rfl
        have l6 : a1.tmps.getD 6 undef = Value.int IntKind.i64 ↑ng := hI.old 6 rfl
        have l7 : a1.tmps.getD 7 undef = Value.int IntKind.i64 ↑nd := hI.old 7 rfl
        have l8 : a1.tmps.getD 8 undef = Value.pointer (some { block := w.heap.size, off := 0 }) := hI.old 8 rfl
        have l9 : a1.tmps.getD 9 undef = Value.int IntKind.u8 3 := hI.old 9 rfl
        have l10 : a1.tmps.getD 10 undef = Value.bool false := hI.old 10 rfl
        have l11 : a1.tmps.getD 11 undef = Value.bool false := hI.old 11 rfl
        have l12 : a1.tmps.getD 12 undef = Value.pointer (some { block := w.heap.size, off := 1 }) := hI.old 12 rfl
        have l13 : a1.tmps.getD 13 undef = Value.int IntKind.u8 0 := hI.old 13 rfl
        have l14 : a1.tmps.getD 14 undef = Value.bool false := hI.old 14 rfl
        have l15 : a1.tmps.getD 15 undef = Value.bool false := hI.old 15 rfl
        have l16 : a1.tmps.getD 16 undef = undef := hI.old 16 rfl
        have l17 : a1.tmps.getD 17 undef = Value.pointer (some { block := w.heap.size, off := 2 }) := hI.old 17 rfl
        have l18 : a1.tmps.getD 18 undef = Value.slice A m c := hI.old 18 rfl
        have l19 : a1.tmps.getD 19 undef = Value.agg #[Value.slice A m c, Value.int IntKind.i64 0, Value.int IntKind.i64 0] := hI.old 19 rfl
        have l20 : a1.tmps.getD 20 undef = Value.int IntKind.u32 t1 := hI.old 20 rfl
        have l21 : a1.tmps.getD 21 undef = Value.int IntKind.u32 t2 := hI.old 21 rfl
        have l22 : a1.tmps.getD 22 undef = Value.agg #[Value.int IntKind.u32 t1, Value.int IntKind.u32 t2, Value.slice none 0 0, Value.slice none 0 0] := hI.old 22 rfl
        have l23 : a1.tmps.getD 23 undef = Value.int IntKind.u16 ↑ng := hI.old 23 rfl
        have l24 : a1.tmps.getD 24 undef = Value.int IntKind.i64 ↑ng := hI.old 24 rfl
        have l25 : a1.tmps.getD 25 undef = Value.int IntKind.u16 ↑nd := hI.old 25 rfl
        have l26 : a1.tmps.getD 26 undef = Value.int IntKind.i64 ↑nd := hI.old 26 rfl
        have l27 : a1.tmps.getD 27 undef = Value.int IntKind.i64 ↑ng := hI.old 27 rfl
        have l28 : a1.tmps.getD 28 undef = Value.bool false := hI.old 28 rfl
        have l29 : a1.tmps.getD 29 undef = Value.bool false := hI.old 29 rfl
        have l30 : a1.tmps.getD 30 undef = Value.int IntKind.i64 ↑nd := hI.old 30 rfl
        have l31 : a1.tmps.getD 31 undef = Value.bool false := hI.old 31 rfl
        have l32 : a1.tmps.getD 32 undef = Value.bool false := hI.old 32 rfl
        have l33 : a1.tmps.getD 33 undef = undef := hI.old 33 rfl
        have l34 : a1.tmps.getD 34 undef = Value.int IntKind.i64 ↑ng := hI.old 34 rfl
        have l35 : a1.tmps.getD 35 undef = Value.int IntKind.i64 ↑k := hI.old 35 rfl
        have l36 : a1.tmps.getD 36 undef = Value.bool true := hI.old 36 rfl
        have l46 : a1.tmps.getD 46 undef = undef := hI.old 46 rfl
        have l47 : a1.tmps.getD 47 undef = undef := hI.old 47 rfl
        have l48 : a1.tmps.getD 48 undef = undef := hI.old 48 rfl
        have l49 : a1.tmps.getD 49 undef = undef := hI.old 49 rfl
        have l50 : a1.tmps.getD 50 undef = undef := hI.old 50 rfl
        have l51 : a1.tmps.getD 51 undef = undef := hI.old 51 rfl
        have l52 : a1.tmps.getD 52 undef = undef := hI.old 52 rfl
        have l53 : a1.tmps.getD 53 undef = undef := hI.old 53 rfl
        have l54 : a1.tmps.getD 54 undef = undef := hI.old 54 rfl
        have l55 : a1.tmps.getD 55 undef = undef := hI.old 55 rfl
        have l56 : a1.tmps.getD 56 undef = undef := hI.old 56 rfl
        have l57 : a1.tmps.getD 57 undef = undef := hI.old 57 rfl
        have l58 : a1.tmps.getD 58 undef = undef := hI.old 58 rfl
        have l59 : a1.tmps.getD 59 undef = undef := hI.old 59 rfl
        have l60 : a1.tmps.getD 60 undef = undef := hI.old 60 rfl
        have l61 : a1.tmps.getD 61 undef = undef := hI.old 61 rfl
        have l62 : a1.tmps.getD 62 undef = undef := hI.old 62 rfl
        have l63 : a1.tmps.getD 63 undef = undef := hI.old 63 rfl
        have l64 : a1.tmps.getD 64 undef = undef := hI.old 64 rfl
        have hde : a1.defers = [] := hI.defers
        have hal := act_lit a1 65 hI.size
        clear hI
        simp only [List.range, List.range.loop, List.map_cons, List.map_nil] at hal
        rw [l0, l1, l2, l3, l4, l5, l6, l7, l8, l9, l10, l11, l12, l13, l14, l15, l16, l17, l18, l19, l20, l21, l22, l23, l24, l25, l26, l27, l28, l29, l30, l31, l32, l33, l34, l35, l36, l46, l47, l48, l49, l50, l51, l52, l53, l54, l55, l56, l57, l58, l59, l60, l61, l62, l63, l64, hde] at hal
        generalize a1.tmps.getD 37 undef = tm37 at hal
        generalize a1.tmps.getD 38 undef = tm38 at hal
        generalize a1.tmps.getD 39 undef = tm39 at hal
        generalize a1.tmps.getD 40 undef = tm40 at hal
        generalize a1.tmps.getD 41 undef = tm41 at hal
        generalize a1.tmps.getD 42 undef = tm42 at hal
        generalize a1.tmps.getD 43 undef = tm43 at hal
        generalize a1.tmps.getD 44 undef = tm44 at hal
        generalize a1.tmps.getD 45 undef = tm45 at hal
        clear l0 l1 l2 l3 l4 l5 l6 l7 l8 l9 l10 l11 l12 l13 l14 l15 l16 l17 l18 l19 l20 l21 l22 l23 l24 l25 l26 l27 l28 l29 l30 l31 l32 l33 l34 l35 l36 l46 l47 l48 l49 l50 l51 l52 l53 l54 l55 l56 l57 l58 l59 l60 l61 l62 l63 l64 hde
        subst hal
        have HC8 := Lib.hid hC8
        have HH8 := Lib.hid hH8
        have HR8 := Lib.hid (show Row (g + 1) (fun q => q = g ∨ q = hb ∨ q = w.heap.size + 1) 93 2 w9 A8 (k + 1) c8 (gapc (gapsR xs (k + 1) r4).1) by rw [HNX.out]; simpa [gapc, gpc] using hR8)
        clear hC8 hH8 hR8 HCU
        go_wp2_with fail
        go_roundw
        case rel => exact ⟨k + 1, A8, c8, by omega, by go_num, Lib.hid (by rw [HNX.out]; exact HC8.out), HH8, HR8⟩
        case measure => simp [intOf]; omega
    · obtain rfl : k = ng := by omega
      obtain ⟨gl, hgl⟩ : ∃ gl, gl = (gapsR xs k r4).1 := ⟨_, rfl⟩
      obtain ⟨rg, hrg⟩ : ∃ rg, rg = (gapsR xs k r4).2 := ⟨_, rfl⟩
      rw [← hgl] at hR
      rw [← hrg] at hG
      have HGL := Lib.hid (show GapOk gl by rw [hgl]; exact gapsR_ok HI.out.byt _ _)
      have HGN := Lib.hid (show gl.length = k by rw [hgl]; exact gapsR_len _ _)
      have HTD := Lib.hid (toD_ok HI.out.byt s1.out s2.out s3.out s4.out)
      have HOD := Lib.hid (toD_hdOk HI.out.byt s1.out s2.out k nd r4)
      rw [← hgl, ← hrg] at HTD HOD
      clear hgl hrg
      go_wp2_with fail
      go_loopw [47] (fun i wr => ∃ (u : Nat) (B1 : Option Addr) (d1 : Nat), u ≤ nd ∧ i = .int .i64 (u : Int) ∧ Hid (RH g [(w.heap.size + 1, .cells #[.int .u32 0, .int .u32 0, .slice none 0 0, .slice none 0 0] 59)] w xs (dupsR xs u rg).2 wr) ∧ Hid (wr.heap[hb]? = some (.cells #[.int .u32 t1, .int .u32 t2, .slice A1 k c1, .slice B1 u d1] 59 (0, 0))) ∧ Hid (Row (g + 1) (fun q => q = g ∨ q = hb ∨ q = w.heap.size + 1) 93 2 wr A1 k c1 (gapc gl)) ∧ Hid (Row (g + 1) (fun q => q = g ∨ q = hb ∨ q = w.heap.size + 1 ∨ blk? A1 = some q) 36 1 wr B1 u d1 (ints .u32 (dupsR xs u rg).1))) (fun i _ => nd - (intOf i).toNat)
      case atStart => exact ⟨0, none, 0, Nat.zero_le _, rfl, hG, hH, hR, Lib.hid (row_nil _ _ _ _ _)⟩
      case round =>
        clear hG hH hR
        obtain ⟨u, B1, d1, hu, rfl, hG, hH, hRg, hR⟩ := hrel
        by_cases hlt2 : u < nd
        · obtain ⟨dl, hdl⟩ : ∃ dl, dl = (dupsR xs u rg).1 := ⟨_, rfl⟩
          obtain ⟨rr, hrr⟩ : ∃ rr, rr = (dupsR xs u rg).2 := ⟨_, rfl⟩
          rw [← hdl] at hR
          rw [← hrr] at hG
          have HNX := Lib.hid (show dupsR xs (u + 1) rg = (dl ++ [rdV xs 4 (rsN xs 4 rr 0)], rsN xs 4 rr 1) by rw [hdl, hrr]; rfl)
          clear hdl hrr
          have HGWR := Lib.hid hG.out.isR.lt
          have HHWR := Lib.hid (lt_of_blk hH.out)
          have HAWR := Lib.hid (show ∀ q, blk? B1 = some q → q < wr.heap.size from fun q hq => hR.out.lt hq)
          have HCU : ∀ (r : R) (w1 w2 : World), (RH g [(w.heap.size + 1, .cells #[.int .u32 0, .int .u32 0, .slice none 0 0, .slice none 0 0] 59)] w xs r w1 ∧ Row (g + 1) (fun q => q = g ∨ q = hb ∨ q = w.heap.size + 1) 93 2 w1 A1 k c1 (gapc gl)) → Up w1 w2 → (RH g [(w.heap.size + 1, .cells #[.int .u32 0, .int .u32 0, .slice none 0 0, .slice none 0 0] 59)] w xs r w2 ∧ Row (g + 1) (fun q => q = g ∨ q = hb ∨ q = w.heap.size + 1) 93 2 w2 A1 k c1 (gapc gl)) := fun r w1 w2 h hu => ⟨h.1.next hu, h.2.up hu⟩
          go_upto_region 14 with (fail)
          have HK : ∀ φ ∈ [Is (.pointer (some ⟨hb, 3, none⟩)), Is (.slice B1 u d1), Is (.int .u32 (rdV xs 4 (rsN xs 4 rr 0))), PhS wr.heap.size 36 [.int .u32 (rdV xs 4 (rsN xs 4 rr 0))], PhR (g + 1) (fun q => q = g ∨ q = hb ∨ q = w.heap.size + 1 ∨ blk? A1 = some q) 36 1 (u + 1) (ints .u32 dl ++ [.int .u32 (rdV xs 4 (rsN xs 4 rr 0))]), Is (.pointer (some ⟨hb, 3, none⟩)), Tru], Keeps φ := by
            intro φ hφ
            simp only [List.mem_cons, List.mem_nil_iff, or_false] at hφ
            rcases hφ with rfl | rfl | rfl | rfl | rfl | rfl | rfl <;> first | exact keeps_is _ | exact keeps_PhS | exact keeps_PhR | exact fun _ _ _ _ _ => trivial
          have HKg : ∀ φ ∈ [Is (.pointer (some ⟨hb, 3, none⟩)), Is (.slice B1 u d1), Is (.int .u32 (rdV xs 4 (rsN xs 4 rr 0))), PhS wr.heap.size 36 [.int .u32 (rdV xs 4 (rsN xs 4 rr 0))], PhR (g + 1) (fun q => q = g ∨ q = hb ∨ q = w.heap.size + 1 ∨ blk? A1 = some q) 36 1 (u + 1) (ints .u32 dl ++ [.int .u32 (rdV xs 4 (rsN xs 4 rr 0))]), Is (.pointer (some ⟨hb, 3, none⟩)), Tru], KpT (One g) φ := by
            intro φ hφ
            simp only [List.mem_cons, List.mem_nil_iff, or_false] at hφ
            rcases hφ with rfl | rfl | rfl | rfl | rfl | rfl | rfl <;> first | exact kpT_is _ _ | exact kpT_PhS (fun k hk => by rw [show k = g from hk]; exact HGWR.out) | exact kpT_PhR (fun k hk => .inl hk) | exact kpT_tru _
          have HKh : ∀ φ ∈ [Is (.pointer (some ⟨hb, 3, none⟩)), Is (.slice B1 u d1), Is (.int .u32 (rdV xs 4 (rsN xs 4 rr 0))), PhS wr.heap.size 36 [.int .u32 (rdV xs 4 (rsN xs 4 rr 0))], PhR (g + 1) (fun q => q = g ∨ q = hb ∨ q = w.heap.size + 1 ∨ blk? A1 = some q) 36 1 (u + 1) (ints .u32 dl ++ [.int .u32 (rdV xs 4 (rsN xs 4 rr 0))]), Is (.pointer (some ⟨hb, 3, none⟩)), Tru], KpT (fun k => k = hb) φ := by
            intro φ hφ
            simp only [List.mem_cons, List.mem_nil_iff, or_false] at hφ
            rcases hφ with rfl | rfl | rfl | rfl | rfl | rfl | rfl <;> first | exact kpT_is _ _ | exact kpT_PhS (fun k hk => by rw [hk]; exact HHWR.out) | exact kpT_PhR (fun k hk => .inr (.inl hk)) | exact kpT_tru _
          have HNE : ∀ j φ, [Is (.pointer (some ⟨hb, 3, none⟩)), Is (.slice B1 u d1), Is (.int .u32 (rdV xs 4 (rsN xs 4 rr 0))), PhS wr.heap.size 36 [.int .u32 (rdV xs 4 (rsN xs 4 rr 0))], PhR (g + 1) (fun q => q = g ∨ q = hb ∨ q = w.heap.size + 1 ∨ blk? A1 = some q) 36 1 (u + 1) (ints .u32 dl ++ [.int .u32 (rdV xs 4 (rsN xs 4 rr 0))]), Is (.pointer (some ⟨hb, 3, none⟩)), Tru][j]? = some φ → j ≠ 4 → KpT (fun k => blk? B1 = some k) φ := by
            intro j φ hj hne
            rcases j with _ | _ | _ | _ | _ | _ | _ | j <;> first | exact absurd rfl hne | (simp at hj; done) | (have hj2 := Option.some.inj hj; subst hj2; first | exact kpT_is _ _ | exact kpT_PhS (fun k hk => HAWR.out k hk) | exact kpT_tru _)
          refine staged_lit (by kernel_rfl) (facts [Is (.pointer (some ⟨hb, 3, none⟩)), Is (.slice B1 u d1), Is (.int .u32 (rdV xs 4 (rsN xs 4 rr 0))), PhS wr.heap.size 36 [.int .u32 (rdV xs 4 (rsN xs 4 rr 0))], PhR (g + 1) (fun q => q = g ∨ q = hb ∨ q = w.heap.size + 1 ∨ blk? A1 = some q) 36 1 (u + 1) (ints .u32 dl ++ [.int .u32 (rdV xs 4 (rsN xs 4 rr 0))]), Is (.pointer (some ⟨hb, 3, none⟩)), Tru]) (Stg [2, 4, 6] (GW 1 (fun r wx => RH g [(w.heap.size + 1, .cells #[.int .u32 0, .int .u32 0, .slice none 0 0, .slice none 0 0] 59)] w xs r wx ∧ Row (g + 1) (fun q => q = g ∨ q = hb ∨ q = w.heap.size + 1) 93 2 wx A1 k c1 (gapc gl)) (rsN xs 4 rr) hb (fun B n d => #[.int .u32 t1, .int .u32 t2, .slice A1 k c1, .slice B n d]) (g + 1) (fun q => q = g ∨ q = hb ∨ q = w.heap.size + 1 ∨ blk? A1 = some q) 36 1 B1 u d1 ((ints .u32 dl)) (ints .u32 dl ++ [.int .u32 (rdV xs 4 (rsN xs 4 rr 0))]) wr.heap.size)) 65 rfl (by decide +kernel) (by decide +kernel) (Stg.start (gw_lo' (by omega) ⟨⟨hG.out.next (Up.drew wr), hRg.out.up (Up.drew wr)⟩, ((Up.drew wr).block _ (lt_of_blk hH.out)).trans hH.out, hR.out.up (Up.drew wr), (Up.drew wr).size⟩)) ?_ ?_
          · refine ⟨?_, ?_, ?_, ?_, ?_, ?_, ?_, trivial⟩
            · refine opS_same rfl rfl fun L ac w1 hJ hl hc ho hd => ?_
              have s5 : ac.eval (.tmp 5) = .pointer (some ⟨hb, 0, none⟩) := ho 5 rfl
              exact ⟨_, x_field 59 (.tmp 5) 3 rfl s5 (fld593 _ _ _), rfl⟩
            · refine opS_same rfl rfl fun L ac w1 hJ hl hc ho hd => ?_
              have d0 : ac.eval (.tmp 49) = .pointer (some ⟨hb, 3, none⟩) := hd 0 _ _ rfl rfl rfl
              obtain ⟨k1, hk1, hW⟩ := hJ.ahead (j := 1) (x := 4) rfl (reach_not hc (n := 7) (k := 4) (by kernel_rfl) hl)
              have hW := gw_lo hW hk1
              exact ⟨_, x_load 57 (.tmp 49) rfl d0 (run_load1 agg57 (cell_of hW.2.1 (j := 3) rfl)), rfl⟩
            · refine opS_writeCall (j := 0) rfl (by decide) rfl (fun y hy h0 => absurd h0 (by omega)) fun ac w1 hW ho hd => ?_
              have s4 : ac.eval (.tmp 4) = .pointer (some ⟨g, 0, none⟩) := ho 4 rfl
              have hW := gw_lo hW (by omega)
              refine ⟨47, _, x_fcall 47 [.tmp 4] _ rfl (by kernel_rfl), ?_⟩
              simp only [List.map_cons, List.map_nil, s4]
              refine (rfour w1 hW.1.1.isR).mono fun e w2 ⟨v, r9, he, hs, hbd, hi, ho2⟩ => ?_
              obtain rfl := hs.out.val
              obtain rfl := hs.out.st
              exact ⟨_, he, gw_lo' (by omega) ⟨⟨hW.1.1.step hi ho2, hW.1.2.outX ho2.out (fun q hq => .inl hq)⟩, ho2.out.blk hW.2.1 (fun e => by have := HGH.out; have e1 : hb = g := e; omega), hW.2.2.1.outX ho2.out (fun k hk => .inl hk), Nat.le_trans hW.2.2.2 ho2.out.size⟩, rfl, fun j x _ hx => facts_kp HKg j x w1 w2 hx ho2.out⟩
            · refine opS_grow rfl rfl (fun k wa wb h hu => gw_up HCU h hu) (facts_keep HK) fun L ac w1 hJ hl hc ho hd => ?_
              have d2 : ac.eval (.tmp 51) = .int .u32 (rdV xs 4 (rsN xs 4 rr 0)) := hd 2 _ _ rfl rfl rfl
              obtain ⟨k1, hk1, hW⟩ := hJ.ahead (j := 1) (x := 4) rfl (reach_not hc (n := 7) (k := 4) (by kernel_rfl) hl)
              have hW := gw_lo hW hk1
              exact fine_run (.slice (some ⟨w1.heap.size, 0, none⟩) 1 1) (w1.alloc (.cells #[.int .u32 (rdV xs 4 (rsN xs 4 rr 0))] 36)) (x_bslice 57 1 _ rfl (by simp only [List.map_toArray, List.map_cons, List.map_nil, d2]; exact bs_dup _ w1)) (up_alloc _ _) ⟨w1.heap.size, rfl, hW.2.2.2, new_at _ _⟩
            · refine opS_writeV (j := 1) rfl (by decide) rfl (fun y hy _ => by cases hy; rfl) fun ac w1 hW ho hd => ?_
              have d1 : ac.eval (.tmp 50) = .slice B1 u d1 := hd 1 _ _ rfl rfl rfl
              have d3 := hd 3 _ _ rfl rfl rfl
              have hW := gw_lo hW (by omega)
              obtain ⟨u, w2, hr, ho2, hu⟩ := app_step (ty := 57) Try.underlying57 info36 rfl (by decide) hW.2.2.1 d3 rfl (by simp [Value.oneCell']) (fun q hq => by rcases hq with hq | hq | hq | hq; rw [hq]; exact hW.1.1.isR.lt; rw [hq]; exact lt_of_blk hW.2.1; rw [hq]; exact lt_of_blk (hW.1.1.kept _ List.mem_cons_self).1; exact hW.1.2.lt hq) (by have := hW.1.1.isR.lt; omega) (by omega) (by omega)
              exact ⟨u, w2, x_append (.tmp 50) (.tmp 52) 57 57 rfl d1 rfl hr, gw_mid' ⟨⟨hW.1.1.sideT ho2 (fun q hq => (hW.2.2.1.blk q hq).1) (by intro p hp; rw [List.mem_singleton] at hp; subst hp; exact fun e => (hW.2.2.1.blk _ e).2 (.inr (.inr (.inl rfl)))), hW.1.2.out ho2 (fun q hq e => (hW.2.2.1.blk q e).2 (.inr (.inr (.inr hq))))⟩, ho2.blk hW.2.1 (fun e => (hW.2.2.1.blk _ e).2 (.inr (.inl rfl))), Nat.le_trans hW.2.2.2 ho2.size⟩, hu, fun j x hj hx => facts_ne HNE j x w1 w2 hj hx ho2⟩
            · refine opS_same rfl rfl fun L ac w1 hJ hl hc ho hd => ?_
              have s5 : ac.eval (.tmp 5) = .pointer (some ⟨hb, 0, none⟩) := ho 5 rfl
              exact ⟨_, x_field 59 (.tmp 5) 3 rfl s5 (fld593 _ _ _), rfl⟩
            · refine opS_write (j := 2) rfl rfl (by decide) rfl (fun y hy _ => by cases hy; rfl) fun ac w1 hW ho hd => ?_
              have d5 : ac.eval (.tmp 54) = .pointer (some ⟨hb, 3, none⟩) := hd 5 _ _ rfl rfl rfl
              have d4 := hd 4 _ _ rfl rfl rfl
              have hW := gw_mid hW
              obtain ⟨A7, c7, e7, row7⟩ := d4
              have hs := setCell_out w1 hb 3 (.slice A7 (u + 1) c7)
              exact ⟨_, x_store 57 (.tmp 54) (.tmp 53) rfl d5 e7 (run_store1 sz57 hW.2.1 (j := 3) (by simp) rfl rfl), gw_hi' ⟨A7, c7, ⟨hW.1.1.sideT hs (fun q hq => by rw [show q = hb from hq]; exact HGH.out) (by intro p hp; rw [List.mem_singleton] at hp; subst hp; exact fun e => HBQ.out e.symm), hW.1.2.outX hs (fun q hq => .inr (.inl hq))⟩, (setCell_at _ hW.2.1).trans rfl, row7.outX hs (fun k hk => .inr (.inl hk))⟩, fun _ => trivial, fun j x hx => facts_kp HKh j x w1 _ hx hs⟩
          · intro L a1 w9 hI hall
            obtain ⟨j, hj, hW⟩ := hI.done hall (by simp)
            obtain ⟨j, rfl⟩ : ∃ q, j = q + 1 + 2 := ⟨j - 3, by simp at hj; omega⟩
            obtain ⟨A8, c8, hC8, hH8, hR8⟩ := gw_hi hW
            clear hj hW j HK HKg HKh HNE
            have l0 : a1.tmps.getD 0 undef = Value.agg #[Value.int IntKind.u8 3, Value.int IntKind.u8 0, Value.slice A m c] := hI.old 0 rfl
            have l1 : a1.tmps.getD 1 undef = Value.pointer (some { block := w.heap.size, off := 0 }) := hI.old 1 rfl
            have l2 : a1.tmps.getD 2 undef = Value.pointer (some { block := w.heap.size + 1, off := 0 }) := hI.old 2 rfl
            have l3 : a1.tmps.getD 3 undef = Value.int IntKind.i64 0 := hI.old 3 rfl
            have l4 : a1.tmps.getD 4 undef = Value.pointer (some { block := g, off := 0 }) := hI.old 4 rfl
            have l5 : a1.tmps.getD 5 undef = Value.pointer (some { block := hb, off := 0 }) := hI.old 5 rfl
            have l6 : a1.tmps.getD 6 undef = Value.int IntKind.i64 ↑k := hI.old 6 rfl
            have l7 : a1.tmps.getD 7 undef = Value.int IntKind.i64 ↑nd := hI.old 7 rfl
            have l8 : a1.tmps.getD 8 undef = Value.pointer (some { block := w.heap.size, off := 0 }) := hI.old 8 rfl
            have l9 : a1.tmps.getD 9 undef = Value.int IntKind.u8 3 := hI.old 9 rfl
            have l10 : a1.tmps.getD 10 undef = Value.bool false := hI.old 10 rfl
            have l11 : a1.tmps.getD 11 undef = Value.bool false := hI.old 11 rfl
            have l12 : a1.tmps.getD 12 undef = Value.pointer (some { block := w.heap.size, off := 1 }) := hI.old 12 rfl
            have l13 : a1.tmps.getD 13 undef = Value.int IntKind.u8 0 := hI.old 13 rfl
            have l14 : a1.tmps.getD 14 undef = Value.bool false := hI.old 14 rfl
            have l15 : a1.tmps.getD 15 undef = Value.bool false := hI.old 15 rfl
            have l16 : a1.tmps.getD 16 undef = undef := hI.old 16 rfl
            have l17 : a1.tmps.getD 17 undef = Value.pointer (some { block := w.heap.size, off := 2 }) := hI.old 17 rfl
            have l18 : a1.tmps.getD 18 undef = Value.slice A m c := hI.old 18 rfl
            have l19 : a1.tmps.getD 19 undef = Value.agg #[Value.slice A m c, Value.int IntKind.i64 0, Value.int IntKind.i64 0] := hI.old 19 rfl
            have l20 : a1.tmps.getD 20 undef = Value.int IntKind.u32 t1 := hI.old 20 rfl
            have l21 : a1.tmps.getD 21 undef = Value.int IntKind.u32 t2 := hI.old 21 rfl
            have l22 : a1.tmps.getD 22 undef = Value.agg #[Value.int IntKind.u32 t1, Value.int IntKind.u32 t2, Value.slice none 0 0, Value.slice none 0 0] := hI.old 22 rfl
            have l23 : a1.tmps.getD 23 undef = Value.int IntKind.u16 ↑k := hI.old 23 rfl
            have l24 : a1.tmps.getD 24 undef = Value.int IntKind.i64 ↑k := hI.old 24 rfl
            have l25 : a1.tmps.getD 25 undef = Value.int IntKind.u16 ↑nd := hI.old 25 rfl
            have l26 : a1.tmps.getD 26 undef = Value.int IntKind.i64 ↑nd := hI.old 26 rfl
            have l27 : a1.tmps.getD 27 undef = Value.int IntKind.i64 ↑k := hI.old 27 rfl
            have l28 : a1.tmps.getD 28 undef = Value.bool false := hI.old 28 rfl
            have l29 : a1.tmps.getD 29 undef = Value.bool false := hI.old 29 rfl
            have l30 : a1.tmps.getD 30 undef = Value.int IntKind.i64 ↑nd := hI.old 30 rfl
            have l31 : a1.tmps.getD 31 undef = Value.bool false := hI.old 31 rfl
            have l32 : a1.tmps.getD 32 undef = Value.bool false := hI.old 32 rfl
            have l33 : a1.tmps.getD 33 undef = undef := hI.old 33 rfl
            have l34 : a1.tmps.getD 34 undef = Value.int IntKind.i64 ↑k := hI.old 34 rfl
            have l35 : a1.tmps.getD 35 undef = Value.int IntKind.i64 ↑k := hI.old 35 rfl
            have l36 : a1.tmps.getD 36 undef = Value.bool false := hI.old 36 rfl
            have l37 : a1.tmps.getD 37 undef = u37 := hI.old 37 rfl
            have l38 : a1.tmps.getD 38 undef = u38 := hI.old 38 rfl
            have l39 : a1.tmps.getD 39 undef = u39 := hI.old 39 rfl
            have l40 : a1.tmps.getD 40 undef = u40 := hI.old 40 rfl
            have l41 : a1.tmps.getD 41 undef = u41 := hI.old 41 rfl
            have l42 : a1.tmps.getD 42 undef = u42 := hI.old 42 rfl
            have l43 : a1.tmps.getD 43 undef = u43 := hI.old 43 rfl
            have l44 : a1.tmps.getD 44 undef = u44 := hI.old 44 rfl
            have l45 : a1.tmps.getD 45 undef = u45 := hI.old 45 rfl
            have l46 : a1.tmps.getD 46 undef = Value.int IntKind.i64 ↑nd := hI.old 46 rfl
            have l47 : a1.tmps.getD 47 undef = Value.int IntKind.i64 ↑u := hI.old 47 rfl
            have l48 : a1.tmps.getD 48 undef = Value.bool true := hI.old 48 rfl
            have l56 : a1.tmps.getD 56 undef = undef := hI.old 56 rfl
            have l57 : a1.tmps.getD 57 undef = undef := hI.old 57 rfl
            have l58 : a1.tmps.getD 58 undef = undef := hI.old 58 rfl
            have l59 : a1.tmps.getD 59 undef = undef := hI.old 59 rfl
            have l60 : a1.tmps.getD 60 undef = undef := hI.old 60 rfl
            have l61 : a1.tmps.getD 61 undef = undef := hI.old 61 rfl
            have l62 : a1.tmps.getD 62 undef = undef := hI.old 62 rfl
            have l63 : a1.tmps.getD 63 undef = undef := hI.old 63 rfl
            have l64 : a1.tmps.getD 64 undef = undef := hI.old 64 rfl
            have hde : a1.defers = [] := hI.defers
            have hal := act_lit a1 65 hI.size
            clear hI
            simp only [List.range, List.range.loop, List.map_cons, List.map_nil] at hal
            rw [l0, l1, l2, l3, l4, l5, l6, l7, l8, l9, l10, l11, l12, l13, l14, l15, l16, l17, l18, l19, l20, l21, l22, l23, l24, l25, l26, l27, l28, l29, l30, l31, l32, l33, l34, l35, l36, l37, l38, l39, l40, l41, l42, l43, l44, l45, l46, l47, l48, l56, l57, l58, l59, l60, l61, l62, l63, l64, hde] at hal
            generalize a1.tmps.getD 49 undef = tm49 at hal
            generalize a1.tmps.getD 50 undef = tm50 at hal
            generalize a1.tmps.getD 51 undef = tm51 at hal
            generalize a1.tmps.getD 52 undef = tm52 at hal
            generalize a1.tmps.getD 53 undef = tm53 at hal
            generalize a1.tmps.getD 54 undef = tm54 at hal
            generalize a1.tmps.getD 55 undef = tm55 at hal
            clear l0 l1 l2 l3 l4 l5 l6 l7 l8 l9 l10 l11 l12 l13 l14 l15 l16 l17 l18 l19 l20 l21 l22 l23 l24 l25 l26 l27 l28 l29 l30 l31 l32 l33 l34 l35 l36 l37 l38 l39 l40 l41 l42 l43 l44 l45 l46 l47 l48 l56 l57 l58 l59 l60 l61 l62 l63 l64 hde
            subst hal
            have HC8 := Lib.hid hC8.1
            have HG8 := Lib.hid hC8.2
            have HH8 := Lib.hid hH8
            have HR8 := Lib.hid (show Row (g + 1) (fun q => q = g ∨ q = hb ∨ q = w.heap.size + 1 ∨ blk? A1 = some q) 36 1 w9 A8 (u + 1) c8 (ints .u32 (dupsR xs (u + 1) rg).1) by rw [HNX.out]; simpa [ints] using hR8)
            clear hC8 hH8 hR8 HCU
            go_wp2_with fail
            go_roundw
            case rel => exact ⟨u + 1, A8, c8, by omega, by go_num, Lib.hid (by rw [HNX.out]; exact HC8.out), HH8, HG8, HR8⟩
            case measure => simp [intOf]; omega
        · obtain rfl : u = nd := by omega
          have HDL := Lib.hid (show DupOk (dupsR xs u rg).1 from dupsR_ok HI.out.byt _ _)
          have HDN := Lib.hid (show (dupsR xs u rg).1.length = u from dupsR_len _ _)
          generalize (dupsR xs u rg).1 = dl at HTD HOD HDL HDN hR
          generalize (dupsR xs u rg).2 = rF at HTD hG
          go_wp2_with fail
          refine (rwhole wr hG.out.isR).mono ?_
          rintro e y1 ⟨b, rfl, hb1, hu1⟩
          have GX := Lib.hid (hG.out.next hu1.out)
          have HX := Lib.hid ((hu1.out.block _ (lt_of_blk hH.out)).trans hH.out)
          have RX := Lib.hid (hRg.out.up hu1.out)
          have RY := Lib.hid (hR.out.up hu1.out)
          clear hG hH hRg hR
          cases b
          · have hq := Lib.hid (GX.out.kept _ List.mem_cons_self).1
            simp only at hq
            have e0 := cell_of hq.out (j := 0) rfl
            have f0 := frozen_at (j := 0) hq.out
            have e1 := cell_of hq.out (j := 1) rfl
            have f1 := frozen_at (j := 1) hq.out
            have e2 := cell_of hq.out (j := 2) rfl
            have f2 := frozen_at (j := 2) hq.out
            have e3 := cell_of hq.out (j := 3) rfl
            have f3 := frozen_at (j := 3) hq.out
            go_wp2_with fail
            have hs := set4 (a := .int .u32 0) (b := .int .u32 0) (c := .slice none 0 0) (d := .slice none 0 0) hq.out rfl
            refine bodyPost_ret (results_row_tmp (fn := Try.f30) (p := 2) (u := 3) (ty := 59) rfl _ _ (w.heap.size + 1) 59 _ (0, 0) _ rfl hs.1 Try.underlying59 rfl rfl) rfl (DNo.post ⟨rfl, Lib.hid (Below.out GX.out.up hs.2 (fun k hk => by rw [hk]; omega) GX.out.up.size)⟩ (fun h hp => by have h9 := HTD.out.2 h hp; have := hb1.out.2 ⟨h9.1, h9.2.1⟩; cases this))
          · have hw := Lib.hid (hb1.out.1 rfl)
            clear hb1
            have m0 := cell_of HX.out (j := 0) rfl
            have m1 := cell_of HX.out (j := 1) rfl
            have m2 := cell_of HX.out (j := 2) rfl
            have m3 := cell_of HX.out (j := 3) rfl
            go_wp2_with fail
            refine (chkD_any ⟨t1, t2, gl, dl⟩ A1 B1 k c1 u d1 y1 ⟨row_cells RX.out.own, HGL.out, row_cap RX.out.own, HGN.out⟩ (by omega) HDN.out.symm (by omega)).mono ?_
            rintro e y2 ⟨rfl, hu2⟩
            have GY := Lib.hid (GX.out.next hu2.out)
            have HY := Lib.hid ((hu2.out.block _ (lt_of_blk HX.out)).trans HX.out)
            have SX := Lib.hid (RX.out.up hu2.out)
            have SY := Lib.hid (RY.out.up hu2.out)
            have hq := Lib.hid (GY.out.kept _ List.mem_cons_self).1
            simp only at hq
            clear m0 m1 m2 m3
            have e0 := cell_of hq.out (j := 0) rfl
            have f0 := frozen_at (j := 0) hq.out
            have e1 := cell_of hq.out (j := 1) rfl
            have f1 := frozen_at (j := 1) hq.out
            have e2 := cell_of hq.out (j := 2) rfl
            have f2 := frozen_at (j := 2) hq.out
            have e3 := cell_of hq.out (j := 3) rfl
            have f3 := frozen_at (j := 3) hq.out
            by_cases hk0 : Ck.chkD ⟨t1, t2, gl, dl⟩ = 0
            · have HK := Lib.hid hk0
              rw [hk0]
              clear hk0
              have m0 := cell_of HY.out (j := 0) rfl
              have m1 := cell_of HY.out (j := 1) rfl
              have m2 := cell_of HY.out (j := 2) rfl
              have m3 := cell_of HY.out (j := 3) rfl
              go_wp2_with fail
              have hs := set4 (a := .int .u32 t1) (b := .int .u32 t2) (c := .slice A1 k c1) (d := .slice B1 u d1) hq.out rfl
              have TX := SX.out.outX hs.2 (fun q hq => .inr (.inr hq))
              have TY := SY.out.outX hs.2 (fun q hq => .inr (.inr (.inl hq)))
              exact bodyPost_ret (results_row_tmp (fn := Try.f30) (p := 2) (u := 3) (ty := 59) rfl _ _ (w.heap.size + 1) 59 _ (0, 0) _ rfl hs.1 Try.underlying59 rfl rfl) rfl ⟨⟨t1, t2, gl, dl⟩, 0, A1, k, c1, B1, u, d1, rfl, Lib.hid (.inl ⟨rfl, HTD.out.1 hw.out.1 hw.out.2 HK.out⟩), Lib.hid ⟨row_cells TX.own, HGL.out, row_cap TX.own, HGN.out⟩, Lib.hid ⟨row_cells TY.own, HDL.out, row_cap TY.own, HDN.out⟩, HOD, Lib.hid ⟨fun q hq => by have := (TX.blk q hq).1; have := GY.out.g0; omega, fun q hq => by have := (TY.blk q hq).1; have := GY.out.g0; omega⟩, Lib.hid (Below.out GY.out.up hs.2 (fun k hk => by rw [hk]; omega) GY.out.up.size)⟩
            · have HK := Lib.hid hk0
              have hkb : (Ck.chkD ⟨t1, t2, gl, dl⟩ == 0) = false := by rw [beq_eq_false_iff_ne]; exact hk0
              clear hk0
              generalize Ck.chkD ⟨t1, t2, gl, dl⟩ = kk at hkb HK HTD ⊢
              go_wp2_with fail
              have hs := set4 (a := .int .u32 0) (b := .int .u32 0) (c := .slice none 0 0) (d := .slice none 0 0) hq.out rfl
              refine bodyPost_ret (results_row_tmp (fn := Try.f30) (p := 2) (u := 3) (ty := 59) rfl _ _ (w.heap.size + 1) 59 _ (0, 0) _ rfl hs.1 Try.underlying59 rfl rfl) rfl (DNo.post ⟨rfl, Lib.hid (Below.out GY.out.up hs.2 (fun k hk => by rw [hk]; omega) GY.out.up.size)⟩ (fun h hp => HK.out (HTD.out.2 h hp).2.2))
theorem toD_any (A : Option Addr) (m c : Nat) (ty fl : Int) (xs : List Int) (w : World) (hin : InB w A m c xs) (hm : m ≤ 140737488351232) : Calls Try.prog 30 #[chV ty fl (.slice A m c)] w (ToDPost ty fl xs w) := by
  by_cases h3 : ty = 3
  · subst h3
    by_cases h0 : fl = 0
    · subst h0; exact toD_read A m c xs w hin hm
    · exact (toD_e2 A m c fl w (by simpa using h0)).mono fun e w' h => h.post fun h' ho => h0 ho.2.1
  · exact (toD_e1 A m c ty fl w (by simpa using h3)).mono fun e w' h => h.post fun h' ho => h3 ho.1
end Go.Proofs.Ytgikgcepeniekaa
