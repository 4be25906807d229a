import Derived.Test.YtfbjhialjepodaaNtRow
namespace Go.Proofs.Ytfbjhialjepodaa
open Go Go.RowKit
set_option linter.unusedVariables false
def refHd (dn : Int → Int → Int → Bool) (h : Int) (A : Option Addr) (n c : Nat) : Array Value := refBlk h A n c dn
theorem refHd_way (dn : Int → Int → Int → Bool) (h : Int) (A A' : Option Addr) (n c n' c' : Nat) : (refHd dn h A n c).setIfInBounds 1 (.slice A' n' c') = refHd dn h A' n' c' := refBlk_way _ _ _ _ _ _ _ _
theorem fld611 (b o : Nat) (w : World) : (Instr.fieldAt 61 (.pointer (some ⟨b, o, none⟩)) 1).run Try.prog w = .ok (.pointer (some ⟨b, o + 1, none⟩)) w := by kernel_rfl
set_option maxRecDepth 100000 in
set_option maxHeartbeats 2000000 in
theorem twin_p (b g c k : Nat) (m : Nat) (h : Int) (l : List FrB) (x : FrB) (w0 : World) (hbk : w0.heap[b]? = some (.cells ((netBlk m h) (some ⟨g, 0, none⟩) l.length c) 61 (0, 0)))
    (hrow : w0.ownsRow 0 46 6 (.slice (some ⟨g, 0, none⟩) l.length c) l.length (rowc l)) (hl : l.length < 1024) (hx : l[k]? = some x) (hgb : ∀ q, blk? (some ⟨g, 0, none⟩) = some q → q ≠ b) (hin : FrIn w0 x) :
    Calls Try.prog 15 #[.pointer (some ⟨b, 0, none⟩), .int .i64 (k : Int)] w0 fun e w' => e = .returned (.int .i64 0) ∧ WApp b 61 (netBlk m h) (some ⟨g, 0, none⟩) l x.f (Fresh w0.heap.size) w0 2 w' := by
  have hk : k < l.length := (List.getElem?_eq_some_iff.1 hx).1
  have hcb : w0.cell? ⟨b, 1, none⟩ = some (.slice (some ⟨g, 0, none⟩) l.length c) := cell_of hbk rfl
  have HCB := Lib.hid hcb
  have HBS := Lib.hid (lt_of_blk hbk)
  have HAB := Lib.hid (show ∀ q, blk? (some ⟨g, 0, none⟩) = some q → q < w0.heap.size from fun q hq => (World.ownsRow.lt hrow q (by rw [ownBlock_slice]; exact hq)).2)
  have HBA := Lib.hid (show ∀ q, blk? (some ⟨g, 0, none⟩) = some q → q ≠ b from hgb)
  have HBK := Lib.hid hbk
  have HROW := Lib.hid hrow
  have HL := Lib.hid hl
  have HSET := Lib.hid (show ∀ A' n' c', ((netBlk m h) (some ⟨g, 0, none⟩) l.length c).setIfInBounds 1 (.slice A' n' c') = (netBlk m h) A' n' c' from fun _ _ _ => netBlk_way _ _ _ _ _ _ _ _)
  have HG := Lib.hid (gok_fresh (b := b) HBS.out HAB.out)
  have HKL := Lib.hid hk
  have HXC := Lib.hid (show ∀ (j : Nat) (v : Value), (frc x)[j]? = some v → w0.cell? ⟨g, k * 6 + j, none⟩ = some v from fun j v hv => row_cell hrow (rowc_at hx hv))
  have HIN := Lib.hid (own_inB hin.1 hin.2.1)
  have HLN := Lib.hid hin.2.2
  have hl' := hl
  clear hbk hrow hx hin hgb hl
  generalize hn : l.length = n at hcb hk hl'
  have HN := Lib.hid hn
  clear hn
  go_enter Try.func15, Try.ntmps15
  go_wp2_with fail
  refine (find_in b n c k (some ⟨g, 0, none⟩) w0 hcb (by omega) hk).mono ?_
  rintro e w1 ⟨rfl, rfl⟩
  go_wp2_with fail
  refine (full_f b n c (some ⟨g, 0, none⟩) w1 hcb hl').mono ?_
  rintro e w0 ⟨rfl, rfl⟩
  go_upto_region 6 with (fail)
  have hn := HN.out
  subst hn
  clear HN
  have HKB : ∀ φ ∈ ([Is (.pointer (some ⟨b, 0, none⟩)), Is (.pointer (some ⟨b, 0, none⟩)), Is (.pointer (some ⟨b, 0, none⟩)), Is (.pointer (some ⟨b, 1, none⟩)), Is (.slice (some ⟨g, 0, none⟩) l.length c), Is (.pointer (some ⟨b, 0, none⟩)), Is (.pointer (some ⟨b, 0, none⟩)), Is (.pointer (some ⟨b, 1, none⟩)), Is (.slice (some ⟨g, 0, none⟩) l.length c), Is (.int .i64 (k : Int)), Is (.pointer (some ⟨g, k * 6, none⟩)), Is (frV x.f (.slice x.A x.f.bytes.length x.c)), PhF (x.f) (Fresh w0.heap.size), PhS w0.heap.size (x.f) (Fresh w0.heap.size), PhR w0.heap.size (some ⟨g, 0, none⟩) l (x.f) (Fresh w0.heap.size), Is (.pointer (some ⟨b, 0, none⟩)), Is (.pointer (some ⟨b, 1, none⟩)), Tru] : List (Value → World → Prop)), KpT (fun k => k = b) φ := by
    have i1 : ∀ x, KpT (fun k => k = b) (Is x) := fun x => kpT_is _ x
    have iPhF := KpT.mono (T' := fun k => k = b) (kpT_PhF (f := x.f) HG.out) (fun k hk => Or.inl hk)
    have iPhS := KpT.mono (T' := fun k => k = b) (kpT_PhS (f := x.f) HG.out HBS.out HAB.out) (fun k hk => Or.inl hk)
    have iR := kpb_PhR (l := l) (f := x.f) HG.out HBS.out HBA.out
    simp only [List.forall_mem_cons]
    exact ⟨i1 _, i1 _, i1 _, i1 _, i1 _, i1 _, i1 _, i1 _, i1 _, i1 _, i1 _, i1 _, iPhF, iPhS, iR, i1 _, i1 _, kpT_tru _, fun _ h => by cases h⟩
  have HK : ∀ φ ∈ ([Is (.pointer (some ⟨b, 0, none⟩)), Is (.pointer (some ⟨b, 0, none⟩)), Is (.pointer (some ⟨b, 0, none⟩)), Is (.pointer (some ⟨b, 1, none⟩)), Is (.slice (some ⟨g, 0, none⟩) l.length c), Is (.pointer (some ⟨b, 0, none⟩)), Is (.pointer (some ⟨b, 0, none⟩)), Is (.pointer (some ⟨b, 1, none⟩)), Is (.slice (some ⟨g, 0, none⟩) l.length c), Is (.int .i64 (k : Int)), Is (.pointer (some ⟨g, k * 6, none⟩)), Is (frV x.f (.slice x.A x.f.bytes.length x.c)), PhF (x.f) (Fresh w0.heap.size), PhS w0.heap.size (x.f) (Fresh w0.heap.size), PhR w0.heap.size (some ⟨g, 0, none⟩) l (x.f) (Fresh w0.heap.size), Is (.pointer (some ⟨b, 0, none⟩)), Is (.pointer (some ⟨b, 1, none⟩)), Tru] : List (Value → World → Prop)), Keeps φ := fun φ h => (HKB φ h).keeps
  have HNE : ∀ j φ, ([Is (.pointer (some ⟨b, 0, none⟩)), Is (.pointer (some ⟨b, 0, none⟩)), Is (.pointer (some ⟨b, 0, none⟩)), Is (.pointer (some ⟨b, 1, none⟩)), Is (.slice (some ⟨g, 0, none⟩) l.length c), Is (.pointer (some ⟨b, 0, none⟩)), Is (.pointer (some ⟨b, 0, none⟩)), Is (.pointer (some ⟨b, 1, none⟩)), Is (.slice (some ⟨g, 0, none⟩) l.length c), Is (.int .i64 (k : Int)), Is (.pointer (some ⟨g, k * 6, none⟩)), Is (frV x.f (.slice x.A x.f.bytes.length x.c)), PhF (x.f) (Fresh w0.heap.size), PhS w0.heap.size (x.f) (Fresh w0.heap.size), PhR w0.heap.size (some ⟨g, 0, none⟩) l (x.f) (Fresh w0.heap.size), Is (.pointer (some ⟨b, 0, none⟩)), Is (.pointer (some ⟨b, 1, none⟩)), Tru] : List (Value → World → Prop))[j]? = some φ → j ≠ 14 → KpT (fun k => blk? (some ⟨g, 0, none⟩) = some k) φ := by
    have i1 : ∀ x, KpT (fun k => blk? (some ⟨g, 0, none⟩) = some k) (Is x) := fun x => kpT_is _ x
    have iPhF := KpT.mono (T' := fun k => blk? (some ⟨g, 0, none⟩) = some k) (kpT_PhF (f := x.f) HG.out) (fun k hk => Or.inr hk)
    have iPhS := KpT.mono (T' := fun k => blk? (some ⟨g, 0, none⟩) = some k) (kpT_PhS (f := x.f) HG.out HBS.out HAB.out) (fun k hk => Or.inr hk)
    intro j φ hj hne
    match j, hj, hne with
    | 0, hj, hne => cases hj; exact i1 _
    | 1, hj, hne => cases hj; exact i1 _
    | 2, hj, hne => cases hj; exact i1 _
    | 3, hj, hne => cases hj; exact i1 _
    | 4, hj, hne => cases hj; exact i1 _
    | 5, hj, hne => cases hj; exact i1 _
    | 6, hj, hne => cases hj; exact i1 _
    | 7, hj, hne => cases hj; exact i1 _
    | 8, hj, hne => cases hj; exact i1 _
    | 9, hj, hne => cases hj; exact i1 _
    | 10, hj, hne => cases hj; exact i1 _
    | 11, hj, hne => cases hj; exact i1 _
    | 12, hj, hne => cases hj; exact iPhF
    | 13, hj, hne => cases hj; exact iPhS
    | 14, hj, hne => exact absurd rfl hne
    | 15, hj, hne => cases hj; exact i1 _
    | 16, hj, hne => cases hj; exact i1 _
    | 17, hj, hne => cases hj; exact kpT_tru _
  refine staged_lit (by kernel_rfl) (facts [Is (.pointer (some ⟨b, 0, none⟩)), Is (.pointer (some ⟨b, 0, none⟩)), Is (.pointer (some ⟨b, 0, none⟩)), Is (.pointer (some ⟨b, 1, none⟩)), Is (.slice (some ⟨g, 0, none⟩) l.length c), Is (.pointer (some ⟨b, 0, none⟩)), Is (.pointer (some ⟨b, 0, none⟩)), Is (.pointer (some ⟨b, 1, none⟩)), Is (.slice (some ⟨g, 0, none⟩) l.length c), Is (.int .i64 (k : Int)), Is (.pointer (some ⟨g, k * 6, none⟩)), Is (frV x.f (.slice x.A x.f.bytes.length x.c)), PhF (x.f) (Fresh w0.heap.size), PhS w0.heap.size (x.f) (Fresh w0.heap.size), PhR w0.heap.size (some ⟨g, 0, none⟩) l (x.f) (Fresh w0.heap.size), Is (.pointer (some ⟨b, 0, none⟩)), Is (.pointer (some ⟨b, 1, none⟩)), Tru]) (Stg [14, 17] (WApp b 61 (netBlk m h) (some ⟨g, 0, none⟩) l (x.f) (Fresh w0.heap.size) w0)) 31 rfl (by decide +kernel) (by decide +kernel) (Stg.start (Up.drew w0)) ?_ ?_
  · refine ⟨?_, ?_, ?_, ?_, ?_, ?_, ?_, ?_, ?_, ?_, ?_, ?_, ?_, ?_, ?_, ?_, ?_, ?_, trivial⟩
    · refine opS_same rfl rfl fun L ac w1 hJ hl hc ho hd => ?_
      have s0 : ac.eval (.tmp 0) = .pointer (some ⟨b, 0, none⟩) := ho 0 rfl
      exact ⟨_, x_move (.tmp 0) rfl s0, rfl⟩
    · refine opS_same rfl rfl fun L ac w1 hJ hl hc ho hd => ?_
      have s0 : ac.eval (.tmp 0) = .pointer (some ⟨b, 0, none⟩) := ho 0 rfl
      exact ⟨_, x_move (.tmp 0) rfl s0, rfl⟩
    · refine opS_same rfl rfl fun L ac w1 hJ hl hc ho hd => ?_
      have d1 : ac.eval (.tmp 15) = .pointer (some ⟨b, 0, none⟩) := hd 1 _ _ rfl rfl rfl
      exact ⟨_, x_nil (.tmp 15) rfl d1, rfl⟩
    · refine opS_same rfl rfl fun L ac w1 hJ hl hc ho hd => ?_
      have d2 : ac.eval (.tmp 16) = .pointer (some ⟨b, 0, none⟩) := hd 2 _ _ rfl rfl rfl
      exact ⟨_, x_field 61 (.tmp 16) 1 rfl d2 (fld611 _ _ _), rfl⟩
    · refine opS_same rfl rfl fun L ac w1 hJ hl hc ho hd => ?_
      have d3 : ac.eval (.tmp 17) = .pointer (some ⟨b, 1, none⟩) := hd 3 _ _ rfl rfl rfl
      have hW : Up w0 w1 := hJ.first (reach_not hc (n := 40) (k := 14) (by kernel_rfl) hl)
      exact ⟨_, x_load 29 (.tmp 17) rfl d3 (run_load1 agg29 (cell_up HCB.out hW)), rfl⟩
    · refine opS_same rfl rfl fun L ac w1 hJ hl hc ho hd => ?_
      have s0 : ac.eval (.tmp 0) = .pointer (some ⟨b, 0, none⟩) := ho 0 rfl
      exact ⟨_, x_move (.tmp 0) rfl s0, rfl⟩
    · refine opS_same rfl rfl fun L ac w1 hJ hl hc ho hd => ?_
      have d5 : ac.eval (.tmp 19) = .pointer (some ⟨b, 0, none⟩) := hd 5 _ _ rfl rfl rfl
      exact ⟨_, x_nil (.tmp 19) rfl d5, rfl⟩
    · refine opS_same rfl rfl fun L ac w1 hJ hl hc ho hd => ?_
      have d6 : ac.eval (.tmp 20) = .pointer (some ⟨b, 0, none⟩) := hd 6 _ _ rfl rfl rfl
      exact ⟨_, x_field 61 (.tmp 20) 1 rfl d6 (fld611 _ _ _), rfl⟩
    · refine opS_same rfl rfl fun L ac w1 hJ hl hc ho hd => ?_
      have d7 : ac.eval (.tmp 21) = .pointer (some ⟨b, 1, none⟩) := hd 7 _ _ rfl rfl rfl
      have hW : Up w0 w1 := hJ.first (reach_not hc (n := 40) (k := 14) (by kernel_rfl) hl)
      exact ⟨_, x_load 29 (.tmp 21) rfl d7 (run_load1 agg29 (cell_up HCB.out hW)), rfl⟩
    · refine opS_same rfl rfl fun L ac w1 hJ hl hc ho hd => ?_
      have s1 : ac.eval (.tmp 1) = .int .i64 (k : Int) := ho 1 rfl
      exact ⟨_, x_move (.tmp 1) rfl s1, rfl⟩
    · refine opS_same rfl rfl fun L ac w1 hJ hl hc ho hd => ?_
      have d8 : ac.eval (.tmp 22) = .slice (some ⟨g, 0, none⟩) l.length c := hd 8 _ _ rfl rfl rfl
      have d9 : ac.eval (.tmp 23) = .int .i64 (k : Int) := hd 9 _ _ rfl rfl rfl
      have hix := run_indexT (P := Try.prog) (T := 29) (E := 46) (s := 6) (A := ⟨g, 0, none⟩) (n := l.length) (c := c) (i := k) Try.underlying29 (siz46 w1) HKL.out
      rw [add_flat, Nat.zero_add] at hix
      exact ⟨_, x_index 29 (.tmp 22) (.tmp 23) rfl d8 d9 hix, rfl⟩
    · refine opS_same rfl rfl fun L ac w1 hJ hl hc ho hd => ?_
      have d10 : ac.eval (.tmp 24) = .pointer (some ⟨g, k * 6, none⟩) := hd 10 _ _ rfl rfl rfl
      have hW : Up w0 w1 := hJ.first (reach_not hc (n := 40) (k := 14) (by kernel_rfl) hl)
      exact ⟨_, x_load 46 (.tmp 24) rfl d10 (run_load46 (fun j v hv => cell_up (HXC.out j v hv) hW)), rfl⟩
    · refine opS_callUp rfl rfl (fun k w w' => wApp_up HG.out) (facts_keep HK) fun L ac w1 hJ hl hc ho hd => ?_
      have d11 : ac.eval (.tmp 25) = frV x.f (.slice x.A x.f.bytes.length x.c) := hd 11 _ _ rfl rfl rfl
      have hW : Up w0 w1 := hJ.first (reach_not hc (n := 40) (k := 14) (by kernel_rfl) hl)
      refine ⟨32, _, x_fcall 32 [.tmp 25] _ rfl (by kernel_rfl), ?_⟩
      simp only [List.map_cons, List.map_nil, d11]
      refine (copied_ok (x.f) _ _ _ w1 (HIN.out.up hW) HLN.out).mono fun e w2 ⟨A', c', he, h1, h2⟩ => ⟨_, he, h2, ⟨⟨x.f, A', c'⟩, rfl, OwnI.mono h1 hW.size, rfl⟩⟩
    · refine opS_grow rfl rfl (fun k w w' => wApp_up HG.out) (facts_keep HK) fun L ac w1 hJ hl hc ho hd => ?_
      have d12 := hd 12 _ _ rfl rfl rfl
      have hW : Up w0 w1 := hJ.first (reach_not hc (n := 40) (k := 14) (by kernel_rfl) hl)
      obtain ⟨y, hy, hg, ey⟩ := d12
      have ey2 : ac.eval (.tmp 26) = _ := ey
      refine fine_run (.slice (some ⟨w1.heap.size, 0, none⟩) 1 1) (w1.alloc (.cells (frc y).toArray 46)) (x_bslice 29 1 _ rfl (by simp only [List.map_toArray, List.map_cons, List.map_nil, ey2]; exact bslice_run y w1)) (up_alloc _ _) ⟨w1.heap.size, y, hy, HG.out.keep _ _ _ hg ((up_alloc w1 _).out _), rfl, hW.size, new_at _ _⟩
    · refine opS_writeV (j := 0) rfl (by decide) rfl (fun _ _ h => absurd h (by omega)) fun ac w1 hW ho hd => ?_
      have d4 : ac.eval (.tmp 18) = .slice (some ⟨g, 0, none⟩) l.length c := hd 4 _ _ rfl rfl rfl
      have d13 := hd 13 _ _ rfl rfl rfl
      obtain ⟨u, w2, hr, ho2, hu⟩ := app_run 29 HL.out HROW.out HG.out (show Up w0 w1 from hW) d13
      refine ⟨u, w2, x_append (.tmp 18) (.tmp 27) 29 29 rfl d4 rfl hr, (show Out _ w0 w1 from (show Up w0 w1 from hW).out _).trans ho2 (Sub.refl _ _), hu, fun j x hj hx => facts_ne HNE j x w1 w2 hj hx ho2⟩
    · refine opS_same rfl rfl fun L ac w1 hJ hl hc ho hd => ?_
      have d0 : ac.eval (.tmp 14) = .pointer (some ⟨b, 0, none⟩) := hd 0 _ _ rfl rfl rfl
      exact ⟨_, x_nil (.tmp 14) rfl d0, rfl⟩
    · refine opS_same rfl rfl fun L ac w1 hJ hl hc ho hd => ?_
      have d15 : ac.eval (.tmp 29) = .pointer (some ⟨b, 0, none⟩) := hd 15 _ _ rfl rfl rfl
      exact ⟨_, x_field 61 (.tmp 29) 1 rfl d15 (fld611 _ _ _), rfl⟩
    · refine opS_write (j := 1) rfl rfl (by decide) rfl (fun y hy _ => by cases hy; rfl) fun ac w1 hW ho hd => ?_
      have d16 : ac.eval (.tmp 30) = .pointer (some ⟨b, 1, none⟩) := hd 16 _ _ rfl rfl rfl
      have d14 := hd 14 _ _ rfl rfl rfl
      obtain ⟨w2, hr, hw2, ho2⟩ := store_run (cs := (netBlk m h)) (A := (some ⟨g, 0, none⟩)) (n := l.length) (c := c) HBK.out (fun _ _ _ => HSET.out _ _ _) (by simp [netBlk]) HBA.out HG.out (show Out _ w0 w1 from hW) d14
      exact ⟨w2, x_store 29 (.tmp 30) (.tmp 28) rfl d16 rfl hr, hw2, fun _ => trivial, fun j x hx => facts_kp HKB j x w1 w2 hx ho2⟩
  · intro L a1 w9 hI hall
    obtain ⟨q, hq, hW⟩ := hI.done hall (by simp)
    obtain ⟨q, rfl⟩ : ∃ r, q = r + 2 := ⟨q - 2, by simp at hq; omega⟩
    have Z := Lib.hid (show WApp b 61 (netBlk m h) (some ⟨g, 0, none⟩) l (x.f) (Fresh w0.heap.size) w0 2 w9 from hW)
    clear hq hW q HKB HK HNE
    have l0 : a1.tmps.getD 0 undef = .pointer (some ⟨b, 0, none⟩) := hI.old 0 rfl
    have hde : a1.defers = [] := hI.defers
    have hal := act_lit a1 31 hI.size
    clear hI
    simp only [List.range, List.range.loop, List.map_cons, List.map_nil] at hal
    rw [l0, hde] at hal
    generalize a1.tmps.getD 1 undef = t1 at hal
    generalize a1.tmps.getD 2 undef = t2 at hal
    generalize a1.tmps.getD 3 undef = t3 at hal
    generalize a1.tmps.getD 4 undef = t4 at hal
    generalize a1.tmps.getD 5 undef = t5 at hal
    generalize a1.tmps.getD 6 undef = t6 at hal
    generalize a1.tmps.getD 7 undef = t7 at hal
    generalize a1.tmps.getD 8 undef = t8 at hal
    generalize a1.tmps.getD 9 undef = t9 at hal
    generalize a1.tmps.getD 10 undef = t10 at hal
    generalize a1.tmps.getD 11 undef = t11 at hal
    generalize a1.tmps.getD 12 undef = t12 at hal
    generalize a1.tmps.getD 13 undef = t13 at hal
    generalize a1.tmps.getD 14 undef = t14 at hal
    generalize a1.tmps.getD 15 undef = t15 at hal
    generalize a1.tmps.getD 16 undef = t16 at hal
    generalize a1.tmps.getD 17 undef = t17 at hal
    generalize a1.tmps.getD 18 undef = t18 at hal
    generalize a1.tmps.getD 19 undef = t19 at hal
    generalize a1.tmps.getD 20 undef = t20 at hal
    generalize a1.tmps.getD 21 undef = t21 at hal
    generalize a1.tmps.getD 22 undef = t22 at hal
    generalize a1.tmps.getD 23 undef = t23 at hal
    generalize a1.tmps.getD 24 undef = t24 at hal
    generalize a1.tmps.getD 25 undef = t25 at hal
    generalize a1.tmps.getD 26 undef = t26 at hal
    generalize a1.tmps.getD 27 undef = t27 at hal
    generalize a1.tmps.getD 28 undef = t28 at hal
    generalize a1.tmps.getD 29 undef = t29 at hal
    generalize a1.tmps.getD 30 undef = t30 at hal
    clear l0 hde
    subst hal
    go_wp2_with fail
    go_ret
    exact ⟨rfl, Z.out⟩
set_option maxRecDepth 100000 in
set_option maxHeartbeats 2000000 in
theorem twin_r (b g c k : Nat) (h : Int) (dn : Int → Int → Int → Bool) (l : List FrB) (x : FrB) (w0 : World) (hbk : w0.heap[b]? = some (.cells ((refHd dn h) (some ⟨g, 0, none⟩) l.length c) 34 (0, 0)))
    (hrow : w0.ownsRow 0 46 6 (.slice (some ⟨g, 0, none⟩) l.length c) l.length (rowc l)) (hl : l.length < 1024) (hx : l[k]? = some x) (hgb : ∀ q, blk? (some ⟨g, 0, none⟩) = some q → q ≠ b) (hin : FrIn w0 x) :
    Calls Try.prog 24 #[.pointer (some ⟨b, 0, none⟩), .int .i64 (k : Int)] w0 fun e w' => e = .returned (.int .i64 0) ∧ WApp b 34 (refHd dn h) (some ⟨g, 0, none⟩) l x.f (Fresh w0.heap.size) w0 2 w' := by
  have hk : k < l.length := (List.getElem?_eq_some_iff.1 hx).1
  have hcb : w0.cell? ⟨b, 1, none⟩ = some (.slice (some ⟨g, 0, none⟩) l.length c) := cell_of hbk (refBlk_1 _ _ _ _ _)
  have HCB := Lib.hid hcb
  have HBS := Lib.hid (lt_of_blk hbk)
  have HAB := Lib.hid (show ∀ q, blk? (some ⟨g, 0, none⟩) = some q → q < w0.heap.size from fun q hq => (World.ownsRow.lt hrow q (by rw [ownBlock_slice]; exact hq)).2)
  have HBA := Lib.hid (show ∀ q, blk? (some ⟨g, 0, none⟩) = some q → q ≠ b from hgb)
  have HBK := Lib.hid hbk
  have HROW := Lib.hid hrow
  have HL := Lib.hid hl
  have HSET := Lib.hid (show ∀ A' n' c', ((refHd dn h) (some ⟨g, 0, none⟩) l.length c).setIfInBounds 1 (.slice A' n' c') = (refHd dn h) A' n' c' from fun _ _ _ => refHd_way _ _ _ _ _ _ _ _)
  have HG := Lib.hid (gok_fresh (b := b) HBS.out HAB.out)
  have HKL := Lib.hid hk
  have HXC := Lib.hid (show ∀ (j : Nat) (v : Value), (frc x)[j]? = some v → w0.cell? ⟨g, k * 6 + j, none⟩ = some v from fun j v hv => row_cell hrow (rowc_at hx hv))
  have HIN := Lib.hid (own_inB hin.1 hin.2.1)
  have HLN := Lib.hid hin.2.2
  have hl' := hl
  clear hbk hrow hx hin hgb hl
  generalize hn : l.length = n at hcb hk hl'
  have HN := Lib.hid hn
  clear hn
  go_enter Try.func24, Try.ntmps24
  go_upto_region 5 with (fail)
  have hn := HN.out
  subst hn
  clear HN
  have HKB : ∀ φ ∈ ([Is (.pointer (some ⟨b, 0, none⟩)), Is (.pointer (some ⟨b, 0, none⟩)), Is (.pointer (some ⟨b, 0, none⟩)), Is (.pointer (some ⟨b, 1, none⟩)), Is (.slice (some ⟨g, 0, none⟩) l.length c), Is (.pointer (some ⟨b, 0, none⟩)), Is (.pointer (some ⟨b, 0, none⟩)), Is (.pointer (some ⟨b, 1, none⟩)), Is (.slice (some ⟨g, 0, none⟩) l.length c), Is (.int .i64 (k : Int)), Is (.pointer (some ⟨g, k * 6, none⟩)), Is (frV x.f (.slice x.A x.f.bytes.length x.c)), PhF (x.f) (Fresh w0.heap.size), PhS w0.heap.size (x.f) (Fresh w0.heap.size), PhR w0.heap.size (some ⟨g, 0, none⟩) l (x.f) (Fresh w0.heap.size), Is (.pointer (some ⟨b, 0, none⟩)), Is (.pointer (some ⟨b, 1, none⟩)), Tru] : List (Value → World → Prop)), KpT (fun k => k = b) φ := by
    have i1 : ∀ x, KpT (fun k => k = b) (Is x) := fun x => kpT_is _ x
    have iPhF := KpT.mono (T' := fun k => k = b) (kpT_PhF (f := x.f) HG.out) (fun k hk => Or.inl hk)
    have iPhS := KpT.mono (T' := fun k => k = b) (kpT_PhS (f := x.f) HG.out HBS.out HAB.out) (fun k hk => Or.inl hk)
    have iR := kpb_PhR (l := l) (f := x.f) HG.out HBS.out HBA.out
    simp only [List.forall_mem_cons]
    exact ⟨i1 _, i1 _, i1 _, i1 _, i1 _, i1 _, i1 _, i1 _, i1 _, i1 _, i1 _, i1 _, iPhF, iPhS, iR, i1 _, i1 _, kpT_tru _, fun _ h => by cases h⟩
  have HK : ∀ φ ∈ ([Is (.pointer (some ⟨b, 0, none⟩)), Is (.pointer (some ⟨b, 0, none⟩)), Is (.pointer (some ⟨b, 0, none⟩)), Is (.pointer (some ⟨b, 1, none⟩)), Is (.slice (some ⟨g, 0, none⟩) l.length c), Is (.pointer (some ⟨b, 0, none⟩)), Is (.pointer (some ⟨b, 0, none⟩)), Is (.pointer (some ⟨b, 1, none⟩)), Is (.slice (some ⟨g, 0, none⟩) l.length c), Is (.int .i64 (k : Int)), Is (.pointer (some ⟨g, k * 6, none⟩)), Is (frV x.f (.slice x.A x.f.bytes.length x.c)), PhF (x.f) (Fresh w0.heap.size), PhS w0.heap.size (x.f) (Fresh w0.heap.size), PhR w0.heap.size (some ⟨g, 0, none⟩) l (x.f) (Fresh w0.heap.size), Is (.pointer (some ⟨b, 0, none⟩)), Is (.pointer (some ⟨b, 1, none⟩)), Tru] : List (Value → World → Prop)), Keeps φ := fun φ h => (HKB φ h).keeps
  have HNE : ∀ j φ, ([Is (.pointer (some ⟨b, 0, none⟩)), Is (.pointer (some ⟨b, 0, none⟩)), Is (.pointer (some ⟨b, 0, none⟩)), Is (.pointer (some ⟨b, 1, none⟩)), Is (.slice (some ⟨g, 0, none⟩) l.length c), Is (.pointer (some ⟨b, 0, none⟩)), Is (.pointer (some ⟨b, 0, none⟩)), Is (.pointer (some ⟨b, 1, none⟩)), Is (.slice (some ⟨g, 0, none⟩) l.length c), Is (.int .i64 (k : Int)), Is (.pointer (some ⟨g, k * 6, none⟩)), Is (frV x.f (.slice x.A x.f.bytes.length x.c)), PhF (x.f) (Fresh w0.heap.size), PhS w0.heap.size (x.f) (Fresh w0.heap.size), PhR w0.heap.size (some ⟨g, 0, none⟩) l (x.f) (Fresh w0.heap.size), Is (.pointer (some ⟨b, 0, none⟩)), Is (.pointer (some ⟨b, 1, none⟩)), Tru] : List (Value → World → Prop))[j]? = some φ → j ≠ 14 → KpT (fun k => blk? (some ⟨g, 0, none⟩) = some k) φ := by
    have i1 : ∀ x, KpT (fun k => blk? (some ⟨g, 0, none⟩) = some k) (Is x) := fun x => kpT_is _ x
    have iPhF := KpT.mono (T' := fun k => blk? (some ⟨g, 0, none⟩) = some k) (kpT_PhF (f := x.f) HG.out) (fun k hk => Or.inr hk)
    have iPhS := KpT.mono (T' := fun k => blk? (some ⟨g, 0, none⟩) = some k) (kpT_PhS (f := x.f) HG.out HBS.out HAB.out) (fun k hk => Or.inr hk)
    intro j φ hj hne
    match j, hj, hne with
    | 0, hj, hne => cases hj; exact i1 _
    | 1, hj, hne => cases hj; exact i1 _
    | 2, hj, hne => cases hj; exact i1 _
    | 3, hj, hne => cases hj; exact i1 _
    | 4, hj, hne => cases hj; exact i1 _
    | 5, hj, hne => cases hj; exact i1 _
    | 6, hj, hne => cases hj; exact i1 _
    | 7, hj, hne => cases hj; exact i1 _
    | 8, hj, hne => cases hj; exact i1 _
    | 9, hj, hne => cases hj; exact i1 _
    | 10, hj, hne => cases hj; exact i1 _
    | 11, hj, hne => cases hj; exact i1 _
    | 12, hj, hne => cases hj; exact iPhF
    | 13, hj, hne => cases hj; exact iPhS
    | 14, hj, hne => exact absurd rfl hne
    | 15, hj, hne => cases hj; exact i1 _
    | 16, hj, hne => cases hj; exact i1 _
    | 17, hj, hne => cases hj; exact kpT_tru _
  refine staged_lit (by kernel_rfl) (facts [Is (.pointer (some ⟨b, 0, none⟩)), Is (.pointer (some ⟨b, 0, none⟩)), Is (.pointer (some ⟨b, 0, none⟩)), Is (.pointer (some ⟨b, 1, none⟩)), Is (.slice (some ⟨g, 0, none⟩) l.length c), Is (.pointer (some ⟨b, 0, none⟩)), Is (.pointer (some ⟨b, 0, none⟩)), Is (.pointer (some ⟨b, 1, none⟩)), Is (.slice (some ⟨g, 0, none⟩) l.length c), Is (.int .i64 (k : Int)), Is (.pointer (some ⟨g, k * 6, none⟩)), Is (frV x.f (.slice x.A x.f.bytes.length x.c)), PhF (x.f) (Fresh w0.heap.size), PhS w0.heap.size (x.f) (Fresh w0.heap.size), PhR w0.heap.size (some ⟨g, 0, none⟩) l (x.f) (Fresh w0.heap.size), Is (.pointer (some ⟨b, 0, none⟩)), Is (.pointer (some ⟨b, 1, none⟩)), Tru]) (Stg [14, 17] (WApp b 34 (refHd dn h) (some ⟨g, 0, none⟩) l (x.f) (Fresh w0.heap.size) w0)) 39 rfl (by decide +kernel) (by decide +kernel) (Stg.start (Up.drew w0)) ?_ ?_
  · refine ⟨?_, ?_, ?_, ?_, ?_, ?_, ?_, ?_, ?_, ?_, ?_, ?_, ?_, ?_, ?_, ?_, ?_, ?_, trivial⟩
    · refine opS_same rfl rfl fun L ac w1 hJ hl hc ho hd => ?_
      have s0 : ac.eval (.tmp 0) = .pointer (some ⟨b, 0, none⟩) := ho 0 rfl
      exact ⟨_, x_move (.tmp 0) rfl s0, rfl⟩
    · refine opS_same rfl rfl fun L ac w1 hJ hl hc ho hd => ?_
      have s0 : ac.eval (.tmp 0) = .pointer (some ⟨b, 0, none⟩) := ho 0 rfl
      exact ⟨_, x_move (.tmp 0) rfl s0, rfl⟩
    · refine opS_same rfl rfl fun L ac w1 hJ hl hc ho hd => ?_
      have d1 : ac.eval (.tmp 23) = .pointer (some ⟨b, 0, none⟩) := hd 1 _ _ rfl rfl rfl
      exact ⟨_, x_nil (.tmp 23) rfl d1, rfl⟩
    · refine opS_same rfl rfl fun L ac w1 hJ hl hc ho hd => ?_
      have d2 : ac.eval (.tmp 24) = .pointer (some ⟨b, 0, none⟩) := hd 2 _ _ rfl rfl rfl
      exact ⟨_, x_field 34 (.tmp 24) 1 rfl d2 (fld341 _ _ _), rfl⟩
    · refine opS_same rfl rfl fun L ac w1 hJ hl hc ho hd => ?_
      have d3 : ac.eval (.tmp 25) = .pointer (some ⟨b, 1, none⟩) := hd 3 _ _ rfl rfl rfl
      have hW : Up w0 w1 := hJ.first (reach_not hc (n := 40) (k := 14) (by kernel_rfl) hl)
      exact ⟨_, x_load 29 (.tmp 25) rfl d3 (run_load1 agg29 (cell_up HCB.out hW)), rfl⟩
    · refine opS_same rfl rfl fun L ac w1 hJ hl hc ho hd => ?_
      have s0 : ac.eval (.tmp 0) = .pointer (some ⟨b, 0, none⟩) := ho 0 rfl
      exact ⟨_, x_move (.tmp 0) rfl s0, rfl⟩
    · refine opS_same rfl rfl fun L ac w1 hJ hl hc ho hd => ?_
      have d5 : ac.eval (.tmp 27) = .pointer (some ⟨b, 0, none⟩) := hd 5 _ _ rfl rfl rfl
      exact ⟨_, x_nil (.tmp 27) rfl d5, rfl⟩
    · refine opS_same rfl rfl fun L ac w1 hJ hl hc ho hd => ?_
      have d6 : ac.eval (.tmp 28) = .pointer (some ⟨b, 0, none⟩) := hd 6 _ _ rfl rfl rfl
      exact ⟨_, x_field 34 (.tmp 28) 1 rfl d6 (fld341 _ _ _), rfl⟩
    · refine opS_same rfl rfl fun L ac w1 hJ hl hc ho hd => ?_
      have d7 : ac.eval (.tmp 29) = .pointer (some ⟨b, 1, none⟩) := hd 7 _ _ rfl rfl rfl
      have hW : Up w0 w1 := hJ.first (reach_not hc (n := 40) (k := 14) (by kernel_rfl) hl)
      exact ⟨_, x_load 29 (.tmp 29) rfl d7 (run_load1 agg29 (cell_up HCB.out hW)), rfl⟩
    · refine opS_same rfl rfl fun L ac w1 hJ hl hc ho hd => ?_
      have s1 : ac.eval (.tmp 1) = .int .i64 (k : Int) := ho 1 rfl
      exact ⟨_, x_move (.tmp 1) rfl s1, rfl⟩
    · refine opS_same rfl rfl fun L ac w1 hJ hl hc ho hd => ?_
      have d8 : ac.eval (.tmp 30) = .slice (some ⟨g, 0, none⟩) l.length c := hd 8 _ _ rfl rfl rfl
      have d9 : ac.eval (.tmp 31) = .int .i64 (k : Int) := hd 9 _ _ rfl rfl rfl
      have hix := run_indexT (P := Try.prog) (T := 29) (E := 46) (s := 6) (A := ⟨g, 0, none⟩) (n := l.length) (c := c) (i := k) Try.underlying29 (siz46 w1) HKL.out
      rw [add_flat, Nat.zero_add] at hix
      exact ⟨_, x_index 29 (.tmp 30) (.tmp 31) rfl d8 d9 hix, rfl⟩
    · refine opS_same rfl rfl fun L ac w1 hJ hl hc ho hd => ?_
      have d10 : ac.eval (.tmp 32) = .pointer (some ⟨g, k * 6, none⟩) := hd 10 _ _ rfl rfl rfl
      have hW : Up w0 w1 := hJ.first (reach_not hc (n := 40) (k := 14) (by kernel_rfl) hl)
      exact ⟨_, x_load 46 (.tmp 32) rfl d10 (run_load46 (fun j v hv => cell_up (HXC.out j v hv) hW)), rfl⟩
    · refine opS_callUp rfl rfl (fun k w w' => wApp_up HG.out) (facts_keep HK) fun L ac w1 hJ hl hc ho hd => ?_
      have d11 : ac.eval (.tmp 33) = frV x.f (.slice x.A x.f.bytes.length x.c) := hd 11 _ _ rfl rfl rfl
      have hW : Up w0 w1 := hJ.first (reach_not hc (n := 40) (k := 14) (by kernel_rfl) hl)
      refine ⟨36, _, x_fcall 36 [.tmp 33] _ rfl (by kernel_rfl), ?_⟩
      simp only [List.map_cons, List.map_nil, d11]
      refine (own (x.f) _ _ _ w1 (HIN.out.up hW) HLN.out).mono fun e w2 ⟨A', c', he, h1, h2⟩ => ⟨_, he, h2, ⟨⟨x.f, A', c'⟩, rfl, OwnI.mono h1 hW.size, rfl⟩⟩
    · refine opS_grow rfl rfl (fun k w w' => wApp_up HG.out) (facts_keep HK) fun L ac w1 hJ hl hc ho hd => ?_
      have d12 := hd 12 _ _ rfl rfl rfl
      have hW : Up w0 w1 := hJ.first (reach_not hc (n := 40) (k := 14) (by kernel_rfl) hl)
      obtain ⟨y, hy, hg, ey⟩ := d12
      have ey2 : ac.eval (.tmp 34) = _ := ey
      refine fine_run (.slice (some ⟨w1.heap.size, 0, none⟩) 1 1) (w1.alloc (.cells (frc y).toArray 46)) (x_bslice 29 1 _ rfl (by simp only [List.map_toArray, List.map_cons, List.map_nil, ey2]; exact bslice_run y w1)) (up_alloc _ _) ⟨w1.heap.size, y, hy, HG.out.keep _ _ _ hg ((up_alloc w1 _).out _), rfl, hW.size, new_at _ _⟩
    · refine opS_writeV (j := 0) rfl (by decide) rfl (fun _ _ h => absurd h (by omega)) fun ac w1 hW ho hd => ?_
      have d4 : ac.eval (.tmp 26) = .slice (some ⟨g, 0, none⟩) l.length c := hd 4 _ _ rfl rfl rfl
      have d13 := hd 13 _ _ rfl rfl rfl
      obtain ⟨u, w2, hr, ho2, hu⟩ := app_run 29 HL.out HROW.out HG.out (show Up w0 w1 from hW) d13
      refine ⟨u, w2, x_append (.tmp 26) (.tmp 35) 29 29 rfl d4 rfl hr, (show Out _ w0 w1 from (show Up w0 w1 from hW).out _).trans ho2 (Sub.refl _ _), hu, fun j x hj hx => facts_ne HNE j x w1 w2 hj hx ho2⟩
    · refine opS_same rfl rfl fun L ac w1 hJ hl hc ho hd => ?_
      have d0 : ac.eval (.tmp 22) = .pointer (some ⟨b, 0, none⟩) := hd 0 _ _ rfl rfl rfl
      exact ⟨_, x_nil (.tmp 22) rfl d0, rfl⟩
    · refine opS_same rfl rfl fun L ac w1 hJ hl hc ho hd => ?_
      have d15 : ac.eval (.tmp 37) = .pointer (some ⟨b, 0, none⟩) := hd 15 _ _ rfl rfl rfl
      exact ⟨_, x_field 34 (.tmp 37) 1 rfl d15 (fld341 _ _ _), rfl⟩
    · refine opS_write (j := 1) rfl rfl (by decide) rfl (fun y hy _ => by cases hy; rfl) fun ac w1 hW ho hd => ?_
      have d16 : ac.eval (.tmp 38) = .pointer (some ⟨b, 1, none⟩) := hd 16 _ _ rfl rfl rfl
      have d14 := hd 14 _ _ rfl rfl rfl
      obtain ⟨w2, hr, hw2, ho2⟩ := store_run (cs := (refHd dn h)) (A := (some ⟨g, 0, none⟩)) (n := l.length) (c := c) HBK.out (fun _ _ _ => HSET.out _ _ _) (by unfold refHd; rw [refBlk_size]; omega) HBA.out HG.out (show Out _ w0 w1 from hW) d14
      exact ⟨w2, x_store 29 (.tmp 38) (.tmp 36) rfl d16 rfl hr, hw2, fun _ => trivial, fun j x hx => facts_kp HKB j x w1 w2 hx ho2⟩
  · intro L a1 w9 hI hall
    obtain ⟨q, hq, hW⟩ := hI.done hall (by simp)
    obtain ⟨q, rfl⟩ : ∃ r, q = r + 2 := ⟨q - 2, by simp at hq; omega⟩
    have Z := Lib.hid (show WApp b 34 (refHd dn h) (some ⟨g, 0, none⟩) l (x.f) (Fresh w0.heap.size) w0 2 w9 from hW)
    clear hq hW q HKB HK HNE
    have l0 : a1.tmps.getD 0 undef = .pointer (some ⟨b, 0, none⟩) := hI.old 0 rfl
    have hde : a1.defers = [] := hI.defers
    have hal := act_lit a1 39 hI.size
    clear hI
    simp only [List.range, List.range.loop, List.map_cons, List.map_nil] at hal
    rw [l0, hde] at hal
    generalize a1.tmps.getD 1 undef = t1 at hal
    generalize a1.tmps.getD 2 undef = t2 at hal
    generalize a1.tmps.getD 3 undef = t3 at hal
    generalize a1.tmps.getD 4 undef = t4 at hal
    generalize a1.tmps.getD 5 undef = t5 at hal
    generalize a1.tmps.getD 6 undef = t6 at hal
    generalize a1.tmps.getD 7 undef = t7 at hal
    generalize a1.tmps.getD 8 undef = t8 at hal
    generalize a1.tmps.getD 9 undef = t9 at hal
    generalize a1.tmps.getD 10 undef = t10 at hal
    generalize a1.tmps.getD 11 undef = t11 at hal
    generalize a1.tmps.getD 12 undef = t12 at hal
    generalize a1.tmps.getD 13 undef = t13 at hal
    generalize a1.tmps.getD 14 undef = t14 at hal
    generalize a1.tmps.getD 15 undef = t15 at hal
    generalize a1.tmps.getD 16 undef = t16 at hal
    generalize a1.tmps.getD 17 undef = t17 at hal
    generalize a1.tmps.getD 18 undef = t18 at hal
    generalize a1.tmps.getD 19 undef = t19 at hal
    generalize a1.tmps.getD 20 undef = t20 at hal
    generalize a1.tmps.getD 21 undef = t21 at hal
    generalize a1.tmps.getD 22 undef = t22 at hal
    generalize a1.tmps.getD 23 undef = t23 at hal
    generalize a1.tmps.getD 24 undef = t24 at hal
    generalize a1.tmps.getD 25 undef = t25 at hal
    generalize a1.tmps.getD 26 undef = t26 at hal
    generalize a1.tmps.getD 27 undef = t27 at hal
    generalize a1.tmps.getD 28 undef = t28 at hal
    generalize a1.tmps.getD 29 undef = t29 at hal
    generalize a1.tmps.getD 30 undef = t30 at hal
    generalize a1.tmps.getD 31 undef = t31 at hal
    generalize a1.tmps.getD 32 undef = t32 at hal
    generalize a1.tmps.getD 33 undef = t33 at hal
    generalize a1.tmps.getD 34 undef = t34 at hal
    generalize a1.tmps.getD 35 undef = t35 at hal
    generalize a1.tmps.getD 36 undef = t36 at hal
    generalize a1.tmps.getD 37 undef = t37 at hal
    generalize a1.tmps.getD 38 undef = t38 at hal
    clear l0 hde
    subst hal
    go_wp2_with fail
    go_ret
    exact ⟨rfl, Z.out⟩
end Go.Proofs.Ytfbjhialjepodaa
