import Derived.Test.YtfbjhialjepodaaNtTwin
namespace Go.Proofs.Ytfbjhialjepodaa
open Go Go.RowKit
set_option linter.unusedVariables false
/-- Behind a Take: the object at b has the frames l, the frame x is out of it. -/
def TkPost (b : Nat) (T : TypeId) (cs : Option Addr → Nat → Nat → Array Value) (l : List FrB) (x : FrB) (A0 : Option Addr) (S1 : Nat → Prop) (w : World) (A1 : Option Addr) (c : Nat) (w1 : World) : Prop :=
  w1.heap[b]? = some (.cells (cs A1 l.length c) T (0, 0)) ∧ w1.ownsRow 0 46 6 (.slice A1 l.length c) l.length (rowc l) ∧ (∀ q, blk? A1 = some q → q ≠ b ∧ blk? x.A ≠ some q) ∧ blk? x.A ≠ some b ∧ FrIn w1 x ∧ Out S1 w w1 ∧ ∀ q, blk? A1 = some q → blk? A0 = some q ∨ w.heap.size ≤ q
theorem TkPost.up {b : Nat} {T : TypeId} {cs : Option Addr → Nat → Nat → Array Value} {l : List FrB} {x : FrB} {A0 : Option Addr} {S1 : Nat → Prop} {w : World} {A1 : Option Addr} {c : Nat} {w1 w2 : World} (h : TkPost b T cs l x A0 S1 w A1 c w1) (hu : Up w1 w2) : TkPost b T cs l x A0 S1 w A1 c w2 := by
  obtain ⟨h1, h2, h3, h4, h5, h6, h7⟩ := h
  exact ⟨(hu.out No).blk h1 (fun h => h), own_up h2 hu, h3, h4, frIn_up h5 hu, h6.trans (S' := No) (hu.out No) (fun _ h => h.elim), h7⟩
/-- Behind a Last. -/
def LastPost (b : Nat) (T : TypeId) (cs : Option Addr → Nat → Nat → Array Value) (l : List FrB) (x : FrB) (A0 : Option Addr) (S1 : Nat → Prop) (w : World) (e : Ending) (w' : World) : Prop :=
  e = .returned (.int .i64 0) ∧ ∃ w0 A1 c, TkPost b T cs l x A0 S1 w A1 c w0 ∧ WApp b T cs A1 l x.f (fun y w => y = x ∧ FrIn w x) w0 2 w'
theorem gok_last {b : Nat} {A : Option Addr} {x : FrB} (hA : ∀ q, blk? A = some q → q ≠ b ∧ blk? x.A ≠ some q) (hx : blk? x.A ≠ some b) : GOk b A (fun y w => y = x ∧ FrIn w x) :=
  ⟨fun y w w' ⟨e, h⟩ ho => ⟨e, frIn_blk h (fun k hk => ho.block k (World.ownsRow.lt h.1 k (by rw [ownBlock_slice]; exact hk)).2 (fun ht => by
    rcases ht with ht | ht
    · exact hx (by rw [← ht]; exact hk)
    · exact (hA k ht).2 hk))⟩, fun y w ⟨e, h⟩ k hk => by
    subst e
    exact ⟨(World.ownsRow.lt h.1 k (by rw [ownBlock_slice]; exact hk)).2, fun e => (hA k e).2 hk⟩⟩
set_option maxRecDepth 100000 in
set_option maxHeartbeats 2000000 in
theorem last_p (b : Nat) (k : Int) (m : Nat) (h : Int) (l : List FrB) (x : FrB) (A0 : Option Addr) (S1 : Nat → Prop) (w : World) (hl : l.length < 1024)
    (hT : Calls Try.prog 16 #[.pointer (some ⟨b, 0, none⟩), .int .i64 k] w fun e w1 => ∃ A1 c, e = .returned (.tuple #[frV x.f (.slice x.A x.f.bytes.length x.c), .int .i64 0]) ∧ TkPost b 61 (netBlk m h) l x A0 S1 w A1 c w1) :
    Calls Try.prog 20 #[.pointer (some ⟨b, 0, none⟩), .int .i64 k] w (LastPost b 61 (netBlk m h) l x A0 S1 w) := by
  have HT := Lib.hid hT
  clear hT
  have HL0 := Lib.hid hl
  clear hl
  go_enter Try.func20, Try.ntmps20
  go_wp2_with fail
  refine HT.out.mono ?_
  rintro e w1 ⟨A1, c, rfl, hp⟩
  have HP := Lib.hid hp
  clear hp HT
  generalize hbs : x.f.bytes.length = bl
  have HBL := Lib.hid hbs
  clear hbs
  unfold frV
  go_upto_region 3 with (fail)
  have hbs := HBL.out
  subst hbs
  have hxn := new_at w1 (.cells #[.int .i64 x.f.fh, .int .i64 x.f.fp, .int .i64 x.f.th, .int .i64 x.f.tp, .slice x.A x.f.bytes.length x.c, .bool x.f.tn] 46)
  have HP0 := Lib.hid (HP.out.up (up_alloc w1 (.cells #[.int .i64 x.f.fh, .int .i64 x.f.fp, .int .i64 x.f.th, .int .i64 x.f.tp, .slice x.A x.f.bytes.length x.c, .bool x.f.tn] 46)))
  generalize (w1.alloc (.cells #[.int .i64 x.f.fh, .int .i64 x.f.fp, .int .i64 x.f.th, .int .i64 x.f.tp, .slice x.A x.f.bytes.length x.c, .bool x.f.tn] 46)) = w0 at hxn HP0 ⊢
  generalize w1.heap.size = xb at hxn ⊢
  clear HP
  obtain ⟨hbk, hrow, hgb, hxA, hin, hout, hqa⟩ := HP0.out
  have hl := HL0.out
  have hcb : w0.cell? ⟨b, 1, none⟩ = some (.slice A1 l.length c) := cell_of hbk rfl
  have HCB := Lib.hid hcb
  have HBS := Lib.hid (lt_of_blk hbk)
  have HAB := Lib.hid (show ∀ q, blk? A1 = some q → q < w0.heap.size from fun q hq => (World.ownsRow.lt hrow q (by rw [ownBlock_slice]; exact hq)).2)
  have HBA := Lib.hid (show ∀ q, blk? A1 = some q → q ≠ b from fun q hq => (hgb q hq).1)
  have HBK := Lib.hid hbk
  have HROW := Lib.hid hrow
  have HL := Lib.hid hl
  have HSET := Lib.hid (show ∀ A' n' c', ((netBlk m h) A1 l.length c).setIfInBounds 1 (.slice A' n' c') = (netBlk m h) A' n' c' from fun _ _ _ => netBlk_way _ _ _ _ _ _ _ _)
  have HG := Lib.hid (gok_last (b := b) hgb hxA)
  have HXC := Lib.hid (show ∀ (j : Nat) (v : Value), (frc x)[j]? = some v → w0.cell? ⟨xb, 0 + j, none⟩ = some v from fun j v hv => by rw [Nat.zero_add]; exact cell_of hxn (by simpa [frc] using hv))
  have HG0 := Lib.hid (show ∀ w1, Up w0 w1 → (fun y w => y = x ∧ FrIn w x) x w1 from fun w1 hu => ⟨rfl, frIn_up hin hu⟩)
  clear hbk hrow hgb hxA hin hout hqa hl hxn hcb
  have HKB : ∀ φ ∈ ([Is (.pointer (some ⟨b, 0, none⟩)), Is (.pointer (some ⟨b, 0, none⟩)), Is (.pointer (some ⟨b, 0, none⟩)), Is (.pointer (some ⟨b, 1, none⟩)), Is (.slice A1 l.length c), Is (frV x.f (.slice x.A x.f.bytes.length x.c)), PhS w0.heap.size (x.f) (fun y w => y = x ∧ FrIn w x), PhR w0.heap.size A1 l (x.f) (fun y w => y = x ∧ FrIn w x), Is (.pointer (some ⟨b, 0, none⟩)), Is (.pointer (some ⟨b, 1, none⟩)), Tru] : List (Value → World → Prop)), KpT (fun k => k = b) φ := by
    have i1 : ∀ x, KpT (fun k => k = b) (Is x) := fun x => kpT_is _ x
    have iPhS := KpT.mono (T' := fun k => k = b) (kpT_PhS (f := x.f) HG.out HBS.out HAB.out) (fun k hk => Or.inl hk)
    have iR := kpb_PhR (l := l) (f := x.f) HG.out HBS.out HBA.out
    simp only [List.forall_mem_cons]
    exact ⟨i1 _, i1 _, i1 _, i1 _, i1 _, i1 _, iPhS, iR, i1 _, i1 _, kpT_tru _, fun _ h => by cases h⟩
  have HK : ∀ φ ∈ ([Is (.pointer (some ⟨b, 0, none⟩)), Is (.pointer (some ⟨b, 0, none⟩)), Is (.pointer (some ⟨b, 0, none⟩)), Is (.pointer (some ⟨b, 1, none⟩)), Is (.slice A1 l.length c), Is (frV x.f (.slice x.A x.f.bytes.length x.c)), PhS w0.heap.size (x.f) (fun y w => y = x ∧ FrIn w x), PhR w0.heap.size A1 l (x.f) (fun y w => y = x ∧ FrIn w x), Is (.pointer (some ⟨b, 0, none⟩)), Is (.pointer (some ⟨b, 1, none⟩)), Tru] : List (Value → World → Prop)), Keeps φ := fun φ h => (HKB φ h).keeps
  have HNE : ∀ j φ, ([Is (.pointer (some ⟨b, 0, none⟩)), Is (.pointer (some ⟨b, 0, none⟩)), Is (.pointer (some ⟨b, 0, none⟩)), Is (.pointer (some ⟨b, 1, none⟩)), Is (.slice A1 l.length c), Is (frV x.f (.slice x.A x.f.bytes.length x.c)), PhS w0.heap.size (x.f) (fun y w => y = x ∧ FrIn w x), PhR w0.heap.size A1 l (x.f) (fun y w => y = x ∧ FrIn w x), Is (.pointer (some ⟨b, 0, none⟩)), Is (.pointer (some ⟨b, 1, none⟩)), Tru] : List (Value → World → Prop))[j]? = some φ → j ≠ 7 → KpT (fun k => blk? A1 = some k) φ := by
    have i1 : ∀ x, KpT (fun k => blk? A1 = some k) (Is x) := fun x => kpT_is _ x
    have iPhS := KpT.mono (T' := fun k => blk? A1 = some k) (kpT_PhS (f := x.f) HG.out HBS.out HAB.out) (fun k hk => Or.inr hk)
    intro j φ hj hne
    match j, hj, hne with
    | 0, hj, hne => cases hj; exact i1 _
    | 1, hj, hne => cases hj; exact i1 _
    | 2, hj, hne => cases hj; exact i1 _
    | 3, hj, hne => cases hj; exact i1 _
    | 4, hj, hne => cases hj; exact i1 _
    | 5, hj, hne => cases hj; exact i1 _
    | 6, hj, hne => cases hj; exact iPhS
    | 7, hj, hne => exact absurd rfl hne
    | 8, hj, hne => cases hj; exact i1 _
    | 9, hj, hne => cases hj; exact i1 _
    | 10, hj, hne => cases hj; exact kpT_tru _
  refine staged_lit (by kernel_rfl) (facts [Is (.pointer (some ⟨b, 0, none⟩)), Is (.pointer (some ⟨b, 0, none⟩)), Is (.pointer (some ⟨b, 0, none⟩)), Is (.pointer (some ⟨b, 1, none⟩)), Is (.slice A1 l.length c), Is (frV x.f (.slice x.A x.f.bytes.length x.c)), PhS w0.heap.size (x.f) (fun y w => y = x ∧ FrIn w x), PhR w0.heap.size A1 l (x.f) (fun y w => y = x ∧ FrIn w x), Is (.pointer (some ⟨b, 0, none⟩)), Is (.pointer (some ⟨b, 1, none⟩)), Tru]) (Stg [7, 10] (WApp b 61 (netBlk m h) A1 l (x.f) (fun y w => y = x ∧ FrIn w x) w0)) 26 rfl (by decide +kernel) (by decide +kernel) (Stg.start (Up.drew w0)) ?_ ?_
  · refine ⟨?_, ?_, ?_, ?_, ?_, ?_, ?_, ?_, ?_, ?_, ?_, trivial⟩
    · refine opS_same rfl rfl fun L ac w1 hJ hl hc ho hd => ?_
      have s0 : ac.eval (.tmp 0) = .pointer (some ⟨b, 0, none⟩) := ho 0 rfl
      exact ⟨_, x_move (.tmp 0) rfl s0, rfl⟩
    · refine opS_same rfl rfl fun L ac w1 hJ hl hc ho hd => ?_
      have s0 : ac.eval (.tmp 0) = .pointer (some ⟨b, 0, none⟩) := ho 0 rfl
      exact ⟨_, x_move (.tmp 0) rfl s0, rfl⟩
    · refine opS_same rfl rfl fun L ac w1 hJ hl hc ho hd => ?_
      have d1 : ac.eval (.tmp 16) = .pointer (some ⟨b, 0, none⟩) := hd 1 _ _ rfl rfl rfl
      exact ⟨_, x_nil (.tmp 16) rfl d1, rfl⟩
    · refine opS_same rfl rfl fun L ac w1 hJ hl hc ho hd => ?_
      have d2 : ac.eval (.tmp 17) = .pointer (some ⟨b, 0, none⟩) := hd 2 _ _ rfl rfl rfl
      exact ⟨_, x_field 61 (.tmp 17) 1 rfl d2 (fld611 _ _ _), rfl⟩
    · refine opS_same rfl rfl fun L ac w1 hJ hl hc ho hd => ?_
      have d3 : ac.eval (.tmp 18) = .pointer (some ⟨b, 1, none⟩) := hd 3 _ _ rfl rfl rfl
      have hW : Up w0 w1 := hJ.first (reach_not hc (n := 40) (k := 7) (by kernel_rfl) hl)
      exact ⟨_, x_load 29 (.tmp 18) rfl d3 (run_load1 agg29 (cell_up HCB.out hW)), rfl⟩
    · refine opS_same rfl rfl fun L ac w1 hJ hl hc ho hd => ?_
      have s5 : ac.eval (.tmp 5) = .pointer (some ⟨xb, 0, none⟩) := ho 5 rfl
      have hW : Up w0 w1 := hJ.first (reach_not hc (n := 40) (k := 7) (by kernel_rfl) hl)
      exact ⟨_, x_load 46 (.tmp 5) rfl s5 (run_load46 (fun j v hv => cell_up (HXC.out j v hv) hW)), rfl⟩
    · refine opS_grow rfl rfl (fun k w w' => wApp_up HG.out) (facts_keep HK) fun L ac w1 hJ hl hc ho hd => ?_
      have d5 : ac.eval (.tmp 20) = frV x.f (.slice x.A x.f.bytes.length x.c) := hd 5 _ _ rfl rfl rfl
      have hW : Up w0 w1 := hJ.first (reach_not hc (n := 40) (k := 7) (by kernel_rfl) hl)
      have ey2 := d5
      have hy : x.f = x.f := rfl
      have hg : (fun y w => y = x ∧ FrIn w x) x w1 := HG0.out w1 hW
      refine fine_run (.slice (some ⟨w1.heap.size, 0, none⟩) 1 1) (w1.alloc (.cells (frc x).toArray 46)) (x_bslice 29 1 _ rfl (by simp only [List.map_toArray, List.map_cons, List.map_nil, ey2]; exact bslice_run x w1)) (up_alloc _ _) ⟨w1.heap.size, x, hy, HG.out.keep _ _ _ hg ((up_alloc w1 _).out _), rfl, hW.size, new_at _ _⟩
    · refine opS_writeV (j := 0) rfl (by decide) rfl (fun _ _ h => absurd h (by omega)) fun ac w1 hW ho hd => ?_
      have d4 : ac.eval (.tmp 19) = .slice A1 l.length c := hd 4 _ _ rfl rfl rfl
      have d6 := hd 6 _ _ rfl rfl rfl
      obtain ⟨u, w2, hr, ho2, hu⟩ := app_run 29 HL.out HROW.out HG.out (show Up w0 w1 from hW) d6
      refine ⟨u, w2, x_append (.tmp 19) (.tmp 21) 29 29 rfl d4 rfl hr, (show Out _ w0 w1 from (show Up w0 w1 from hW).out _).trans ho2 (Sub.refl _ _), hu, fun j x hj hx => facts_ne HNE j x w1 w2 hj hx ho2⟩
    · refine opS_same rfl rfl fun L ac w1 hJ hl hc ho hd => ?_
      have d0 : ac.eval (.tmp 15) = .pointer (some ⟨b, 0, none⟩) := hd 0 _ _ rfl rfl rfl
      exact ⟨_, x_nil (.tmp 15) rfl d0, rfl⟩
    · refine opS_same rfl rfl fun L ac w1 hJ hl hc ho hd => ?_
      have d8 : ac.eval (.tmp 23) = .pointer (some ⟨b, 0, none⟩) := hd 8 _ _ rfl rfl rfl
      exact ⟨_, x_field 61 (.tmp 23) 1 rfl d8 (fld611 _ _ _), rfl⟩
    · refine opS_write (j := 1) rfl rfl (by decide) rfl (fun y hy _ => by cases hy; rfl) fun ac w1 hW ho hd => ?_
      have d9 : ac.eval (.tmp 24) = .pointer (some ⟨b, 1, none⟩) := hd 9 _ _ rfl rfl rfl
      have d7 := hd 7 _ _ rfl rfl rfl
      obtain ⟨w2, hr, hw2, ho2⟩ := store_run (cs := (netBlk m h)) (A := A1) (n := l.length) (c := c) HBK.out (fun _ _ _ => HSET.out _ _ _) (by simp [netBlk]) HBA.out HG.out (show Out _ w0 w1 from hW) d7
      exact ⟨w2, x_store 29 (.tmp 24) (.tmp 22) rfl d9 rfl hr, hw2, fun _ => trivial, fun j x hx => facts_kp HKB j x w1 w2 hx ho2⟩
  · intro L a1 w9 hI hall
    obtain ⟨q, hq, hW⟩ := hI.done hall (by simp)
    obtain ⟨q, rfl⟩ : ∃ r, q = r + 2 := ⟨q - 2, by simp at hq; omega⟩
    have Z := Lib.hid (show WApp b 61 (netBlk m h) A1 l (x.f) (fun y w => y = x ∧ FrIn w x) w0 2 w9 from hW)
    clear hq hW q HKB HK HNE
    have l0 : a1.tmps.getD 0 undef = .pointer (some ⟨b, 0, none⟩) := hI.old 0 rfl
    have l6 : a1.tmps.getD 6 undef = .int .i64 0 := hI.old 6 rfl
    have hde : a1.defers = [] := hI.defers
    have hal := act_lit a1 26 hI.size
    clear hI
    simp only [List.range, List.range.loop, List.map_cons, List.map_nil] at hal
    rw [l0, l6, hde] at hal
    generalize a1.tmps.getD 1 undef = t1 at hal
    generalize a1.tmps.getD 2 undef = t2 at hal
    generalize a1.tmps.getD 3 undef = t3 at hal
    generalize a1.tmps.getD 4 undef = t4 at hal
    generalize a1.tmps.getD 5 undef = t5 at hal
    generalize a1.tmps.getD 7 undef = t7 at hal
    generalize a1.tmps.getD 8 undef = t8 at hal
    generalize a1.tmps.getD 9 undef = t9 at hal
    generalize a1.tmps.getD 10 undef = t10 at hal
    generalize a1.tmps.getD 11 undef = t11 at hal
    generalize a1.tmps.getD 12 undef = t12 at hal
    generalize a1.tmps.getD 13 undef = t13 at hal
    generalize a1.tmps.getD 14 undef = t14 at hal
    generalize a1.tmps.getD 15 undef = t15 at hal
    generalize a1.tmps.getD 16 undef = t16 at hal
    generalize a1.tmps.getD 17 undef = t17 at hal
    generalize a1.tmps.getD 18 undef = t18 at hal
    generalize a1.tmps.getD 19 undef = t19 at hal
    generalize a1.tmps.getD 20 undef = t20 at hal
    generalize a1.tmps.getD 21 undef = t21 at hal
    generalize a1.tmps.getD 22 undef = t22 at hal
    generalize a1.tmps.getD 23 undef = t23 at hal
    generalize a1.tmps.getD 24 undef = t24 at hal
    generalize a1.tmps.getD 25 undef = t25 at hal
    clear l0 l6 hde
    subst hal
    go_wp2_with fail
    go_ret
    exact ⟨rfl, w0, A1, c, HP0.out, Z.out⟩
set_option maxRecDepth 100000 in
set_option maxHeartbeats 2000000 in
theorem last_r (b : Nat) (k : Int) (h : Int) (dn : Int → Int → Int → Bool) (l : List FrB) (x : FrB) (A0 : Option Addr) (S1 : Nat → Prop) (w : World) (hl : l.length < 1024)
    (hT : Calls Try.prog 22 #[.pointer (some ⟨b, 0, none⟩), .int .i64 k] w fun e w1 => ∃ A1 c, e = .returned (.tuple #[frV x.f (.slice x.A x.f.bytes.length x.c), .int .i64 0]) ∧ TkPost b 34 (refHd dn h) l x A0 S1 w A1 c w1) :
    Calls Try.prog 25 #[.pointer (some ⟨b, 0, none⟩), .int .i64 k] w (LastPost b 34 (refHd dn h) l x A0 S1 w) := by
  have HT := Lib.hid hT
  clear hT
  have HL0 := Lib.hid hl
  clear hl
  go_enter Try.func25, Try.ntmps25
  go_wp2_with fail
  refine HT.out.mono ?_
  rintro e w1 ⟨A1, c, rfl, hp⟩
  have HP := Lib.hid hp
  clear hp HT
  generalize hbs : x.f.bytes.length = bl
  have HBL := Lib.hid hbs
  clear hbs
  unfold frV
  go_upto_region 3 with (fail)
  have hbs := HBL.out
  subst hbs
  have hxn := new_at w1 (.cells #[.int .i64 x.f.fh, .int .i64 x.f.fp, .int .i64 x.f.th, .int .i64 x.f.tp, .slice x.A x.f.bytes.length x.c, .bool x.f.tn] 46)
  have HP0 := Lib.hid (HP.out.up (up_alloc w1 (.cells #[.int .i64 x.f.fh, .int .i64 x.f.fp, .int .i64 x.f.th, .int .i64 x.f.tp, .slice x.A x.f.bytes.length x.c, .bool x.f.tn] 46)))
  generalize (w1.alloc (.cells #[.int .i64 x.f.fh, .int .i64 x.f.fp, .int .i64 x.f.th, .int .i64 x.f.tp, .slice x.A x.f.bytes.length x.c, .bool x.f.tn] 46)) = w0 at hxn HP0 ⊢
  generalize w1.heap.size = xb at hxn ⊢
  clear HP
  obtain ⟨hbk, hrow, hgb, hxA, hin, hout, hqa⟩ := HP0.out
  have hl := HL0.out
  have hcb : w0.cell? ⟨b, 1, none⟩ = some (.slice A1 l.length c) := cell_of hbk (refBlk_1 _ _ _ _ _)
  have HCB := Lib.hid hcb
  have HBS := Lib.hid (lt_of_blk hbk)
  have HAB := Lib.hid (show ∀ q, blk? A1 = some q → q < w0.heap.size from fun q hq => (World.ownsRow.lt hrow q (by rw [ownBlock_slice]; exact hq)).2)
  have HBA := Lib.hid (show ∀ q, blk? A1 = some q → q ≠ b from fun q hq => (hgb q hq).1)
  have HBK := Lib.hid hbk
  have HROW := Lib.hid hrow
  have HL := Lib.hid hl
  have HSET := Lib.hid (show ∀ A' n' c', ((refHd dn h) A1 l.length c).setIfInBounds 1 (.slice A' n' c') = (refHd dn h) A' n' c' from fun _ _ _ => refHd_way _ _ _ _ _ _ _ _)
  have HG := Lib.hid (gok_last (b := b) hgb hxA)
  have HXC := Lib.hid (show ∀ (j : Nat) (v : Value), (frc x)[j]? = some v → w0.cell? ⟨xb, 0 + j, none⟩ = some v from fun j v hv => by rw [Nat.zero_add]; exact cell_of hxn (by simpa [frc] using hv))
  have HG0 := Lib.hid (show ∀ w1, Up w0 w1 → (fun y w => y = x ∧ FrIn w x) x w1 from fun w1 hu => ⟨rfl, frIn_up hin hu⟩)
  clear hbk hrow hgb hxA hin hout hqa hl hxn hcb
  have HKB : ∀ φ ∈ ([Is (.pointer (some ⟨b, 0, none⟩)), Is (.pointer (some ⟨b, 0, none⟩)), Is (.pointer (some ⟨b, 0, none⟩)), Is (.pointer (some ⟨b, 1, none⟩)), Is (.slice A1 l.length c), Is (frV x.f (.slice x.A x.f.bytes.length x.c)), PhS w0.heap.size (x.f) (fun y w => y = x ∧ FrIn w x), PhR w0.heap.size A1 l (x.f) (fun y w => y = x ∧ FrIn w x), Is (.pointer (some ⟨b, 0, none⟩)), Is (.pointer (some ⟨b, 1, none⟩)), Tru] : List (Value → World → Prop)), KpT (fun k => k = b) φ := by
    have i1 : ∀ x, KpT (fun k => k = b) (Is x) := fun x => kpT_is _ x
    have iPhS := KpT.mono (T' := fun k => k = b) (kpT_PhS (f := x.f) HG.out HBS.out HAB.out) (fun k hk => Or.inl hk)
    have iR := kpb_PhR (l := l) (f := x.f) HG.out HBS.out HBA.out
    simp only [List.forall_mem_cons]
    exact ⟨i1 _, i1 _, i1 _, i1 _, i1 _, i1 _, iPhS, iR, i1 _, i1 _, kpT_tru _, fun _ h => by cases h⟩
  have HK : ∀ φ ∈ ([Is (.pointer (some ⟨b, 0, none⟩)), Is (.pointer (some ⟨b, 0, none⟩)), Is (.pointer (some ⟨b, 0, none⟩)), Is (.pointer (some ⟨b, 1, none⟩)), Is (.slice A1 l.length c), Is (frV x.f (.slice x.A x.f.bytes.length x.c)), PhS w0.heap.size (x.f) (fun y w => y = x ∧ FrIn w x), PhR w0.heap.size A1 l (x.f) (fun y w => y = x ∧ FrIn w x), Is (.pointer (some ⟨b, 0, none⟩)), Is (.pointer (some ⟨b, 1, none⟩)), Tru] : List (Value → World → Prop)), Keeps φ := fun φ h => (HKB φ h).keeps
  have HNE : ∀ j φ, ([Is (.pointer (some ⟨b, 0, none⟩)), Is (.pointer (some ⟨b, 0, none⟩)), Is (.pointer (some ⟨b, 0, none⟩)), Is (.pointer (some ⟨b, 1, none⟩)), Is (.slice A1 l.length c), Is (frV x.f (.slice x.A x.f.bytes.length x.c)), PhS w0.heap.size (x.f) (fun y w => y = x ∧ FrIn w x), PhR w0.heap.size A1 l (x.f) (fun y w => y = x ∧ FrIn w x), Is (.pointer (some ⟨b, 0, none⟩)), Is (.pointer (some ⟨b, 1, none⟩)), Tru] : List (Value → World → Prop))[j]? = some φ → j ≠ 7 → KpT (fun k => blk? A1 = some k) φ := by
    have i1 : ∀ x, KpT (fun k => blk? A1 = some k) (Is x) := fun x => kpT_is _ x
    have iPhS := KpT.mono (T' := fun k => blk? A1 = some k) (kpT_PhS (f := x.f) HG.out HBS.out HAB.out) (fun k hk => Or.inr hk)
    intro j φ hj hne
    match j, hj, hne with
    | 0, hj, hne => cases hj; exact i1 _
    | 1, hj, hne => cases hj; exact i1 _
    | 2, hj, hne => cases hj; exact i1 _
    | 3, hj, hne => cases hj; exact i1 _
    | 4, hj, hne => cases hj; exact i1 _
    | 5, hj, hne => cases hj; exact i1 _
    | 6, hj, hne => cases hj; exact iPhS
    | 7, hj, hne => exact absurd rfl hne
    | 8, hj, hne => cases hj; exact i1 _
    | 9, hj, hne => cases hj; exact i1 _
    | 10, hj, hne => cases hj; exact kpT_tru _
  refine staged_lit (by kernel_rfl) (facts [Is (.pointer (some ⟨b, 0, none⟩)), Is (.pointer (some ⟨b, 0, none⟩)), Is (.pointer (some ⟨b, 0, none⟩)), Is (.pointer (some ⟨b, 1, none⟩)), Is (.slice A1 l.length c), Is (frV x.f (.slice x.A x.f.bytes.length x.c)), PhS w0.heap.size (x.f) (fun y w => y = x ∧ FrIn w x), PhR w0.heap.size A1 l (x.f) (fun y w => y = x ∧ FrIn w x), Is (.pointer (some ⟨b, 0, none⟩)), Is (.pointer (some ⟨b, 1, none⟩)), Tru]) (Stg [7, 10] (WApp b 34 (refHd dn h) A1 l (x.f) (fun y w => y = x ∧ FrIn w x) w0)) 26 rfl (by decide +kernel) (by decide +kernel) (Stg.start (Up.drew w0)) ?_ ?_
  · refine ⟨?_, ?_, ?_, ?_, ?_, ?_, ?_, ?_, ?_, ?_, ?_, trivial⟩
    · refine opS_same rfl rfl fun L ac w1 hJ hl hc ho hd => ?_
      have s0 : ac.eval (.tmp 0) = .pointer (some ⟨b, 0, none⟩) := ho 0 rfl
      exact ⟨_, x_move (.tmp 0) rfl s0, rfl⟩
    · refine opS_same rfl rfl fun L ac w1 hJ hl hc ho hd => ?_
      have s0 : ac.eval (.tmp 0) = .pointer (some ⟨b, 0, none⟩) := ho 0 rfl
      exact ⟨_, x_move (.tmp 0) rfl s0, rfl⟩
    · refine opS_same rfl rfl fun L ac w1 hJ hl hc ho hd => ?_
      have d1 : ac.eval (.tmp 16) = .pointer (some ⟨b, 0, none⟩) := hd 1 _ _ rfl rfl rfl
      exact ⟨_, x_nil (.tmp 16) rfl d1, rfl⟩
    · refine opS_same rfl rfl fun L ac w1 hJ hl hc ho hd => ?_
      have d2 : ac.eval (.tmp 17) = .pointer (some ⟨b, 0, none⟩) := hd 2 _ _ rfl rfl rfl
      exact ⟨_, x_field 34 (.tmp 17) 1 rfl d2 (fld341 _ _ _), rfl⟩
    · refine opS_same rfl rfl fun L ac w1 hJ hl hc ho hd => ?_
      have d3 : ac.eval (.tmp 18) = .pointer (some ⟨b, 1, none⟩) := hd 3 _ _ rfl rfl rfl
      have hW : Up w0 w1 := hJ.first (reach_not hc (n := 40) (k := 7) (by kernel_rfl) hl)
      exact ⟨_, x_load 29 (.tmp 18) rfl d3 (run_load1 agg29 (cell_up HCB.out hW)), rfl⟩
    · refine opS_same rfl rfl fun L ac w1 hJ hl hc ho hd => ?_
      have s5 : ac.eval (.tmp 5) = .pointer (some ⟨xb, 0, none⟩) := ho 5 rfl
      have hW : Up w0 w1 := hJ.first (reach_not hc (n := 40) (k := 7) (by kernel_rfl) hl)
      exact ⟨_, x_load 46 (.tmp 5) rfl s5 (run_load46 (fun j v hv => cell_up (HXC.out j v hv) hW)), rfl⟩
    · refine opS_grow rfl rfl (fun k w w' => wApp_up HG.out) (facts_keep HK) fun L ac w1 hJ hl hc ho hd => ?_
      have d5 : ac.eval (.tmp 20) = frV x.f (.slice x.A x.f.bytes.length x.c) := hd 5 _ _ rfl rfl rfl
      have hW : Up w0 w1 := hJ.first (reach_not hc (n := 40) (k := 7) (by kernel_rfl) hl)
      have ey2 := d5
      have hy : x.f = x.f := rfl
      have hg : (fun y w => y = x ∧ FrIn w x) x w1 := HG0.out w1 hW
      refine fine_run (.slice (some ⟨w1.heap.size, 0, none⟩) 1 1) (w1.alloc (.cells (frc x).toArray 46)) (x_bslice 29 1 _ rfl (by simp only [List.map_toArray, List.map_cons, List.map_nil, ey2]; exact bslice_run x w1)) (up_alloc _ _) ⟨w1.heap.size, x, hy, HG.out.keep _ _ _ hg ((up_alloc w1 _).out _), rfl, hW.size, new_at _ _⟩
    · refine opS_writeV (j := 0) rfl (by decide) rfl (fun _ _ h => absurd h (by omega)) fun ac w1 hW ho hd => ?_
      have d4 : ac.eval (.tmp 19) = .slice A1 l.length c := hd 4 _ _ rfl rfl rfl
      have d6 := hd 6 _ _ rfl rfl rfl
      obtain ⟨u, w2, hr, ho2, hu⟩ := app_run 29 HL.out HROW.out HG.out (show Up w0 w1 from hW) d6
      refine ⟨u, w2, x_append (.tmp 19) (.tmp 21) 29 29 rfl d4 rfl hr, (show Out _ w0 w1 from (show Up w0 w1 from hW).out _).trans ho2 (Sub.refl _ _), hu, fun j x hj hx => facts_ne HNE j x w1 w2 hj hx ho2⟩
    · refine opS_same rfl rfl fun L ac w1 hJ hl hc ho hd => ?_
      have d0 : ac.eval (.tmp 15) = .pointer (some ⟨b, 0, none⟩) := hd 0 _ _ rfl rfl rfl
      exact ⟨_, x_nil (.tmp 15) rfl d0, rfl⟩
    · refine opS_same rfl rfl fun L ac w1 hJ hl hc ho hd => ?_
      have d8 : ac.eval (.tmp 23) = .pointer (some ⟨b, 0, none⟩) := hd 8 _ _ rfl rfl rfl
      exact ⟨_, x_field 34 (.tmp 23) 1 rfl d8 (fld341 _ _ _), rfl⟩
    · refine opS_write (j := 1) rfl rfl (by decide) rfl (fun y hy _ => by cases hy; rfl) fun ac w1 hW ho hd => ?_
      have d9 : ac.eval (.tmp 24) = .pointer (some ⟨b, 1, none⟩) := hd 9 _ _ rfl rfl rfl
      have d7 := hd 7 _ _ rfl rfl rfl
      obtain ⟨w2, hr, hw2, ho2⟩ := store_run (cs := (refHd dn h)) (A := A1) (n := l.length) (c := c) HBK.out (fun _ _ _ => HSET.out _ _ _) (by unfold refHd; rw [refBlk_size]; omega) HBA.out HG.out (show Out _ w0 w1 from hW) d7
      exact ⟨w2, x_store 29 (.tmp 24) (.tmp 22) rfl d9 rfl hr, hw2, fun _ => trivial, fun j x hx => facts_kp HKB j x w1 w2 hx ho2⟩
  · intro L a1 w9 hI hall
    obtain ⟨q, hq, hW⟩ := hI.done hall (by simp)
    obtain ⟨q, rfl⟩ : ∃ r, q = r + 2 := ⟨q - 2, by simp at hq; omega⟩
    have Z := Lib.hid (show WApp b 34 (refHd dn h) A1 l (x.f) (fun y w => y = x ∧ FrIn w x) w0 2 w9 from hW)
    clear hq hW q HKB HK HNE
    have l0 : a1.tmps.getD 0 undef = .pointer (some ⟨b, 0, none⟩) := hI.old 0 rfl
    have l6 : a1.tmps.getD 6 undef = .int .i64 0 := hI.old 6 rfl
    have hde : a1.defers = [] := hI.defers
    have hal := act_lit a1 26 hI.size
    clear hI
    simp only [List.range, List.range.loop, List.map_cons, List.map_nil] at hal
    rw [l0, l6, hde] at hal
    generalize a1.tmps.getD 1 undef = t1 at hal
    generalize a1.tmps.getD 2 undef = t2 at hal
    generalize a1.tmps.getD 3 undef = t3 at hal
    generalize a1.tmps.getD 4 undef = t4 at hal
    generalize a1.tmps.getD 5 undef = t5 at hal
    generalize a1.tmps.getD 7 undef = t7 at hal
    generalize a1.tmps.getD 8 undef = t8 at hal
    generalize a1.tmps.getD 9 undef = t9 at hal
    generalize a1.tmps.getD 10 undef = t10 at hal
    generalize a1.tmps.getD 11 undef = t11 at hal
    generalize a1.tmps.getD 12 undef = t12 at hal
    generalize a1.tmps.getD 13 undef = t13 at hal
    generalize a1.tmps.getD 14 undef = t14 at hal
    generalize a1.tmps.getD 15 undef = t15 at hal
    generalize a1.tmps.getD 16 undef = t16 at hal
    generalize a1.tmps.getD 17 undef = t17 at hal
    generalize a1.tmps.getD 18 undef = t18 at hal
    generalize a1.tmps.getD 19 undef = t19 at hal
    generalize a1.tmps.getD 20 undef = t20 at hal
    generalize a1.tmps.getD 21 undef = t21 at hal
    generalize a1.tmps.getD 22 undef = t22 at hal
    generalize a1.tmps.getD 23 undef = t23 at hal
    generalize a1.tmps.getD 24 undef = t24 at hal
    generalize a1.tmps.getD 25 undef = t25 at hal
    clear l0 l6 hde
    subst hal
    go_wp2_with fail
    go_ret
    exact ⟨rfl, w0, A1, c, HP0.out, Z.out⟩
end Go.Proofs.Ytfbjhialjepodaa
