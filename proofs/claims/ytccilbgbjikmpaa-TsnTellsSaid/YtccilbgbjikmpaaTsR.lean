import Derived.Test.YtccilbgbjikmpaaTsT
import Derived.Carry
import Derived.StillTailTactics
namespace Go.Proofs.Ytccilbgbjikmpaa
open Go Go.RowKit
set_option linter.unusedVariables false
set_option linter.unusedSimpArgs false
/-! A number that came anew. -/
def entN (w : World) (m : Nat) : Nat := match w.heap[m]? with
  | some (.map es _) => es.size
  | _ => 0
theorem entN_of {w : World} {m : Nat} {A : List Nat} (h : MapO w (some m) A) : entN w m = A.length := by
  obtain ⟨E, ⟨clk, h1, _⟩, h2⟩ := h
  unfold entN
  rw [h1]
  have := congrArg List.length h2
  simpa [ensU] using this
theorem key_mod (x : Nat) : key x = ((x % 4294967296 : Nat) : Int) := rfl
theorem key_inj {C x y : Nat} (hx : C < x ∧ x ≤ C + 512) (hy : C < y ∧ y ≤ C + 512) (h : key x = key y) : x = y := by unfold key at h; omega
theorem key_succ (C : Nat) : IntKind.u32.wrap (key C + 1) = key (C + 1) := by rw [IntKind.wrap_u32']; unfold key; omega
theorem mem_key {C x : Nat} {A : List Nat} (hA : ∀ y ∈ A, C < y ∧ y ≤ C + 512) (hx : C < x ∧ x ≤ C + 512) : key x ∈ A.map key ↔ x ∈ A := by
  rw [List.mem_map]
  constructor
  · rintro ⟨y, hy, h⟩
    rw [← key_inj (hA y hy) hx h]; exact hy
  · exact fun h => ⟨x, h, rfl⟩
theorem filter_key {C x : Nat} {A : List Nat} (hA : ∀ y ∈ A, C < y ∧ y ≤ C + 512) (hx : C < x ∧ x ≤ C + 512) : (A.map key).filter (fun k => k != key x) = (A.filter fun y => y != x).map key := by
  induction A with
  | nil => rfl
  | cons y A ih =>
    have h1 := ih fun z hz => hA z (List.mem_cons_of_mem _ hz)
    by_cases e : y = x
    · subst e; simp [h1]
    · have h2 : (key y != key x) = true := by
        rw [bne_iff_ne]; exact fun h => e (key_inj (hA y (by simp)) hx h)
      have h3 : (y != x) = true := by rw [bne_iff_ne]; exact e
      rw [List.map_cons, List.filter_cons, List.filter_cons, if_pos h2, if_pos h3, List.map_cons, h1]
/-- Beyond a write into the set. -/
theorem TAt.inMap {w : World} {pb m : Nat} {D : Option Addr} {c C : Nat} {A B : List Nat} {d : List Int} (h : TAt w pb (some m) D c C A d) (o : Obj) {E : List EnU} (hm : MapU (setBk w m o) m E) (he : E.map (·.1) = B.map key) :
    TAt (setBk w m o) pb (some m) D c C B d ∧ Out (fun k => k = m) w (setBk w m o) := by
  have hs := setBk_out w m o
  refine ⟨⟨hs.blk h.top h.not_map.1, ⟨E, hm, he⟩, own_blk h.row fun g hg => ?_, h.bd, h.ok⟩, hs⟩
  rw [ownBlock_slice] at hg
  exact hs.block g (row_lt h.row hg).2 (fun e => h.not_map.2 (by rw [← e]; exact hg))
theorem TAt.add {w : World} {pb m : Nat} {D : Option Addr} {c C : Nat} {A : List Nat} {d : List Int} (h : TAt w pb (some m) D c C A d) (x : Nat) (hx : key x ∉ A.map key) :
    ∃ W, (Instr.mapUpdate 48 (.map (some m)) (.int .u32 (key x)) (.agg #[])).run Try.prog w = .ok () W ∧ TAt W pb (some m) D c C (A ++ [x]) d ∧ Out (fun k => k = m) w W := by
  obtain ⟨E, h1, h2⟩ := h.map
  obtain ⟨o, b, h3, h4⟩ := run_updU (P := Try.prog) Try.underlying48 Try.underlying22 h1 (key x) (by rw [h2]; exact hx)
  obtain ⟨h5, h6⟩ := h.inMap o h4 (B := A ++ [x]) (by simp [h2])
  exact ⟨_, h3, h5, h6⟩
theorem TAt.cut {w : World} {pb m : Nat} {D : Option Addr} {c C : Nat} {A : List Nat} {d : List Int} (h : TAt w pb (some m) D c C A d) {C0 x : Nat} (hA : ∀ y ∈ A, C0 < y ∧ y ≤ C0 + 512) (hx : x ∈ A) (ty : TypeId) :
    ∃ W, (Builtin.delete_ #[48, 22] ty #[.map (some m), .int .u32 (key x)]).run Try.prog w = .ok (.tuple #[]) W ∧ TAt W pb (some m) D c C (A.filter fun y => y != x) d ∧ Out (fun k => k = m) w W := by
  obtain ⟨E, h1, h2⟩ := h.map
  obtain ⟨o, h3, h4⟩ := run_delU (P := Try.prog) Try.underlying48 Try.underlying22 ty h1 (key x) (by rw [h2]; exact List.mem_map.2 ⟨x, hx, rfl⟩)
  have e : (E.filter fun y => y.1 != key x).map (·.1) = (A.filter fun y => y != x).map key := by
    rw [← filter_key hA (hA x hx), ← h2, List.filter_map]; rfl
  obtain ⟨h5, h6⟩ := h.inMap o h4 e
  exact ⟨_, h3, h5, h6⟩
theorem TAt.drew {w : World} {pb : Nat} {mo : Option Nat} {D : Option Addr} {c C : Nat} {A : List Nat} {d : List Int} (h : TAt w pb mo D c C A d) (n : Nat) : TAt (w.drewN n) pb mo D c C A d := h.up (up_drewN w n)
theorem mapNil (W : World) : (binOp .eql 48 (.map none) (.map none)).run Try.prog W = .ok (.bool true) W := by kernel_rfl
theorem mapNot (m : Nat) (W : World) : (binOp .eql 48 (.map (some m)) (.map none)).run Try.prog W = .ok (.bool false) W := by kernel_rfl
/-- Where the loop of record stands. -/
def RecAt (w : World) (pb m : Nat) (D : Option Addr) (c C : Nat) (B : List Nat) (d : List Int) (S : Nat → Prop) (wr : World) : Prop :=
  ∃ C1 A1, TAt wr pb (some m) D c C1 A1 d ∧ Ts.Run C B C1 A1 ∧ Out S w wr
/-- What record leaves. -/
def RecPost (w : World) (pb : Nat) (D : Option Addr) (c C : Nat) (B : List Nat) (d : List Int) (S : Nat → Prop) (e : Ending) (w' : World) : Prop :=
  ∃ m C1 A1, e = .returned (.tuple #[]) ∧ TAt w' pb (some m) D c C1 A1 d ∧ Ts.Run C B C1 A1 ∧ C1 + 1 ∉ A1 ∧ Out S w w' ∧ Sub (TS pb (some m) D) S w
set_option maxRecDepth 100000 in
set_option maxHeartbeats 2000000 in
theorem record_yes (pb : Nat) (m : Nat) (D : Option Addr) (c C : Nat) (A : List Nat) (d : List Int) (X : Nat) (w : World) (h : TAt w pb (some m) D c C A d) (hA : ∀ y ∈ A ++ [X], C < y ∧ y ≤ C + 512) (hnd : (A ++ [X]).Nodup) :
    Calls Try.prog 17 #[.pointer (some ⟨pb, 0, none⟩), .int .u32 (key X)] w (RecPost w pb D c C (A ++ [X]) d (TS pb (some m) D)) := by
  have HB := Lib.hid hA
  have HND := Lib.hid hnd
  have HT := Lib.hid h
  obtain ⟨SS, hSS⟩ : ∃ SS, SS = TS pb (some m) D := ⟨_, rfl⟩
  have HSS := Lib.hid hSS
  have c1 := h.cells.2.1
  have hne := mapNot m
  have hx : key X ∉ A.map key := fun e => by
    have h1 := (mem_key (C := C) (fun y hy => hA y (by simp [hy])) (hA X (by simp))).1 e
    exact (List.nodup_append.1 hnd).2.2 X h1 X (by simp) rfl
  obtain ⟨W, hW, hT2, hO2⟩ := h.add X hx
  have HT2 := Lib.hid hT2
  have HO2 := Lib.hid (show Out SS w W by rw [hSS]; exact hO2.mono (fun k hk => .inr (.inl (by rw [hk]))))
  rw [← hSS]
  clear h hA hnd hx hT2 hO2 hSS
  generalize hkx : key X = kx at hW ⊢
  clear hkx
  go_enter Try.func17, Try.ntmps17
  go_wp2_with fail
  clear hW hne c1
  go_loopw [25] (fun s wr => Hid (RecAt w pb m D c C (A ++ [X]) d SS wr)) (fun _ wr => entN wr m)
  case atStart => exact Lib.hid ⟨C, A ++ [X], HT2.out, Ts.Run.start HND.out (fun y hy => (HB.out y hy).1), HO2.out⟩
  case round =>
    have hrec := hrel
    clear hrel
    obtain ⟨C1, A1, hT, hR, hO⟩ := hrec.out
    have hA1 : ∀ y ∈ A1, C1 < y ∧ y ≤ C1 + 512 := fun y hy => by
      have h1 := (hR.mem y).1 hy
      have h2 := HB.out y h1.1
      have h3 := hR.le
      omega
    have hks := key_succ C1
    have hkb := key_bd C1
    have c0 := hT.cells.1
    have f0 := hT.cells.2.2.2 0
    have hcall := has_any pb (some m) D c C1 A1 d (key (C1 + 1)) wr hT
    have hen := entN_of hT.map
    by_cases hin : C1 + 1 ∈ A1
    · rw [decide_eq_true ((mem_key hA1 (by omega)).2 hin)] at hcall
      have HA1 := Lib.hid hA1
      have HIN := Lib.hid hin
      have HTR := Lib.hid hT
      have HRR := Lib.hid hR
      have HOR := Lib.hid hO
      have HEN := Lib.hid hen
      have HCA := Lib.hid hcall
      have HKS := Lib.hid hks
      clear hA1 hin hT hR hO hen hcall hrec hks
      generalize hk1 : key (C1 + 1) = k1 at HCA HKS
      have HK1 := Lib.hid hk1
      generalize hk0 : key C1 = k0 at HKS hkb c0
      have HK0 := Lib.hid hk0
      clear hk1 hk0
      obtain ⟨hk00, hk01⟩ := hkb
      go_upto_region 3 with (fail)
      have hks := HKS.out
      go_wp2_with fail
      clear hks
      refine HCA.out.mono ?_
      rintro e w1 ⟨rfl, hu1⟩
      have HT1 := Lib.hid (HTR.out.up hu1.out)
      have d0 := cell_up c0 hu1.out
      have e0 := HT1.out.cells.2.2.2 0
      have hlt := lt_of_blk HTR.out.top
      clear c0 f0
      go_upto_region 4 with (fail)
      have hks := HKS.out
      go_upto_region 5 with (fail)
      clear hks
      obtain ⟨p1, p2⟩ := TAt.put (mo' := some m) (D' := D) (c' := c) (C' := C1 + 1) (A' := A1) (d' := d) HT1.out.top 0 (.int .u32 k1) (by rw [← HK1.out]; rfl) HT1.out.map HT1.out.row HT1.out.bd HT1.out.ok (fun q hq e => by injection hq with hq; exact HT1.out.not_map.1 (by rw [hq, e])) HT1.out.not_row
      have HP2 := Lib.hid p2
      obtain ⟨W3, hW3⟩ : ∃ W3, w1.setCell ⟨pb, 0, none⟩ (.int .u32 k1) = W3 := ⟨_, rfl⟩
      rw [hW3] at p1 HP2 ⊢
      clear hW3
      obtain ⟨W4, q1, q2, q3⟩ := (p1.drew 1).cut HA1.out HIN.out 0
      rw [HK1.out] at q1
      have r0 := p1.cells.1
      have r1 := p1.cells.2.1
      rw [HK1.out] at r0
      have HP1 := Lib.hid p1
      have HQ2 := Lib.hid q2
      have HQ3 := Lib.hid q3
      clear p1 q2 q3 p2 e0
      go_still_tail 8, (by kernel_rfl)
      change wpList _ _ _ _ _ (W3.drewN 1)
      go_wp2_with fail
      have hpb : ∀ k, k = pb → SS k := fun k hk => by rw [HSS.out]; exact .inl hk
      have hmm : ∀ k, k = m → SS k := fun k hk => by rw [HSS.out]; exact .inr (.inl (by rw [hk]))
      refine ⟨Lib.hid ⟨C1 + 1, _, HQ2.out, HRR.out.step HIN.out, HOR.out.trans ((hu1.out.out SS).trans ((HP2.out.mono hpb).trans (((up_drewN W3 1).out SS).trans (HQ3.out.mono hmm) (Sub.refl _ _)) (Sub.refl _ _)) (Sub.refl _ _)) (Sub.refl _ _)⟩, ?_⟩
      rw [entN_of HQ2.out.map, HEN.out]
      exact List.length_filter_lt_length_iff_exists.2 ⟨_, HIN.out, by simp⟩
    · rw [decide_eq_false (fun e => hin ((mem_key hA1 (by omega)).1 e))] at hcall
      have HIN := Lib.hid hin
      have HTR := Lib.hid hT
      have HRR := Lib.hid hR
      have HOR := Lib.hid hO
      have HCA := Lib.hid hcall
      have HKS := Lib.hid hks
      clear hA1 hin hT hR hO hen hcall hrec hks
      generalize hk1 : key (C1 + 1) = k1 at HCA HKS
      generalize hk0 : key C1 = k0 at HKS hkb c0
      clear hk1 hk0
      obtain ⟨hk00, hk01⟩ := hkb
      go_upto_region 3 with (fail)
      have hks := HKS.out
      go_wp2_with fail
      clear hks
      refine HCA.out.mono ?_
      rintro e w1 ⟨rfl, hu1⟩
      go_wp2_with fail
      go_end0
      exact ⟨m, C1, A1, rfl, HTR.out.up hu1.out, HRR.out, HIN.out, HOR.out.trans (hu1.out.out SS) (Sub.refl _ _), by rw [HSS.out]; exact Sub.refl _ _⟩
set_option maxRecDepth 100000 in
set_option maxHeartbeats 2000000 in
theorem record_no (pb : Nat) (D : Option Addr) (c C : Nat) (A : List Nat) (d : List Int) (X : Nat) (w0 : World) (h : TAt w0 pb none D c C A d) (hA : ∀ y ∈ A ++ [X], C < y ∧ y ≤ C + 512) (hnd : (A ++ [X]).Nodup) :
    Calls Try.prog 17 #[.pointer (some ⟨pb, 0, none⟩), .int .u32 (key X)] w0 (RecPost w0 pb D c C (A ++ [X]) d (TS pb none D)) := by
  have HB := Lib.hid hA
  have HND := Lib.hid hnd
  obtain ⟨w, hw⟩ : ∃ w, w = (w0.alloc (.map #[] 0)).setCell ⟨pb, 1, none⟩ (.map (some w0.heap.size)) := ⟨_, rfl⟩
  have hwa := up_alloc w0 (.map #[] 0)
  have hAe : A = [] := h.map
  obtain ⟨p1, p2⟩ := TAt.put (mo' := some w0.heap.size) (A' := A) (C' := C) (c' := c) (h.up hwa).top 1 (.map (some w0.heap.size)) rfl ⟨[], mapU_new w0 0, by rw [hAe]; rfl⟩ (h.up hwa).row h.bd h.ok (fun m hm e => by injection hm with hm; have := lt_of_blk h.top; omega) (h.up hwa).not_row
  rw [← hw] at p1 p2
  have HW := Lib.hid hw
  have HZ := Lib.hid (show Out (TS pb none D) w0 w from (hwa.out _).trans (p2.mono fun k hk => .inl hk) (Sub.refl _ _))
  obtain ⟨m, hm⟩ : ∃ m, m = w0.heap.size := ⟨_, rfl⟩
  rw [← hm] at p1
  have HM := Lib.hid hm
  have HT := Lib.hid p1
  obtain ⟨SS, hSS⟩ : ∃ SS, SS = TS pb (some m) D := ⟨_, rfl⟩
  have HSS := Lib.hid hSS
  have c1 := h.cells.2.1
  have c1' := cell_up c1 hwa
  have f1 := (h.up hwa).cells.2.2.2 1
  have hne := mapNil
  have hmm := @run_makeMap Try.prog
  have hx : key X ∉ A.map key := by rw [hAe]; simp
  obtain ⟨W, hW, hT2, hO2⟩ := p1.add X hx
  have HT2 := Lib.hid hT2
  have HO2 := Lib.hid (show Out SS w W by rw [hSS]; exact hO2.mono (fun k hk => .inr (.inl (by rw [hk]))))
  have c2 := p1.cells.2.1
  clear h hA hnd hx hT2 hO2 hSS p1 p2 hm hAe hwa hw
  generalize hkx : key X = kx at hW ⊢
  clear hkx
  go_enter Try.func17, Try.ntmps17
  go_upto_region 2 with (fail)
  rw [← HW.out]
  rw [← HM.out]
  clear c1 c1' f1 hmm hne
  go_wp2_with fail
  clear hW c2
  go_loopw [25] (fun s wr => Hid (RecAt w pb m D c C (A ++ [X]) d SS wr)) (fun _ wr => entN wr m)
  case atStart => exact Lib.hid ⟨C, A ++ [X], HT2.out, Ts.Run.start HND.out (fun y hy => (HB.out y hy).1), HO2.out⟩
  case round =>
    have hrec := hrel
    clear hrel
    obtain ⟨C1, A1, hT, hR, hO⟩ := hrec.out
    have hA1 : ∀ y ∈ A1, C1 < y ∧ y ≤ C1 + 512 := fun y hy => by
      have h1 := (hR.mem y).1 hy
      have h2 := HB.out y h1.1
      have h3 := hR.le
      omega
    have hks := key_succ C1
    have hkb := key_bd C1
    have c0 := hT.cells.1
    have f0 := hT.cells.2.2.2 0
    have hcall := has_any pb (some m) D c C1 A1 d (key (C1 + 1)) wr hT
    have hen := entN_of hT.map
    by_cases hin : C1 + 1 ∈ A1
    · rw [decide_eq_true ((mem_key hA1 (by omega)).2 hin)] at hcall
      have HA1 := Lib.hid hA1
      have HIN := Lib.hid hin
      have HTR := Lib.hid hT
      have HRR := Lib.hid hR
      have HOR := Lib.hid hO
      have HEN := Lib.hid hen
      have HCA := Lib.hid hcall
      have HKS := Lib.hid hks
      clear hA1 hin hT hR hO hen hcall hrec hks
      generalize hk1 : key (C1 + 1) = k1 at HCA HKS
      have HK1 := Lib.hid hk1
      generalize hk0 : key C1 = k0 at HKS hkb c0
      have HK0 := Lib.hid hk0
      clear hk1 hk0
      obtain ⟨hk00, hk01⟩ := hkb
      go_upto_region 3 with (fail)
      have hks := HKS.out
      go_wp2_with fail
      clear hks
      refine HCA.out.mono ?_
      rintro e w1 ⟨rfl, hu1⟩
      have HT1 := Lib.hid (HTR.out.up hu1.out)
      have d0 := cell_up c0 hu1.out
      have e0 := HT1.out.cells.2.2.2 0
      have hlt := lt_of_blk HTR.out.top
      clear c0 f0
      go_upto_region 4 with (fail)
      have hks := HKS.out
      go_upto_region 5 with (fail)
      clear hks
      obtain ⟨p1, p2⟩ := TAt.put (mo' := some m) (D' := D) (c' := c) (C' := C1 + 1) (A' := A1) (d' := d) HT1.out.top 0 (.int .u32 k1) (by rw [← HK1.out]; rfl) HT1.out.map HT1.out.row HT1.out.bd HT1.out.ok (fun q hq e => by injection hq with hq; exact HT1.out.not_map.1 (by rw [hq, e])) HT1.out.not_row
      have HP2 := Lib.hid p2
      obtain ⟨W3, hW3⟩ : ∃ W3, w1.setCell ⟨pb, 0, none⟩ (.int .u32 k1) = W3 := ⟨_, rfl⟩
      rw [hW3] at p1 HP2 ⊢
      clear hW3
      obtain ⟨W4, q1, q2, q3⟩ := (p1.drew 1).cut HA1.out HIN.out 0
      rw [HK1.out] at q1
      have r0 := p1.cells.1
      have r1 := p1.cells.2.1
      rw [HK1.out] at r0
      have HP1 := Lib.hid p1
      have HQ2 := Lib.hid q2
      have HQ3 := Lib.hid q3
      clear p1 q2 q3 p2 e0
      go_still_tail 8, (by kernel_rfl)
      change wpList _ _ _ _ _ (W3.drewN 1)
      go_wp2_with fail
      have hpb : ∀ k, k = pb → SS k := fun k hk => by rw [HSS.out]; exact .inl hk
      have hmm : ∀ k, k = m → SS k := fun k hk => by rw [HSS.out]; exact .inr (.inl (by rw [hk]))
      refine ⟨Lib.hid ⟨C1 + 1, _, HQ2.out, HRR.out.step HIN.out, HOR.out.trans ((hu1.out.out SS).trans ((HP2.out.mono hpb).trans (((up_drewN W3 1).out SS).trans (HQ3.out.mono hmm) (Sub.refl _ _)) (Sub.refl _ _)) (Sub.refl _ _)) (Sub.refl _ _)⟩, ?_⟩
      rw [entN_of HQ2.out.map, HEN.out]
      exact List.length_filter_lt_length_iff_exists.2 ⟨_, HIN.out, by simp⟩
    · rw [decide_eq_false (fun e => hin ((mem_key hA1 (by omega)).1 e))] at hcall
      have HIN := Lib.hid hin
      have HTR := Lib.hid hT
      have HRR := Lib.hid hR
      have HOR := Lib.hid hO
      have HCA := Lib.hid hcall
      have HKS := Lib.hid hks
      clear hA1 hin hT hR hO hen hcall hrec hks
      generalize hk1 : key (C1 + 1) = k1 at HCA HKS
      generalize hk0 : key C1 = k0 at HKS hkb c0
      clear hk1 hk0
      obtain ⟨hk00, hk01⟩ := hkb
      go_upto_region 3 with (fail)
      have hks := HKS.out
      go_wp2_with fail
      clear hks
      refine HCA.out.mono ?_
      rintro e w1 ⟨rfl, hu1⟩
      go_wp2_with fail
      go_end0
      have hsub : Sub SS (TS pb none D) w0 := fun k hk => by
        rw [HSS.out] at hk
        rcases hk with hk | hk | hk
        · exact .inl (.inl hk)
        · injection hk with hk; exact .inr (by rw [← hk, HM.out]; omega)
        · exact .inl (.inr (.inr hk))
      exact ⟨m, C1, A1, rfl, HTR.out.up hu1.out, HRR.out, HIN.out, HZ.out.trans (HOR.out.trans (hu1.out.out SS) (Sub.refl _ _)) hsub, by rw [← HSS.out]; exact hsub⟩
end Go.Proofs.Ytccilbgbjikmpaa
namespace Go.Proofs.Ytccilbgbjikmpaa
open Go Go.RowKit
set_option linter.unusedVariables false
set_option linter.unusedSimpArgs false
/-! Got. -/
/-- The noted ones with one more, as long as there is room. -/
def dupAdd (d : List Int) (x : Int) : List Int := if d.length < 64 then d ++ [x] else d
theorem note_any (pb : Nat) (mo : Option Nat) (D : Option Addr) (c C : Nat) (A : List Nat) (d : List Int) (x : Int) (w : World) (h : TAt w pb mo D c C A d) (hx : 0 ≤ x ∧ x < 4294967296) :
    Calls Try.prog 16 #[.pointer (some ⟨pb, 0, none⟩), .int .u32 x] w (TPost (.tuple #[]) w (TS pb mo D) pb C A (dupAdd d x)) := by
  unfold dupAdd
  by_cases hl : d.length < 64
  · rw [if_pos hl]; exact note_yes pb mo D c C A d x w h hl hx
  · rw [if_neg hl]; exact note_no pb mo D c C A d x w h hl
theorem record_any (pb : Nat) (mo : Option Nat) (D : Option Addr) (c C : Nat) (A : List Nat) (d : List Int) (X : Nat) (w : World) (h : TAt w pb mo D c C A d) (hA : ∀ y ∈ A ++ [X], C < y ∧ y ≤ C + 512) (hnd : (A ++ [X]).Nodup) :
    Calls Try.prog 17 #[.pointer (some ⟨pb, 0, none⟩), .int .u32 (key X)] w (RecPost w pb D c C (A ++ [X]) d (TS pb mo D)) := by
  cases mo with
  | none => exact record_no pb D c C A d X w h hA hnd
  | some m => exact record_yes pb m D c C A d X w h hA hnd
theorem mem_keyF {C Y : Nat} {A : List Nat} (hA : ∀ y ∈ A, C < y ∧ y ≤ C + 512) (hY : C < Y ∧ Y < C + 2147483648) : key Y ∈ A.map key ↔ Y ∈ A := by
  rw [List.mem_map]
  constructor
  · rintro ⟨y, hy, h⟩
    have := hA y hy
    have e : y = Y := by unfold key at h; omega
    rw [← e]; exact hy
  · exact fun h => ⟨Y, h, rfl⟩
/-- How far a number is beyond C. -/
def dist (C : Nat) (x : Int) : Nat := ((x - key C) % 4294967296).toNat
theorem dist_key {C : Nat} {x : Int} (hx : 0 ≤ x ∧ x < 4294967296) : key (C + dist C x) = x ∧ dist C x < 4294967296 ∧ IntKind.u32.wrap (x - key C) = (dist C x : Int) := by
  rw [IntKind.wrap_u32']; unfold dist key; omega
theorem got_nil (x : Int) (w : World) : Calls Try.prog 9 #[.pointer none, .int .u32 x] w fun e w' => e = .returned (.int .i64 1) ∧ w = w' := by
  go_enter Try.func9, Try.ntmps9
  go_wp2_with fail
  go_ret
  exact ⟨rfl, rfl⟩
set_option maxRecDepth 100000 in
set_option maxHeartbeats 1000000 in
theorem got_there0 (pb : Nat) (mo : Option Nat) (D : Option Addr) (c C : Nat) (A : List Nat) (d : List Int) (x : Int) (w : World) (h : TAt w pb mo D c C A d) (hx : 0 ≤ x ∧ x < 4294967296) (hd : dist C x = 0 ∨ 2147483648 ≤ dist C x) :
    Calls Try.prog 9 #[.pointer (some ⟨pb, 0, none⟩), .int .u32 x] w (TPost (.int .i64 9) w (TS pb mo D) pb C A (dupAdd d x)) := by
  have hw := (dist_key (C := C) hx).2.2
  have hb := (dist_key (C := C) hx).2.1
  have HN := Lib.hid (note_any pb mo D c C A d x w h hx)
  have c0 := h.cells.1
  clear h
  generalize dist C x = n at hw hb hd
  generalize key C = k at hw c0
  obtain ⟨hx0, hx1⟩ := hx
  rcases hd with hd | hd
  · have d1 : ((n : Int) == 0) = true := by subst hd; rfl
    go_enter Try.func9, Try.ntmps9
    go_wp2_with fail
    refine HN.out.mono ?_
    rintro e w1 ⟨mo', D', c', rfl, p1, p2, p3⟩
    go_wp2_with fail
    go_ret
    exact ⟨mo', D', c', rfl, p1, p2, p3⟩
  · have d1 : ((n : Int) == 0) = false := by simp; omega
    have d2 : decide (2147483648 ≤ (n : Int)) = true := by simp; omega
    go_enter Try.func9, Try.ntmps9
    go_wp2_with fail
    refine HN.out.mono ?_
    rintro e w1 ⟨mo', D', c', rfl, p1, p2, p3⟩
    go_wp2_with fail
    go_ret
    exact ⟨mo', D', c', rfl, p1, p2, p3⟩
set_option maxRecDepth 100000 in
set_option maxHeartbeats 1000000 in
theorem got_there1 (pb : Nat) (mo : Option Nat) (D : Option Addr) (c C : Nat) (A : List Nat) (d : List Int) (x : Int) (w : World) (h : TAt w pb mo D c C A d) (hx : 0 ≤ x ∧ x < 4294967296) (hd : dist C x ≠ 0) (hd2 : dist C x < 2147483648) (hA : ∀ y ∈ A, C < y ∧ y ≤ C + 512) (hin : C + dist C x ∈ A) :
    Calls Try.prog 9 #[.pointer (some ⟨pb, 0, none⟩), .int .u32 x] w (TPost (.int .i64 9) w (TS pb mo D) pb C A (dupAdd d x)) := by
  have hw := (dist_key (C := C) hx).2.2
  have hb := (dist_key (C := C) hx).2.1
  have hk := (dist_key (C := C) hx).1
  have HT := Lib.hid h
  have hcall := has_any pb mo D c C A d x w h
  rw [decide_eq_true (by rw [← hk]; exact (mem_keyF hA (by omega)).2 hin)] at hcall
  have HCA := Lib.hid hcall
  have HX := Lib.hid hx
  have c0 := h.cells.1
  clear h hcall hin hA hk
  generalize dist C x = n at hw hb hd hd2
  generalize key C = k at hw c0
  obtain ⟨hx0, hx1⟩ := hx
  have d1 : ((n : Int) == 0) = false := by simp; omega
  have d2 : decide (2147483648 ≤ (n : Int)) = false := by simp; omega
  go_enter Try.func9, Try.ntmps9
  go_wp2_with fail
  refine HCA.out.mono ?_
  rintro e w1 ⟨rfl, hu⟩
  have HT1 := Lib.hid (HT.out.up hu.out)
  go_wp2_with fail
  refine (note_any pb mo D c C A d x w1 HT1.out HX.out).mono ?_
  rintro e w2 ⟨mo', D', c', rfl, p1, p2, p3⟩
  have P1 := Lib.hid p1
  have P2 := Lib.hid p2
  have P3 := Lib.hid p3
  clear p1 p2 p3
  go_wp2_with fail
  go_ret
  exact ⟨mo', D', c', rfl, P1.out, (hu.out.out _).trans P2.out (Sub.refl _ _), fun k hk => by
    rcases P3.out k hk with h1 | h1
    · exact .inl h1
    · exact .inr (Nat.le_trans hu.out.size h1)⟩
set_option maxRecDepth 100000 in
set_option maxHeartbeats 1000000 in
theorem got_full (pb : Nat) (mo : Option Nat) (D : Option Addr) (c C : Nat) (A : List Nat) (d : List Int) (x : Int) (w : World) (h : TAt w pb mo D c C A d) (hx : 0 ≤ x ∧ x < 4294967296) (hd : 512 < dist C x) (hd2 : dist C x < 2147483648) (hA : ∀ y ∈ A, C < y ∧ y ≤ C + 512) :
    Calls Try.prog 9 #[.pointer (some ⟨pb, 0, none⟩), .int .u32 x] w (TPost (.int .i64 10) w (TS pb mo D) pb C A d) := by
  have hw := (dist_key (C := C) hx).2.2
  have hb := (dist_key (C := C) hx).2.1
  have hk := (dist_key (C := C) hx).1
  have HT := Lib.hid h
  have hcall := has_any pb mo D c C A d x w h
  rw [decide_eq_false (by rw [← hk, mem_keyF hA (by omega)]; intro hin; have := hA _ hin; omega)] at hcall
  have HCA := Lib.hid hcall
  have c0 := h.cells.1
  clear h hcall hA hk
  generalize dist C x = n at hw hb hd hd2
  generalize key C = k at hw c0
  obtain ⟨hx0, hx1⟩ := hx
  have d1 : ((n : Int) == 0) = false := by simp; omega
  have d2 : decide (2147483648 ≤ (n : Int)) = false := by simp; omega
  have d3 : decide (512 < (n : Int)) = true := by simp; omega
  go_enter Try.func9, Try.ntmps9
  go_wp2_with fail
  refine HCA.out.mono ?_
  rintro e w1 ⟨rfl, hu⟩
  go_wp2_with fail
  go_ret
  exact ⟨mo, D, c, rfl, HT.out.up hu.out, hu.out.out _, Sub.refl _ _⟩
set_option maxRecDepth 100000 in
set_option maxHeartbeats 1000000 in
theorem got_new (pb : Nat) (mo : Option Nat) (D : Option Addr) (c C : Nat) (A : List Nat) (d : List Int) (x : Int) (w : World) (h : TAt w pb mo D c C A d) (hx : 0 ≤ x ∧ x < 4294967296) (hd : dist C x ≠ 0) (hd2 : dist C x ≤ 512) (hA : ∀ y ∈ A, C < y ∧ y ≤ C + 512) (hnd : A.Nodup) (hin : C + dist C x ∉ A) :
    Calls Try.prog 9 #[.pointer (some ⟨pb, 0, none⟩), .int .u32 x] w fun e w' => ∃ C1 A1, Ts.Run C (A ++ [C + dist C x]) C1 A1 ∧ C1 + 1 ∉ A1 ∧ TPost (.int .i64 0) w (TS pb mo D) pb C1 A1 d e w' := by
  have hw := (dist_key (C := C) hx).2.2
  have hb := (dist_key (C := C) hx).2.1
  have hk := (dist_key (C := C) hx).1
  have hcall := has_any pb mo D c C A d x w h
  rw [decide_eq_false (by rw [← hk, mem_keyF hA (by omega)]; exact hin)] at hcall
  have HCA := Lib.hid hcall
  have c0 := h.cells.1
  have HR := Lib.hid (fun (w1 : World) (hu : Up w w1) => record_any pb mo D c C A d (C + dist C x) w1 (h.up hu) (fun y hy => by
    rcases List.mem_append.1 hy with hy | hy
    · exact hA y hy
    · simp at hy; omega) (List.nodup_append.2 ⟨hnd, by simp, fun a ha b hb e => by simp at hb; rw [e, hb] at ha; exact hin ha⟩))
  rw [hk] at HR
  clear h hcall hA hk hin hnd
  generalize hY : C + dist C x = Y at HR ⊢
  clear hY
  generalize dist C x = n at hw hb hd hd2
  generalize key C = k at hw c0
  obtain ⟨hx0, hx1⟩ := hx
  have d1 : ((n : Int) == 0) = false := by simp; omega
  have d2 : decide (2147483648 ≤ (n : Int)) = false := by simp; omega
  have d3 : decide (512 < (n : Int)) = false := by simp; omega
  go_enter Try.func9, Try.ntmps9
  go_wp2_with fail
  refine HCA.out.mono ?_
  rintro e w1 ⟨rfl, hu⟩
  go_wp2_with fail
  refine (HR.out w1 hu.out).mono ?_
  rintro e w2 ⟨m, C1, A1, rfl, p1, p2, p3, p4, p5⟩
  have P1 := Lib.hid p1
  have P2 := Lib.hid p2
  have P3 := Lib.hid p3
  have P4 := Lib.hid p4
  have P5 := Lib.hid p5
  clear p1 p2 p3 p4 p5 HR
  go_wp2_with fail
  go_ret
  exact ⟨C1, A1, P2.out, P3.out, some m, D, c, rfl, P1.out, (hu.out.out _).trans P4.out (Sub.refl _ _), fun k hk => by
    rcases P5.out k hk with h1 | h1
    · exact .inl h1
    · exact .inr (Nat.le_trans hu.out.size h1)⟩
end Go.Proofs.Ytccilbgbjikmpaa
