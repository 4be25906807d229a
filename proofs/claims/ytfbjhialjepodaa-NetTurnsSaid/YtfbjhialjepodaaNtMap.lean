import Derived.Test.YtfbjhialjepodaaNtLast
import Derived.DeepKeys4
namespace Go.Proofs.Ytfbjhialjepodaa
open Go Go.RowKit
set_option linter.unusedVariables false
/-! The map of paths that are cut. -/
def rdV (a b q : Int) : Value := .agg #[.int .i64 a, .int .i64 b, .int .i64 q]
def Rd (a b q : Int) : Prop := (0 ≤ a ∧ a < 8) ∧ (0 ≤ b ∧ b < 8) ∧ 0 ≤ q ∧ q < 2
theorem key_fin : ∀ (a b : Fin 8) (q : Fin 2), (keyOf Try.prog 67 (rdV (a.val : Nat) (b.val : Nat) (q.val : Nat))).isSome = true := by decide +kernel
theorem key_rd {a b q : Int} (h : Rd a b q) : ∃ l, keyOf Try.prog 67 (rdV a b q) = some l := by
  obtain ⟨⟨a0, a1⟩, ⟨b0, b1⟩, q0, q1⟩ := h
  have := key_fin ⟨a.toNat, by omega⟩ ⟨b.toNat, by omega⟩ ⟨q.toNat, by omega⟩
  simp only at this
  rw [show ((a.toNat : Nat) : Int) = a by omega, show ((b.toNat : Nat) : Int) = b by omega, show ((q.toNat : Nat) : Int) = q by omega] at this
  exact Option.isSome_iff_exists.1 this
theorem laid67 : laidOutB Try.prog = true := by kernel_rfl
theorem row67 : (67 : TypeId) < Try.prog.types.size := of_decide_eq_true (by kernel_rfl)
theorem wide67 : (match Try.prog.underlying 67 with | some (.array _ _) | some (.struct _) => true | _ => false) = true := by kernel_rfl
theorem law67 : WideMaps.KeyLaw Try.prog 67 := deep_law_laid laid67 (m := 3) (by omega) row67 (by kernel_rfl) wide67
theorem rdV_inj {a b q a' b' q' : Int} (h : rdV a b q = rdV a' b' q') : a = a' ∧ b = b' ∧ q = q' := by
  unfold rdV at h
  injection h with h
  simpa using h
/-- Block m is the map of the paths that are cut. -/
def CutM (w : World) (m : Nat) (dn : Int → Int → Int → Bool) : Prop := ∃ es clock, w.heap[m]? = some (.map es clock) ∧
  (∀ e ∈ es.toList, (∃ a b q, Rd a b q ∧ e.key = rdV a b q) ∧ e.val = .agg #[]) ∧ es.toList.Pairwise (fun x y => x.key ≠ y.key) ∧ ∀ a b q, dn a b q = true ↔ ∃ e ∈ es.toList, e.key = rdV a b q
theorem CutM.keep {w w' : World} {m : Nat} {dn : Int → Int → Int → Bool} (h : CutM w m dn) (hb : w'.heap[m]? = w.heap[m]?) : CutM w' m dn := by
  obtain ⟨es, c, h1, h2⟩ := h
  exact ⟨es, c, by rw [hb]; exact h1, h2⟩
theorem CutM.lt {w : World} {m : Nat} {dn : Int → Int → Int → Bool} (h : CutM w m dn) : m < w.heap.size := by
  obtain ⟨es, c, h1, h2⟩ := h
  exact lt_of_blk h1
theorem und59 : Try.prog.underlying 59 = some (.map 67 64) := by kernel_rfl
theorem zero64 (w : World) : (zeroValue 64).run Try.prog w = .ok (.agg #[]) w := by kernel_rfl
theorem cut_keys {es : Array MapEntry} (h : ∀ e ∈ es.toList, (∃ a b q, Rd a b q ∧ e.key = rdV a b q) ∧ e.val = .agg #[]) : ∀ e ∈ es.toList, ∃ l, keyOf Try.prog 67 e.key = some l := fun e he => by
  obtain ⟨⟨a, b, q, h1, h2⟩, _⟩ := h e he
  rw [h2]; exact key_rd h1
theorem look_cut {w : World} {m : Nat} {dn : Int → Int → Int → Bool} (h : CutM w m dn) {a b q : Int} (hr : Rd a b q) :
    (Instr.lookup 59 (.map (some m)) (rdV a b q) true).run Try.prog w = .ok (.tuple #[.agg #[], .bool (dn a b q)]) w := by
  obtain ⟨es, c, hb, hv, hp, hd⟩ := h
  obtain ⟨l, hl⟩ := key_rd hr
  unfold Instr.lookup
  simp only [Sem.run_bind, run_underlying und59, Result.andThen, MapKept.run_getObj_map hb, Sem.run_pure, law67.check _ _ hl]
  rcases law67.find w hl es.toList (cut_keys hv) with ⟨h1, h2⟩ | ⟨j, e, h1, h2, h3⟩
  · have hf : dn a b q = false := by
      cases hh : dn a b q with
      | false => rfl
      | true => obtain ⟨e, he, hk⟩ := (hd a b q).1 hh; exact absurd hk (h2 e he)
    rw [h1, hf]
    simp [Result.andThen]
  · have hm : e ∈ es.toList := List.mem_of_getElem? h2
    rw [h1, (hd a b q).2 ⟨e, hm, h3⟩, (hv e hm).2]
    simp
def setBlk (w : World) (m : Nat) (o : Obj) : World := { w with heap := w.heap.setIfInBounds m o }
theorem setBlk_out (w : World) (m : Nat) (o : Obj) : Out (fun k => k = m) w (setBlk w m o) := ⟨rfl, rfl, rfl, by simp [setBlk], fun k hk hn => by
  unfold setBlk; simp [Array.getElem?_setIfInBounds_ne (fun e => hn e.symm)]⟩
theorem setBlk_at {w : World} {m : Nat} (o : Obj) (h : m < w.heap.size) : (setBlk w m o).heap[m]? = some o := by unfold setBlk; simp [h]
theorem upd_cut {w : World} {m : Nat} {dn : Int → Int → Int → Bool} (h : CutM w m dn) {a b q : Int} (hr : Rd a b q) :
    ∃ w', (Instr.mapUpdate 59 (.map (some m)) (rdV a b q) (.agg #[])).run Try.prog w = .ok () w' ∧ Out (fun k => k = m) w w' ∧ CutM w' m (fun x y z => if x = a ∧ y = b ∧ z = q then true else dn x y z) := by
  have hlt := h.lt
  obtain ⟨es, c, hb, hv, hp, hd⟩ := h
  obtain ⟨l, hl⟩ := key_rd hr
  rcases law67.find w hl es.toList (cut_keys hv) with ⟨h1, h2⟩ | ⟨j, e, h1, h2, h3⟩
  · refine ⟨setBlk w m (.map (es.push { key := rdV a b q, val := .agg #[], born := c }) (c + 1)), ?_, setBlk_out _ _ _, _, _, setBlk_at _ hlt, fun e he => ?_, ?_, fun x y z => ?_⟩
    · unfold Instr.mapUpdate
      simp only [Sem.run_bind, run_underlying und59, Result.andThen, MapKept.run_getObj_map hb, law67.check _ _ hl, h1, MapKept.run_setObj_map _ hb]
      rfl
    · rw [Array.toList_push] at he
      rcases List.mem_append.1 he with he | he
      · exact hv e he
      · rw [List.mem_singleton.1 he]; exact ⟨⟨a, b, q, hr, rfl⟩, rfl⟩
    · rw [Array.toList_push, List.pairwise_append]
      refine ⟨hp, by simp, fun x hx y hy => ?_⟩
      rw [List.mem_singleton.1 hy]
      exact h2 x hx
    · rw [Array.toList_push]
      by_cases e : x = a ∧ y = b ∧ z = q
      · simp only []; rw [if_pos e, e.1, e.2.1, e.2.2]
        exact ⟨fun _ => ⟨_, List.mem_append_right _ (List.mem_singleton.2 rfl), rfl⟩, fun _ => rfl⟩
      · simp only []; rw [if_neg e, hd]
        refine ⟨fun ⟨u, hu, hk⟩ => ⟨u, List.mem_append_left _ hu, hk⟩, fun ⟨u, hu, hk⟩ => ?_⟩
        rcases List.mem_append.1 hu with hu | hu
        · exact ⟨u, hu, hk⟩
        · rw [List.mem_singleton.1 hu] at hk
          have := rdV_inj hk
          exact absurd ⟨this.1.symm, this.2.1.symm, this.2.2.symm⟩ e
  · have hm : e ∈ es.toList := List.mem_of_getElem? h2
    have hj : es[j]? = some e := by simpa using h2
    have hmod : (es.modify j fun e => { e with key := rdV a b q, val := .agg #[] }) = es := by
      apply Array.ext_getElem?
      intro i
      rw [Array.getElem?_modify]
      split
      · rename_i hji
        subst hji
        rw [hj]
        simp only [Option.map_some]
        rw [← h3, ← (hv e hm).2]
      · rfl
    refine ⟨setBlk w m (.map es c), ?_, setBlk_out _ _ _, _, _, setBlk_at _ hlt, hv, hp, fun x y z => ?_⟩
    · unfold Instr.mapUpdate
      simp only [Sem.run_bind, run_underlying und59, Result.andThen, MapKept.run_getObj_map hb, law67.check _ _ hl, h1, hj, Option.map_some, Option.getD_some, h3, law67.stays _ hl]
      rw [MapKept.run_setObj_map _ hb, hmod]
      rfl
    · by_cases e2 : x = a ∧ y = b ∧ z = q
      · simp only []; rw [if_pos e2, e2.1, e2.2.1, e2.2.2]
        exact ⟨fun _ => ⟨e, hm, h3⟩, fun _ => rfl⟩
      · simp only []; rw [if_neg e2, hd]
theorem del_cut {w : World} {m : Nat} {dn : Int → Int → Int → Bool} (h : CutM w m dn) {a b q : Int} (hr : Rd a b q) (ty : TypeId) :
    ∃ w', (Builtin.delete_ #[59, 67] ty #[.map (some m), rdV a b q]).run Try.prog w = .ok (.tuple #[]) w' ∧ Out (fun k => k = m) w w' ∧ CutM w' m (fun x y z => if x = a ∧ y = b ∧ z = q then false else dn x y z) := by
  have hlt := h.lt
  obtain ⟨es, c, hb, hv, hp, hd⟩ := h
  obtain ⟨l, hl⟩ := key_rd hr
  rcases law67.find w hl es.toList (cut_keys hv) with ⟨h1, h2⟩ | ⟨j, e, h1, h2, h3⟩
  · refine ⟨setBlk w m (.map es c), ?_, setBlk_out _ _ _, _, _, setBlk_at _ hlt, hv, hp, fun x y z => ?_⟩
    · unfold Builtin.delete_
      simp [Sem.run_bind, run_underlying und59, Result.andThen, MapKept.run_getObj_map hb, law67.check _ _ hl, h1, MapKept.run_setObj_map _ hb]
      rfl
    · by_cases e2 : x = a ∧ y = b ∧ z = q
      · simp only []; rw [if_pos e2, e2.1, e2.2.1, e2.2.2]
        exact ⟨fun hh => (by cases hh), fun ⟨u, hu, hk⟩ => absurd hk (h2 u hu)⟩
      · simp only []; rw [if_neg e2, hd]
  · have hm : e ∈ es.toList := List.mem_of_getElem? h2
    have hj : es[j]? = some e := by simpa using h2
    have hlj : j < es.toList.length := (List.getElem?_eq_some_iff.1 h2).1
    have hlist : (es.eraseIdxIfInBounds j).toList = es.toList.eraseIdx j := by
      unfold Array.eraseIdxIfInBounds
      split
      · simp
      · rw [List.eraseIdx_of_length_le (by simpa using ‹¬ j < es.size›)]
    refine ⟨setBlk w m (.map (es.eraseIdxIfInBounds j) c), ?_, setBlk_out _ _ _, _, _, setBlk_at _ hlt, fun u hu => ?_, ?_, fun x y z => ?_⟩
    · unfold Builtin.delete_
      simp [Sem.run_bind, run_underlying und59, Result.andThen, MapKept.run_getObj_map hb, law67.check _ _ hl, h1, MapKept.run_setObj_map _ hb]
      rfl
    · rw [hlist] at hu; exact hv u (List.mem_of_mem_eraseIdx hu)
    · rw [hlist]; exact hp.sublist (List.eraseIdx_sublist _ _)
    · rw [hlist]
      have hother : ∀ u ∈ es.toList.eraseIdx j, u.key ≠ e.key := fun u hu hk => by
        rw [List.mem_eraseIdx_iff_getElem?] at hu
        obtain ⟨i, hij, hi⟩ := hu
        rw [List.pairwise_iff_getElem] at hp
        have hli : i < es.toList.length := (List.getElem?_eq_some_iff.1 hi).1
        have ei := (List.getElem?_eq_some_iff.1 hi).2
        have ej := (List.getElem?_eq_some_iff.1 h2).2
        rcases Nat.lt_or_gt_of_ne hij with h5 | h5
        · exact hp i j hli hlj h5 (by rw [ei, ej]; exact hk)
        · exact hp j i hlj hli h5 (by rw [ei, ej]; exact hk.symm)
      by_cases e2 : x = a ∧ y = b ∧ z = q
      · simp only []; rw [if_pos e2, e2.1, e2.2.1, e2.2.2]
        exact ⟨fun hh => (by cases hh), fun ⟨u, hu, hk⟩ => absurd (hk.trans h3.symm) (hother u hu)⟩
      · simp only []; rw [if_neg e2, hd]
        refine ⟨fun ⟨u, hu, hk⟩ => ⟨u, ?_, hk⟩, fun ⟨u, hu, hk⟩ => ⟨u, List.mem_of_mem_eraseIdx hu, hk⟩⟩
        rw [List.mem_eraseIdx_iff_getElem?]
        obtain ⟨i, hi⟩ := List.getElem?_of_mem hu
        refine ⟨i, fun hij => ?_, hi⟩
        subst hij
        rw [h2] at hi
        injection hi with hi
        subst hi
        have := rdV_inj (h3.symm.trans hk)
        exact e2 ⟨this.1.symm, this.2.1.symm, this.2.2.symm⟩
end Go.Proofs.Ytfbjhialjepodaa
namespace Go.Proofs.Ytfbjhialjepodaa
open Go Go.RowKit
set_option linter.unusedVariables false
theorem fld612 (b o : Nat) (w : World) : (Instr.fieldAt 61 (.pointer (some ⟨b, o, none⟩)) 2).run Try.prog w = .ok (.pointer (some ⟨b, o + 2, none⟩)) w := by kernel_rfl
theorem agg59 (w : World) : (isAgg 59).run Try.prog w = .ok false w := by kernel_rfl
theorem st64 (g : Nat) (w : World) : (Instr.storeAt 64 (.pointer (some ⟨g, 0, none⟩)) (.agg #[])).run Try.prog w = .ok () w := by kernel_rfl
theorem bld67 (a b q : Int) (w : World) : (Instr.build 67 #[(0, .int .i64 a), (1, .int .i64 b), (2, .int .i64 q)]).run Try.prog w = .ok (rdV a b q) w := by kernel_rfl
end Go.Proofs.Ytfbjhialjepodaa
namespace Go.Proofs.Ytfbjhialjepodaa
open Go Go.RowKit
set_option linter.unusedVariables false
def IsPtr (v : Value) (w : World) : Prop := ∃ g, v = .pointer (some ⟨g, 0, none⟩)
theorem x_alloc64 {o : Oper} {a : Act} (w : World) (ho : o.op = .alloc 64) : (execOp a.eval o).run Try.prog w = .ok (.value (.pointer (some ⟨w.heap.size, 0, none⟩))) (w.alloc (.cells #[] 64)) := by
  unfold execOp
  simp only [ho]
  kernel_rfl
theorem x_lookup {P : Program} {o : Oper} {a : Act} {w : World} (t : TypeId) (x y : Operand) (ok : Bool) {X Y v : Value} (ho : o.op = .lookup t x y ok) (hx : a.eval x = X) (hy : a.eval y = Y) (hr : (Instr.lookup t X Y ok).run P w = .ok v w) : (execOp a.eval o).run P w = .ok (.value v) w := by simp [execOp, ho, hx, hy, hr, Result.andThen]
/-- A frame is let in. -/
def comeB (d : Bool) (n : Nat) : Bool := decide (d = false ∧ n < 1024)
/-- Behind a Send: nothing came, or a frame did. -/
def SndPost (b : Nat) (T : TypeId) (cs : Option Addr → Nat → Nat → Array Value) (A : Option Addr) (l : List FrB) (f : Nt.Fr) (come : Bool) (w : World) (e : Ending) (w' : World) : Prop :=
  e = .returned (.int .i64 0) ∧ ∃ w0, Up w w0 ∧ if come then WApp b T cs A l f (Fresh w0.heap.size) w0 2 w' else w' = w0
set_option maxRecDepth 100000 in
set_option maxHeartbeats 2000000 in
theorem send_p (b m : Nat) (h : Int) (A Ai : Option Addr) (n0 c ci : Nat) (l : List FrB) (dn : Int → Int → Int → Bool) (fa fq ta tq : Int) (bs : List Int) (w : World) (hbk : w.heap[b]? = some (.cells (netBlk m h A l.length c) 61 (0, 0)))
    (hrow : w.ownsRow 0 46 6 (.slice A l.length c) l.length (rowc l)) (hl : l.length ≤ 1024) (hgb : ∀ q, blk? A = some q → q ≠ b) (hcu : CutM w m dn) (hin : InB w Ai n0 ci bs) (hap : apB h (fa, fq) (ta, tq) = true) (h8 : h ≤ 8) (hn : n0 ≤ 4096) :
    Calls Try.prog 12 #[.pointer (some ⟨b, 0, none⟩), adV (fa, fq), adV (ta, tq), .slice Ai n0 ci] w (SndPost b 61 (netBlk m h) A l ⟨fa, fq, ta, tq, bs, false⟩ (comeB (dn fa ta fq) l.length) w) := by
  obtain ⟨W, hW⟩ : ∃ W, W = (w.alloc (.cells #[.int .i64 fa, .int .i64 fq] 37)).alloc (.cells #[.int .i64 ta, .int .i64 tq] 37) := ⟨_, rfl⟩
  have u1 := up_alloc w (.cells #[.int .i64 fa, .int .i64 fq] 37)
  have u2 := up_alloc (w.alloc (.cells #[.int .i64 fa, .int .i64 fq] 37)) (.cells #[.int .i64 ta, .int .i64 tq] 37)
  have a1 := (u2.block _ (lt_of_blk (new_at w (.cells #[.int .i64 fa, .int .i64 fq] 37)))).trans (new_at w (.cells #[.int .i64 fa, .int .i64 fq] 37))
  have b1 := new_at (w.alloc (.cells #[.int .i64 fa, .int .i64 fq] 37)) (.cells #[.int .i64 ta, .int .i64 tq] 37)
  have s1 : (w.alloc (.cells #[.int .i64 fa, .int .i64 fq] 37)).heap.size = w.heap.size + 1 := by simp
  rw [s1] at b1
  have U := Lib.hid (u1.trans u2)
  rw [← hW] at a1 b1 U
  clear u1 u2 s1
  have hc0 := cell_up (cell_of hbk (j := 0) rfl) U.out
  have ra0 := cell_of a1 (j := 0) rfl
  have ra1 := cell_of a1 (j := 1) rfl
  have rb0 := cell_of b1 (j := 0) rfl
  have rb1 := cell_of b1 (j := 1) rfl
  have HW := Lib.hid hW
  have HBK0 := Lib.hid hbk
  have HROW0 := Lib.hid hrow
  have HL0 := Lib.hid hl
  have HGB0 := Lib.hid hgb
  have HCU0 := Lib.hid hcu
  have HIN0 := Lib.hid hin
  have HAP := Lib.hid hap
  have H8 := Lib.hid h8
  have HNN := Lib.hid hn
  have FA := Lib.hid a1
  have TB := Lib.hid b1
  clear hbk hrow hl hgb hcu hin hap h8 hn hW a1 b1
  unfold adV
  go_enter Try.func12, Try.ntmps12
  go_upto_region 1 with (fail)
  rw [← HW.out]
  go_wp2_with fail
  refine (apart_ok b h (fa, fq) (ta, tq) W hc0).mono ?_
  rintro e w0 ⟨rfl, v1⟩
  rw [HAP.out]
  have hn0 : n0 ≤ 4096 := HNN.out
  have V1 := Lib.hid v1
  clear v1 hc0 ra0 ra1 rb0 rb1
  go_upto_region 5 with (fail)
  have HU0 := Lib.hid (show Up w w0 from U.out.trans V1.out)
  have HF0 := Lib.hid (cell_up (cell_of FA.out (j := 0) rfl) V1.out)
  have HF1 := Lib.hid (cell_up (cell_of FA.out (j := 1) rfl) V1.out)
  have HT0 := Lib.hid (cell_up (cell_of TB.out (j := 0) rfl) V1.out)
  have HT1 := Lib.hid (cell_up (cell_of TB.out (j := 1) rfl) V1.out)
  have HBKA := Lib.hid ((HU0.out.out No).blk HBK0.out (fun h => h))
  have HCM := Lib.hid (show w0.cell? ⟨b, 2, none⟩ = some (.map (some m)) from cell_of HBKA.out rfl)
  have HCU := Lib.hid (show CutM w0 m dn from HCU0.out.keep (HU0.out.block m HCU0.out.lt))
  have HMS := Lib.hid HCU.out.lt
  have HRD := Lib.hid (show Rd fa ta fq from by
    have := (apB_spec ⟨h, [], dn⟩ (fa, fq) (ta, tq)).1 HAP.out
    unfold Nt.okA at this
    simp only at this
    have := H8.out
    unfold Rd
    omega)
  generalize hfb : w.heap.size = fb at HF0 HF1 HT0 HT1 ⊢
  generalize htb : fb + 1 = tb at HT0 HT1 ⊢
  clear hfb htb FA TB HW U V1
  have HK : ∀ φ ∈ ([Is (.pointer (some ⟨b, 0, none⟩)), Is (.pointer (some ⟨b, 0, none⟩)), Is (.pointer (some ⟨b, 2, none⟩)), Is (.map (some m)), Is (.pointer (some ⟨fb, 0, none⟩)), Is (.int .i64 fa), Is (.pointer (some ⟨tb, 0, none⟩)), Is (.int .i64 ta), Is (.pointer (some ⟨fb, 1, none⟩)), Is (.int .i64 fq), Is (rdV fa ta fq), Is (.tuple #[.agg #[], .bool (dn fa ta fq)]), Is (.tuple #[.agg #[], .bool (dn fa ta fq)]), Is (.agg #[]), Is (.bool (dn fa ta fq)), IsPtr, Tru, Is (.bool (dn fa ta fq))] : List (Value → World → Prop)), Keeps φ := by
    have i1 : ∀ x, Keeps (Is x) := keeps_is
    simp only [List.forall_mem_cons]
    exact ⟨i1 _, i1 _, i1 _, i1 _, i1 _, i1 _, i1 _, i1 _, i1 _, i1 _, i1 _, i1 _, i1 _, i1 _, i1 _, fun _ _ _ h _ => h, fun _ _ _ h _ => h, i1 _, fun _ h => by cases h⟩
  refine staged_lit (by kernel_rfl) (facts [Is (.pointer (some ⟨b, 0, none⟩)), Is (.pointer (some ⟨b, 0, none⟩)), Is (.pointer (some ⟨b, 2, none⟩)), Is (.map (some m)), Is (.pointer (some ⟨fb, 0, none⟩)), Is (.int .i64 fa), Is (.pointer (some ⟨tb, 0, none⟩)), Is (.int .i64 ta), Is (.pointer (some ⟨fb, 1, none⟩)), Is (.int .i64 fq), Is (rdV fa ta fq), Is (.tuple #[.agg #[], .bool (dn fa ta fq)]), Is (.tuple #[.agg #[], .bool (dn fa ta fq)]), Is (.agg #[]), Is (.bool (dn fa ta fq)), IsPtr, Tru, Is (.bool (dn fa ta fq))]) (Stg [16] (fun _ w => Up w0 w)) 59 rfl (by decide +kernel) (by decide +kernel) (Stg.start (Up.drew w0)) ?_ ?_
  · refine ⟨?_, ?_, ?_, ?_, ?_, ?_, ?_, ?_, ?_, ?_, ?_, ?_, ?_, ?_, ?_, ?_, ?_, ?_, trivial⟩
    · refine opS_same rfl rfl fun L ac w1 hJ hl hc ho hd => ?_
      have s0 : ac.eval (.tmp 0) = .pointer (some ⟨b, 0, none⟩) := ho 0 rfl
      exact ⟨_, x_move (.tmp 0) rfl s0, rfl⟩
    · refine opS_same rfl rfl fun L ac w1 hJ hl hc ho hd => ?_
      have d0 : ac.eval (.tmp 24) = .pointer (some ⟨b, 0, none⟩) := hd 0 _ _ rfl rfl rfl
      exact ⟨_, x_nil (.tmp 24) rfl d0, rfl⟩
    · refine opS_same rfl rfl fun L ac w1 hJ hl hc ho hd => ?_
      have d1 : ac.eval (.tmp 25) = .pointer (some ⟨b, 0, none⟩) := hd 1 _ _ rfl rfl rfl
      exact ⟨_, x_field 61 (.tmp 25) 2 rfl d1 (fld612 _ _ _), rfl⟩
    · refine opS_same rfl rfl fun L ac w1 hJ hl hc ho hd => ?_
      have d2 : ac.eval (.tmp 26) = .pointer (some ⟨b, 2, none⟩) := hd 2 _ _ rfl rfl rfl
      have hW : Up w0 w1 := by obtain ⟨q, _, hW⟩ := hJ; exact hW
      exact ⟨_, x_load 59 (.tmp 26) rfl d2 (run_load1 agg59 (cell_up HCM.out hW)), rfl⟩
    · refine opS_same rfl rfl fun L ac w1 hJ hl hc ho hd => ?_
      have s5 : ac.eval (.tmp 5) = .pointer (some ⟨fb, 0, none⟩) := ho 5 rfl
      exact ⟨_, x_field 37 (.tmp 5) 0 rfl s5 (fld370 _ _ _), rfl⟩
    · refine opS_same rfl rfl fun L ac w1 hJ hl hc ho hd => ?_
      have d4 : ac.eval (.tmp 28) = .pointer (some ⟨fb, 0, none⟩) := hd 4 _ _ rfl rfl rfl
      have hW : Up w0 w1 := by obtain ⟨q, _, hW⟩ := hJ; exact hW
      exact ⟨_, x_load 3 (.tmp 28) rfl d4 (run_load1 agg3 (cell_up HF0.out hW)), rfl⟩
    · refine opS_same rfl rfl fun L ac w1 hJ hl hc ho hd => ?_
      have s6 : ac.eval (.tmp 6) = .pointer (some ⟨tb, 0, none⟩) := ho 6 rfl
      exact ⟨_, x_field 37 (.tmp 6) 0 rfl s6 (fld370 _ _ _), rfl⟩
    · refine opS_same rfl rfl fun L ac w1 hJ hl hc ho hd => ?_
      have d6 : ac.eval (.tmp 30) = .pointer (some ⟨tb, 0, none⟩) := hd 6 _ _ rfl rfl rfl
      have hW : Up w0 w1 := by obtain ⟨q, _, hW⟩ := hJ; exact hW
      exact ⟨_, x_load 3 (.tmp 30) rfl d6 (run_load1 agg3 (cell_up HT0.out hW)), rfl⟩
    · refine opS_same rfl rfl fun L ac w1 hJ hl hc ho hd => ?_
      have s5 : ac.eval (.tmp 5) = .pointer (some ⟨fb, 0, none⟩) := ho 5 rfl
      exact ⟨_, x_field 37 (.tmp 5) 1 rfl s5 (fld371 _ _ _), rfl⟩
    · refine opS_same rfl rfl fun L ac w1 hJ hl hc ho hd => ?_
      have d8 : ac.eval (.tmp 32) = .pointer (some ⟨fb, 1, none⟩) := hd 8 _ _ rfl rfl rfl
      have hW : Up w0 w1 := by obtain ⟨q, _, hW⟩ := hJ; exact hW
      exact ⟨_, x_load 3 (.tmp 32) rfl d8 (run_load1 agg3 (cell_up HF1.out hW)), rfl⟩
    · refine opS_same rfl rfl fun L ac w1 hJ hl hc ho hd => ?_
      have d5 : ac.eval (.tmp 29) = .int .i64 fa := hd 5 _ _ rfl rfl rfl
      have d7 : ac.eval (.tmp 31) = .int .i64 ta := hd 7 _ _ rfl rfl rfl
      have d9 : ac.eval (.tmp 33) = .int .i64 fq := hd 9 _ _ rfl rfl rfl
      exact ⟨_, x_build 67 _ rfl (by simp only [List.map_toArray, List.map_cons, List.map_nil, d5, d7, d9]; exact bld67 _ _ _ _), rfl⟩
    · refine opS_same rfl rfl fun L ac w1 hJ hl hc ho hd => ?_
      have d3 : ac.eval (.tmp 27) = .map (some m) := hd 3 _ _ rfl rfl rfl
      have d10 : ac.eval (.tmp 34) = rdV fa ta fq := hd 10 _ _ rfl rfl rfl
      have hW : Up w0 w1 := by obtain ⟨q, _, hW⟩ := hJ; exact hW
      exact ⟨_, x_lookup 59 (.tmp 27) (.tmp 34) true rfl d3 d10 (look_cut (HCU.out.keep (hW.block m HMS.out)) HRD.out), rfl⟩
    · refine opS_same rfl rfl fun L ac w1 hJ hl hc ho hd => ?_
      have d11 : ac.eval (.tmp 35) = .tuple #[.agg #[], .bool (dn fa ta fq)] := hd 11 _ _ rfl rfl rfl
      exact ⟨_, x_move (.tmp 35) rfl d11, rfl⟩
    · refine opS_same rfl rfl fun L ac w1 hJ hl hc ho hd => ?_
      have d12 : ac.eval (.tmp 23) = .tuple #[.agg #[], .bool (dn fa ta fq)] := hd 12 _ _ rfl rfl rfl
      exact ⟨_, x_extract (.tmp 23) 0 rfl d12 rfl, rfl⟩
    · refine opS_same rfl rfl fun L ac w1 hJ hl hc ho hd => ?_
      have d12 : ac.eval (.tmp 23) = .tuple #[.agg #[], .bool (dn fa ta fq)] := hd 12 _ _ rfl rfl rfl
      exact ⟨_, x_extract (.tmp 23) 1 rfl d12 rfl, rfl⟩
    · refine opS_grow rfl rfl (fun k w w' h hu => (show Up w0 w from h).trans hu) (facts_keep HK) fun L ac w1 hJ hl hc ho hd => ?_
      exact fine_run (.pointer (some ⟨w1.heap.size, 0, none⟩)) (w1.alloc (.cells #[] 64)) (x_alloc64 w1 rfl) (up_alloc _ _) ⟨w1.heap.size, rfl⟩
    · refine opS_write (j := 0) rfl rfl (by decide) rfl (fun _ _ h => absurd h (by omega)) fun ac w1 hW ho hd => ?_
      have d15 := hd 15 _ _ rfl rfl rfl
      have d13 : ac.eval (.tmp 36) = .agg #[] := hd 13 _ _ rfl rfl rfl
      obtain ⟨q, hq⟩ := d15
      have hq2 : ac.eval (.tmp 9) = _ := hq
      exact ⟨w1, x_store 64 (.tmp 9) (.tmp 36) rfl hq2 d13 (st64 q w1), hW, fun _ => trivial, fun _ _ h => h⟩
    · refine opS_same rfl rfl fun L ac w1 hJ hl hc ho hd => ?_
      have d14 : ac.eval (.tmp 37) = .bool (dn fa ta fq) := hd 14 _ _ rfl rfl rfl
      exact ⟨_, x_assign (.tmp 37) rfl d14, rfl⟩
  · intro L a1 w9 hI hall
    obtain ⟨q, hq, hW⟩ := hI.done hall (by simp)
    have HU9 := Lib.hid (show Up w0 w9 from hW)
    clear hq hW q HK
    have l0 : a1.tmps.getD 0 undef = .pointer (some ⟨b, 0, none⟩) := hI.old 0 rfl
    have l3 : a1.tmps.getD 3 undef = .slice Ai n0 ci := hI.old 3 rfl
    have l5 : a1.tmps.getD 5 undef = .pointer (some ⟨fb, 0, none⟩) := hI.old 5 rfl
    have l6 : a1.tmps.getD 6 undef = .pointer (some ⟨tb, 0, none⟩) := hI.old 6 rfl
    have l10 : a1.tmps.getD 10 undef = .bool (dn fa ta fq) := hI.get hall (i := 17) rfl rfl
    have hde : a1.defers = [] := hI.defers
    have hal := act_lit a1 59 hI.size
    clear hI
    simp only [List.range, List.range.loop, List.map_cons, List.map_nil] at hal
    rw [l0, l3, l5, l6, l10, hde] at hal
    generalize a1.tmps.getD 1 undef = t1 at hal
    generalize a1.tmps.getD 2 undef = t2 at hal
    generalize a1.tmps.getD 4 undef = t4 at hal
    generalize a1.tmps.getD 7 undef = t7 at hal
    generalize a1.tmps.getD 8 undef = t8 at hal
    generalize a1.tmps.getD 9 undef = t9 at hal
    generalize a1.tmps.getD 11 undef = t11 at hal
    generalize a1.tmps.getD 12 undef = t12 at hal
    generalize a1.tmps.getD 13 undef = t13 at hal
    generalize a1.tmps.getD 14 undef = t14 at hal
    generalize a1.tmps.getD 15 undef = t15 at hal
    generalize a1.tmps.getD 16 undef = t16 at hal
    generalize a1.tmps.getD 17 undef = t17 at hal
    generalize a1.tmps.getD 18 undef = t18 at hal
    generalize a1.tmps.getD 19 undef = t19 at hal
    generalize a1.tmps.getD 20 undef = t20 at hal
    generalize a1.tmps.getD 21 undef = t21 at hal
    generalize a1.tmps.getD 22 undef = t22 at hal
    generalize a1.tmps.getD 23 undef = t23 at hal
    generalize a1.tmps.getD 24 undef = t24 at hal
    generalize a1.tmps.getD 25 undef = t25 at hal
    generalize a1.tmps.getD 26 undef = t26 at hal
    generalize a1.tmps.getD 27 undef = t27 at hal
    generalize a1.tmps.getD 28 undef = t28 at hal
    generalize a1.tmps.getD 29 undef = t29 at hal
    generalize a1.tmps.getD 30 undef = t30 at hal
    generalize a1.tmps.getD 31 undef = t31 at hal
    generalize a1.tmps.getD 32 undef = t32 at hal
    generalize a1.tmps.getD 33 undef = t33 at hal
    generalize a1.tmps.getD 34 undef = t34 at hal
    generalize a1.tmps.getD 35 undef = t35 at hal
    generalize a1.tmps.getD 36 undef = t36 at hal
    generalize a1.tmps.getD 37 undef = t37 at hal
    generalize a1.tmps.getD 38 undef = t38 at hal
    generalize a1.tmps.getD 39 undef = t39 at hal
    generalize a1.tmps.getD 40 undef = t40 at hal
    generalize a1.tmps.getD 41 undef = t41 at hal
    generalize a1.tmps.getD 42 undef = t42 at hal
    generalize a1.tmps.getD 43 undef = t43 at hal
    generalize a1.tmps.getD 44 undef = t44 at hal
    generalize a1.tmps.getD 45 undef = t45 at hal
    generalize a1.tmps.getD 46 undef = t46 at hal
    generalize a1.tmps.getD 47 undef = t47 at hal
    generalize a1.tmps.getD 48 undef = t48 at hal
    generalize a1.tmps.getD 49 undef = t49 at hal
    generalize a1.tmps.getD 50 undef = t50 at hal
    generalize a1.tmps.getD 51 undef = t51 at hal
    generalize a1.tmps.getD 52 undef = t52 at hal
    generalize a1.tmps.getD 53 undef = t53 at hal
    generalize a1.tmps.getD 54 undef = t54 at hal
    generalize a1.tmps.getD 55 undef = t55 at hal
    generalize a1.tmps.getD 56 undef = t56 at hal
    generalize a1.tmps.getD 57 undef = t57 at hal
    generalize a1.tmps.getD 58 undef = t58 at hal
    clear l0 l3 l5 l6 l10 hde
    subst hal
    have HU := Lib.hid (show Up w w9 from HU0.out.trans HU9.out)
    have HBK := Lib.hid ((HU9.out.out No).blk HBKA.out (fun h => h))
    have hcb : w9.cell? ⟨b, 1, none⟩ = some (.slice A l.length c) := cell_of HBK.out rfl
    have HCB := Lib.hid hcb
    clear HCM HMS HCU HRD HBKA
    generalize hln : l.length = n at hcb
    have HLN0 := Lib.hid hln
    clear hln
    have hn4 : n ≤ 1024 := by rw [← HLN0.out]; exact HL0.out
    by_cases hd : dn fa ta fq = true
    · rw [hd]
      have E := Lib.hid (show comeB (dn fa ta fq) l.length = false from decide_eq_false (fun hh => by rw [hd] at hh; cases hh.1))
      clear hd
      go_wp2_with fail
      go_ret
      exact ⟨rfl, w9, HU.out, by rw [E.out]; rfl⟩
    · have hd' : dn fa ta fq = false := by simpa using hd
      rw [hd']
      by_cases hfull : n < 1024
      · have E := Lib.hid (show comeB (dn fa ta fq) l.length = true from decide_eq_true ⟨hd', by rw [HLN0.out]; exact hfull⟩)
        clear hd hd'
        go_wp2_with fail
        refine (full_f b n c A w9 hcb hfull).mono ?_
        rintro e w8 ⟨rfl, rfl⟩
        go_upto_region 7 with (fail)
        have hln := HLN0.out
        subst hln
        have HROW := Lib.hid (own_up HROW0.out HU.out)
        have HL := Lib.hid hfull
        have HBS := Lib.hid (lt_of_blk HBK.out)
        have HAB := Lib.hid (show ∀ q, blk? A = some q → q < w8.heap.size from fun q hq => (World.ownsRow.lt HROW.out q (by rw [ownBlock_slice]; exact hq)).2)
        have HBA := HGB0
        have HSET := Lib.hid (show ∀ A' n' c', (netBlk m h A l.length c).setIfInBounds 1 (.slice A' n' c') = netBlk m h A' n' c' from fun _ _ _ => netBlk_way _ _ _ _ _ _ _ _)
        have HG := Lib.hid (gok_fresh (b := b) HBS.out HAB.out)
        have HIN := Lib.hid (HIN0.out.up HU.out)
        obtain rfl : n0 = bs.length := HIN.out.len.symm
        have HLN := Lib.hid hn0
        have HBX5 := Lib.hid (And.intro (cell_up HF0.out HU9.out) (cell_up HF1.out HU9.out))
        have HBX6 := Lib.hid (And.intro (cell_up HT0.out HU9.out) (cell_up HT1.out HU9.out))
        clear hcb HF0 HF1 HT0 HT1 HIN0 HROW0
        have HKB : ∀ φ ∈ ([Is (.pointer (some ⟨b, 0, none⟩)), Is (.pointer (some ⟨b, 0, none⟩)), Is (.pointer (some ⟨b, 0, none⟩)), Is (.pointer (some ⟨b, 1, none⟩)), Is (.slice A l.length c), Is (adV (fa, fq)), Is (adV (ta, tq)), Is (.slice Ai bs.length ci), PhA (⟨fa, fq, ta, tq, bs, false⟩) (Fresh w8.heap.size), PhF (⟨fa, fq, ta, tq, bs, false⟩) (Fresh w8.heap.size), PhS w8.heap.size (⟨fa, fq, ta, tq, bs, false⟩) (Fresh w8.heap.size), PhR w8.heap.size A l (⟨fa, fq, ta, tq, bs, false⟩) (Fresh w8.heap.size), Is (.pointer (some ⟨b, 0, none⟩)), Is (.pointer (some ⟨b, 1, none⟩)), Tru] : List (Value → World → Prop)), KpT (fun k => k = b) φ := by
          have i1 : ∀ x, KpT (fun k => k = b) (Is x) := fun x => kpT_is _ x
          have iPhA := KpT.mono (T' := fun k => k = b) (kpT_PhA (f := ⟨fa, fq, ta, tq, bs, false⟩) HG.out) (fun k hk => Or.inl hk)
          have iPhF := KpT.mono (T' := fun k => k = b) (kpT_PhF (f := ⟨fa, fq, ta, tq, bs, false⟩) HG.out) (fun k hk => Or.inl hk)
          have iPhS := KpT.mono (T' := fun k => k = b) (kpT_PhS (f := ⟨fa, fq, ta, tq, bs, false⟩) HG.out HBS.out HAB.out) (fun k hk => Or.inl hk)
          have iR := kpb_PhR (l := l) (f := ⟨fa, fq, ta, tq, bs, false⟩) HG.out HBS.out HBA.out
          simp only [List.forall_mem_cons]
          exact ⟨i1 _, i1 _, i1 _, i1 _, i1 _, i1 _, i1 _, i1 _, iPhA, iPhF, iPhS, iR, i1 _, i1 _, kpT_tru _, fun _ h => by cases h⟩
        have HK : ∀ φ ∈ ([Is (.pointer (some ⟨b, 0, none⟩)), Is (.pointer (some ⟨b, 0, none⟩)), Is (.pointer (some ⟨b, 0, none⟩)), Is (.pointer (some ⟨b, 1, none⟩)), Is (.slice A l.length c), Is (adV (fa, fq)), Is (adV (ta, tq)), Is (.slice Ai bs.length ci), PhA (⟨fa, fq, ta, tq, bs, false⟩) (Fresh w8.heap.size), PhF (⟨fa, fq, ta, tq, bs, false⟩) (Fresh w8.heap.size), PhS w8.heap.size (⟨fa, fq, ta, tq, bs, false⟩) (Fresh w8.heap.size), PhR w8.heap.size A l (⟨fa, fq, ta, tq, bs, false⟩) (Fresh w8.heap.size), Is (.pointer (some ⟨b, 0, none⟩)), Is (.pointer (some ⟨b, 1, none⟩)), Tru] : List (Value → World → Prop)), Keeps φ := fun φ h => (HKB φ h).keeps
        have HNE : ∀ j φ, ([Is (.pointer (some ⟨b, 0, none⟩)), Is (.pointer (some ⟨b, 0, none⟩)), Is (.pointer (some ⟨b, 0, none⟩)), Is (.pointer (some ⟨b, 1, none⟩)), Is (.slice A l.length c), Is (adV (fa, fq)), Is (adV (ta, tq)), Is (.slice Ai bs.length ci), PhA (⟨fa, fq, ta, tq, bs, false⟩) (Fresh w8.heap.size), PhF (⟨fa, fq, ta, tq, bs, false⟩) (Fresh w8.heap.size), PhS w8.heap.size (⟨fa, fq, ta, tq, bs, false⟩) (Fresh w8.heap.size), PhR w8.heap.size A l (⟨fa, fq, ta, tq, bs, false⟩) (Fresh w8.heap.size), Is (.pointer (some ⟨b, 0, none⟩)), Is (.pointer (some ⟨b, 1, none⟩)), Tru] : List (Value → World → Prop))[j]? = some φ → j ≠ 11 → KpT (fun k => blk? A = some k) φ := by
          have i1 : ∀ x, KpT (fun k => blk? A = some k) (Is x) := fun x => kpT_is _ x
          have iPhA := KpT.mono (T' := fun k => blk? A = some k) (kpT_PhA (f := ⟨fa, fq, ta, tq, bs, false⟩) HG.out) (fun k hk => Or.inr hk)
          have iPhF := KpT.mono (T' := fun k => blk? A = some k) (kpT_PhF (f := ⟨fa, fq, ta, tq, bs, false⟩) HG.out) (fun k hk => Or.inr hk)
          have iPhS := KpT.mono (T' := fun k => blk? A = some k) (kpT_PhS (f := ⟨fa, fq, ta, tq, bs, false⟩) HG.out HBS.out HAB.out) (fun k hk => Or.inr hk)
          intro j φ hj hne
          match j, hj, hne with
          | 0, hj, hne => cases hj; exact i1 _
          | 1, hj, hne => cases hj; exact i1 _
          | 2, hj, hne => cases hj; exact i1 _
          | 3, hj, hne => cases hj; exact i1 _
          | 4, hj, hne => cases hj; exact i1 _
          | 5, hj, hne => cases hj; exact i1 _
          | 6, hj, hne => cases hj; exact i1 _
          | 7, hj, hne => cases hj; exact i1 _
          | 8, hj, hne => cases hj; exact iPhA
          | 9, hj, hne => cases hj; exact iPhF
          | 10, hj, hne => cases hj; exact iPhS
          | 11, hj, hne => exact absurd rfl hne
          | 12, hj, hne => cases hj; exact i1 _
          | 13, hj, hne => cases hj; exact i1 _
          | 14, hj, hne => cases hj; exact kpT_tru _
        refine staged_lit (by kernel_rfl) (facts [Is (.pointer (some ⟨b, 0, none⟩)), Is (.pointer (some ⟨b, 0, none⟩)), Is (.pointer (some ⟨b, 0, none⟩)), Is (.pointer (some ⟨b, 1, none⟩)), Is (.slice A l.length c), Is (adV (fa, fq)), Is (adV (ta, tq)), Is (.slice Ai bs.length ci), PhA (⟨fa, fq, ta, tq, bs, false⟩) (Fresh w8.heap.size), PhF (⟨fa, fq, ta, tq, bs, false⟩) (Fresh w8.heap.size), PhS w8.heap.size (⟨fa, fq, ta, tq, bs, false⟩) (Fresh w8.heap.size), PhR w8.heap.size A l (⟨fa, fq, ta, tq, bs, false⟩) (Fresh w8.heap.size), Is (.pointer (some ⟨b, 0, none⟩)), Is (.pointer (some ⟨b, 1, none⟩)), Tru]) (Stg [11, 14] (WApp b 61 (netBlk m h) A l (⟨fa, fq, ta, tq, bs, false⟩) (Fresh w8.heap.size) w8)) 59 rfl (by decide +kernel) (by decide +kernel) (Stg.start (Up.drew w8)) ?_ ?_
        · refine ⟨?_, ?_, ?_, ?_, ?_, ?_, ?_, ?_, ?_, ?_, ?_, ?_, ?_, ?_, ?_, trivial⟩
          · refine opS_same rfl rfl fun L ac w1 hJ hl hc ho hd => ?_
            have s0 : ac.eval (.tmp 0) = .pointer (some ⟨b, 0, none⟩) := ho 0 rfl
            exact ⟨_, x_move (.tmp 0) rfl s0, rfl⟩
          · refine opS_same rfl rfl fun L ac w1 hJ hl hc ho hd => ?_
            have s0 : ac.eval (.tmp 0) = .pointer (some ⟨b, 0, none⟩) := ho 0 rfl
            exact ⟨_, x_move (.tmp 0) rfl s0, rfl⟩
          · refine opS_same rfl rfl fun L ac w1 hJ hl hc ho hd => ?_
            have d1 : ac.eval (.tmp 46) = .pointer (some ⟨b, 0, none⟩) := hd 1 _ _ rfl rfl rfl
            exact ⟨_, x_nil (.tmp 46) rfl d1, rfl⟩
          · refine opS_same rfl rfl fun L ac w1 hJ hl hc ho hd => ?_
            have d2 : ac.eval (.tmp 47) = .pointer (some ⟨b, 0, none⟩) := hd 2 _ _ rfl rfl rfl
            exact ⟨_, x_field 61 (.tmp 47) 1 rfl d2 (fld611 _ _ _), rfl⟩
          · refine opS_same rfl rfl fun L ac w1 hJ hl hc ho hd => ?_
            have d3 : ac.eval (.tmp 48) = .pointer (some ⟨b, 1, none⟩) := hd 3 _ _ rfl rfl rfl
            have hW : Up w8 w1 := hJ.first (reach_not hc (n := 40) (k := 11) (by kernel_rfl) hl)
            exact ⟨_, x_load 29 (.tmp 48) rfl d3 (run_load1 agg29 (cell_up HCB.out hW)), rfl⟩
          · refine opS_same rfl rfl fun L ac w1 hJ hl hc ho hd => ?_
            have s5 : ac.eval (.tmp 5) = .pointer (some ⟨fb, 0, none⟩) := ho 5 rfl
            have hW : Up w8 w1 := hJ.first (reach_not hc (n := 40) (k := 11) (by kernel_rfl) hl)
            exact ⟨_, x_load 37 (.tmp 5) rfl s5 (run_load37 (cell_up HBX5.out.1 hW) (cell_up HBX5.out.2 hW)), rfl⟩
          · refine opS_same rfl rfl fun L ac w1 hJ hl hc ho hd => ?_
            have s6 : ac.eval (.tmp 6) = .pointer (some ⟨tb, 0, none⟩) := ho 6 rfl
            have hW : Up w8 w1 := hJ.first (reach_not hc (n := 40) (k := 11) (by kernel_rfl) hl)
            exact ⟨_, x_load 37 (.tmp 6) rfl s6 (run_load37 (cell_up HBX6.out.1 hW) (cell_up HBX6.out.2 hW)), rfl⟩
          · refine opS_same rfl rfl fun L ac w1 hJ hl hc ho hd => ?_
            have s3 : ac.eval (.tmp 3) = .slice Ai bs.length ci := ho 3 rfl
            exact ⟨_, x_move (.tmp 3) rfl s3, rfl⟩
          · refine opS_callUp rfl rfl (fun k w w' => wApp_up HG.out) (facts_keep HK) fun L ac w1 hJ hl hc ho hd => ?_
            have d7 : ac.eval (.tmp 52) = .slice Ai bs.length ci := hd 7 _ _ rfl rfl rfl
            have hW : Up w8 w1 := hJ.first (reach_not hc (n := 40) (k := 11) (by kernel_rfl) hl)
            refine ⟨30, _, x_fcall 30 [.tmp 52] _ rfl (by kernel_rfl), ?_⟩
            simp only [List.map_cons, List.map_nil, d7]
            refine (clone_ok _ _ _ _ w1 (HIN.out.up hW) (by have := HLN.out; omega)).mono fun e w2 ⟨A', c', he, h1, h2⟩ => ⟨_, he, h2, (show PhA (⟨fa, fq, ta, tq, bs, false⟩) (Fresh w8.heap.size) _ w2 from ⟨⟨⟨fa, fq, ta, tq, bs, false⟩, A', c'⟩, rfl, OwnI.mono h1 hW.size, rfl⟩)⟩
          · refine opS_same rfl rfl fun L ac w1 hJ hl hc ho hd => ?_
            have d5 : ac.eval (.tmp 50) = adV (fa, fq) := hd 5 _ _ rfl rfl rfl
            have d6 : ac.eval (.tmp 51) = adV (ta, tq) := hd 6 _ _ rfl rfl rfl
            have d8 := hd 8 _ _ rfl rfl rfl
            obtain ⟨y, hy, hg, ey⟩ := d8
            have ey2 : ac.eval (.tmp 53) = _ := ey
            refine ⟨_, x_build 46 _ rfl (by simp only [List.map_toArray, List.map_cons, List.map_nil, d5, d6, ey2]; exact build_frame _ _ _ _ _ _), ⟨y, hy, hg, ?_⟩⟩
            obtain ⟨yf, yA, yc⟩ := y
            simp only at hy
            subst hy
            rfl
          · refine opS_grow rfl rfl (fun k w w' => wApp_up HG.out) (facts_keep HK) fun L ac w1 hJ hl hc ho hd => ?_
            have d9 := hd 9 _ _ rfl rfl rfl
            have hW : Up w8 w1 := hJ.first (reach_not hc (n := 40) (k := 11) (by kernel_rfl) hl)
            obtain ⟨y, hy, hg, ey⟩ := d9
            have ey2 : ac.eval (.tmp 54) = _ := ey
            refine fine_run (.slice (some ⟨w1.heap.size, 0, none⟩) 1 1) (w1.alloc (.cells (frc y).toArray 46)) (x_bslice 29 1 _ rfl (by simp only [List.map_toArray, List.map_cons, List.map_nil, ey2]; exact bslice_run y w1)) (up_alloc _ _) ⟨w1.heap.size, y, hy, HG.out.keep _ _ _ hg ((up_alloc w1 _).out _), rfl, hW.size, new_at _ _⟩
          · refine opS_writeV (j := 0) rfl (by decide) rfl (fun _ _ h => absurd h (by omega)) fun ac w1 hW ho hd => ?_
            have d4 : ac.eval (.tmp 49) = .slice A l.length c := hd 4 _ _ rfl rfl rfl
            have d10 := hd 10 _ _ rfl rfl rfl
            obtain ⟨u, w2, hr, ho2, hu⟩ := app_run 29 HL.out HROW.out HG.out (show Up w8 w1 from hW) d10
            refine ⟨u, w2, x_append (.tmp 49) (.tmp 55) 29 29 rfl d4 rfl hr, (show Out _ w8 w1 from (show Up w8 w1 from hW).out _).trans ho2 (Sub.refl _ _), hu, fun j x hj hx => facts_ne HNE j x w1 w2 hj hx ho2⟩
          · refine opS_same rfl rfl fun L ac w1 hJ hl hc ho hd => ?_
            have d0 : ac.eval (.tmp 45) = .pointer (some ⟨b, 0, none⟩) := hd 0 _ _ rfl rfl rfl
            exact ⟨_, x_nil (.tmp 45) rfl d0, rfl⟩
          · refine opS_same rfl rfl fun L ac w1 hJ hl hc ho hd => ?_
            have d12 : ac.eval (.tmp 57) = .pointer (some ⟨b, 0, none⟩) := hd 12 _ _ rfl rfl rfl
            exact ⟨_, x_field 61 (.tmp 57) 1 rfl d12 (fld611 _ _ _), rfl⟩
          · refine opS_write (j := 1) rfl rfl (by decide) rfl (fun y hy _ => by cases hy; rfl) fun ac w1 hW ho hd => ?_
            have d13 : ac.eval (.tmp 58) = .pointer (some ⟨b, 1, none⟩) := hd 13 _ _ rfl rfl rfl
            have d11 := hd 11 _ _ rfl rfl rfl
            obtain ⟨w2, hr, hw2, ho2⟩ := store_run (cs := (netBlk m h)) (A := A) (n := l.length) (c := c) HBK.out (fun _ _ _ => HSET.out _ _ _) (by simp [netBlk]) HBA.out HG.out (show Out _ w8 w1 from hW) d11
            exact ⟨w2, x_store 29 (.tmp 58) (.tmp 56) rfl d13 rfl hr, hw2, fun _ => trivial, fun j x hx => facts_kp HKB j x w1 w2 hx ho2⟩
        · intro L a1 w7 hI hall
          obtain ⟨q, hq, hW⟩ := hI.done hall (by simp)
          obtain ⟨q, rfl⟩ : ∃ r, q = r + 2 := ⟨q - 2, by simp at hq; omega⟩
          have Z := Lib.hid (show WApp b 61 (netBlk m h) A l (⟨fa, fq, ta, tq, bs, false⟩) (Fresh w8.heap.size) w8 2 w7 from hW)
          clear hq hW q HKB HK HNE
          have l0 : a1.tmps.getD 0 undef = .pointer (some ⟨b, 0, none⟩) := hI.old 0 rfl
          have hde : a1.defers = [] := hI.defers
          have hal := act_lit a1 59 hI.size
          clear hI
          simp only [List.range, List.range.loop, List.map_cons, List.map_nil] at hal
          rw [l0, hde] at hal
          generalize a1.tmps.getD 1 undef = t1 at hal
          generalize a1.tmps.getD 2 undef = t2 at hal
          generalize a1.tmps.getD 3 undef = t3 at hal
          generalize a1.tmps.getD 4 undef = t4 at hal
          generalize a1.tmps.getD 5 undef = t5 at hal
          generalize a1.tmps.getD 6 undef = t6 at hal
          generalize a1.tmps.getD 7 undef = t7 at hal
          generalize a1.tmps.getD 8 undef = t8 at hal
          generalize a1.tmps.getD 9 undef = t9 at hal
          generalize a1.tmps.getD 10 undef = t10 at hal
          generalize a1.tmps.getD 11 undef = t11 at hal
          generalize a1.tmps.getD 12 undef = t12 at hal
          generalize a1.tmps.getD 13 undef = t13 at hal
          generalize a1.tmps.getD 14 undef = t14 at hal
          generalize a1.tmps.getD 15 undef = t15 at hal
          generalize a1.tmps.getD 16 undef = t16 at hal
          generalize a1.tmps.getD 17 undef = t17 at hal
          generalize a1.tmps.getD 18 undef = t18 at hal
          generalize a1.tmps.getD 19 undef = t19 at hal
          generalize a1.tmps.getD 20 undef = t20 at hal
          generalize a1.tmps.getD 21 undef = t21 at hal
          generalize a1.tmps.getD 22 undef = t22 at hal
          generalize a1.tmps.getD 23 undef = t23 at hal
          generalize a1.tmps.getD 24 undef = t24 at hal
          generalize a1.tmps.getD 25 undef = t25 at hal
          generalize a1.tmps.getD 26 undef = t26 at hal
          generalize a1.tmps.getD 27 undef = t27 at hal
          generalize a1.tmps.getD 28 undef = t28 at hal
          generalize a1.tmps.getD 29 undef = t29 at hal
          generalize a1.tmps.getD 30 undef = t30 at hal
          generalize a1.tmps.getD 31 undef = t31 at hal
          generalize a1.tmps.getD 32 undef = t32 at hal
          generalize a1.tmps.getD 33 undef = t33 at hal
          generalize a1.tmps.getD 34 undef = t34 at hal
          generalize a1.tmps.getD 35 undef = t35 at hal
          generalize a1.tmps.getD 36 undef = t36 at hal
          generalize a1.tmps.getD 37 undef = t37 at hal
          generalize a1.tmps.getD 38 undef = t38 at hal
          generalize a1.tmps.getD 39 undef = t39 at hal
          generalize a1.tmps.getD 40 undef = t40 at hal
          generalize a1.tmps.getD 41 undef = t41 at hal
          generalize a1.tmps.getD 42 undef = t42 at hal
          generalize a1.tmps.getD 43 undef = t43 at hal
          generalize a1.tmps.getD 44 undef = t44 at hal
          generalize a1.tmps.getD 45 undef = t45 at hal
          generalize a1.tmps.getD 46 undef = t46 at hal
          generalize a1.tmps.getD 47 undef = t47 at hal
          generalize a1.tmps.getD 48 undef = t48 at hal
          generalize a1.tmps.getD 49 undef = t49 at hal
          generalize a1.tmps.getD 50 undef = t50 at hal
          generalize a1.tmps.getD 51 undef = t51 at hal
          generalize a1.tmps.getD 52 undef = t52 at hal
          generalize a1.tmps.getD 53 undef = t53 at hal
          generalize a1.tmps.getD 54 undef = t54 at hal
          generalize a1.tmps.getD 55 undef = t55 at hal
          generalize a1.tmps.getD 56 undef = t56 at hal
          generalize a1.tmps.getD 57 undef = t57 at hal
          generalize a1.tmps.getD 58 undef = t58 at hal
          clear l0 hde
          subst hal
          go_wp2_with fail
          go_ret
          exact ⟨rfl, w8, HU.out, by rw [E.out]; exact Z.out⟩
      · have E := Lib.hid (show comeB (dn fa ta fq) l.length = false from decide_eq_false (fun hh => hfull (by rw [← HLN0.out]; exact hh.2)))
        have h1024 : 1024 ≤ n := by omega
        clear hd hd' hfull
        go_wp2_with fail
        refine (full_t b n c A w9 hcb h1024).mono ?_
        rintro e w8 ⟨rfl, rfl⟩
        go_wp2_with fail
        go_ret
        exact ⟨rfl, w8, HU.out, by rw [E.out]; rfl⟩
end Go.Proofs.Ytfbjhialjepodaa
