import Derived.Test.YthncpkjnalmpkaaMgR
import Derived.Test.YthncpkjnalmpkaaStaged
import Derived.Maps.RangeRun
namespace Go.Proofs.Ythncpkjnalmpkaa
open Go Go.RowKit Mg
set_option linter.unusedVariables false
set_option linter.unusedSimpArgs false
/-! The map of flags. -/
abbrev EnF := Nat × Nat
def bitF (i : Nat) : Int := match i with
  | 0 => 128
  | 1 => 64
  | 2 => 32
  | _ => 16
theorem bitF_inj {i j : Nat} (hi : i < 4) (hj : j < 4) (h : bitF i = bitF j) : i = j := by
  have : ∀ i : Fin 4, ∀ j : Fin 4, bitF i = bitF j → i = j := by decide
  exact congrArg Fin.val (this ⟨i, hi⟩ ⟨j, hj⟩ h)
def enF (g : Nat) (x : EnF) : MapEntry := { key := .int .u8 (bitF x.1), val := .pointer (some ⟨g, x.1, none⟩), born := x.2 }
def ensF (g : Nat) (E : List EnF) : Array MapEntry := (E.map (enF g)).toArray
theorem toList_ensF (g : Nat) (E : List EnF) : (ensF g E).toList = E.map (enF g) := by simp [ensF]
structure FlE (E : List EnF) (clock : Nat) : Prop where
  nk : (E.map (·.1)).Nodup
  nb : (E.map (·.2)).Nodup
  lt : ∀ x ∈ E, x.2 < clock
  i : ∀ x ∈ E, x.1 < 4
def MapF (w : World) (m g : Nat) (E : List EnF) : Prop := ∃ clock, w.heap[m]? = some (.map (ensF g E) clock) ∧ FlE E clock
theorem MapF.lt {w : World} {m g : Nat} {E : List EnF} (h : MapF w m g E) : m < w.heap.size := by
  obtain ⟨c, h1, _⟩ := h
  exact lt_of_blk h1
theorem findNow_f (g : Nat) (k : Int) : ∀ (E : List EnF) (i : Nat), (∀ x ∈ E, bitF x.1 ≠ k) → Instr.findNow (.int .u8) (.int .u8 k) (E.map (enF g)) i = some none := by
  intro E
  induction E with
  | nil => intro i _; rfl
  | cons x E ih =>
    intro i h
    rw [List.map_cons]
    unfold Instr.findNow
    have e' : (k == bitF x.1) = false := by simpa using fun e => h x (by simp) e.symm
    simp only [enF, Instr.sameNow, if_true, e']
    exact ih _ fun y hy => h y (by simp [hy])
def setBl (w : World) (m : Nat) (o : Obj) : World := { w with heap := w.heap.setIfInBounds m o }
theorem setBl_out (w : World) (m : Nat) (o : Obj) : Out (fun k => k = m) w (setBl w m o) := ⟨rfl, rfl, rfl, by simp [setBl], fun k hk hn => by
  unfold setBl; simp [Array.getElem?_setIfInBounds_ne (fun e => hn e.symm)]⟩
theorem setBl_at {w : World} {m : Nat} (o : Obj) (h : m < w.heap.size) : (setBl w m o).heap[m]? = some o := by unfold setBl; simp [h]
section
variable {P : Program} {T K V : TypeId}
theorem run_updF (hT : P.underlying T = some (.map K V)) (hK : P.underlying K = some (.int .u8)) {w : World} {m g : Nat} {E : List EnF} (h : MapF w m g E) {i : Nat} (hi : i < 4) (hn : i ∉ E.map (·.1)) :
    ∃ o b, (Instr.mapUpdate T (.map (some m)) (.int .u8 (bitF i)) (.pointer (some ⟨g, i, none⟩))).run P w = .ok () (setBl w m o) ∧ MapF (setBl w m o) m g (E ++ [(i, b)]) := by
  have hlt := h.lt
  obtain ⟨c, hb, h1, h2, h3, h4⟩ := h
  have hk : ∀ x ∈ E, bitF x.1 ≠ bitF i := fun x hx e => hn (List.mem_map.2 ⟨x, hx, bitF_inj (h4 x hx) hi e⟩)
  have hf : (Instr.findKey K (.int .u8 (bitF i)) (ensF g E).toList).run P w = .ok none w := by
    rw [toList_ensF]
    exact MapKept.run_findKey hK (findNow_f g _ E 0 hk)
  have hck : (Instr.checkKey false 10000 K (.int .u8 (bitF i))).run P w = .ok () w := by
    unfold Instr.checkKey
    simp [Result.andThen, run_underlying hK]
  refine ⟨.map (ensF g (E ++ [(i, c)])) (c + 1), c, ?_, c + 1, setBl_at _ hlt, ?_, ?_, ?_, ?_⟩
  · unfold Instr.mapUpdate
    simp only [Sem.run_bind, run_underlying hT, Result.andThen, MapKept.run_getObj_map hb, hck, hf]
    simp only [MapKept.run_setObj_map _ hb]
    unfold setBl ensF
    simp [enF]
  · rw [List.map_append, List.nodup_append]
    refine ⟨h1, by simp, fun a ha b hb e => ?_⟩
    simp only [List.map_cons, List.map_nil, List.mem_singleton] at hb
    exact hn (hb ▸ e ▸ ha)
  · rw [List.map_append, List.nodup_append]
    refine ⟨h2, by simp, fun a ha b hb e => ?_⟩
    simp only [List.map_cons, List.map_nil, List.mem_singleton] at hb
    obtain ⟨x, hx, rfl⟩ := List.mem_map.1 ha
    have := h3 x hx
    omega
  · intro x hx
    rcases List.mem_append.1 hx with hx | hx
    · have := h3 x hx; omega
    · simp at hx; subst hx; simp
  · intro x hx
    rcases List.mem_append.1 hx with hx | hx
    · exact h4 x hx
    · simp at hx; subst hx; exact hi
end
/-- The region's world, by what has been carried out. -/
def JF (w0 : World) (M g : Nat) (L : Nat → Bool) (x : World) : Prop := Up w0 x ∧ (L 0 = true → ∃ E, MapF x M g E ∧ ∀ i, i < 4 → (i ∈ E.map (·.1) ↔ L (4 * i + 4) = true)) ∧ (L 0 = false → x.heap.size = M)
theorem JF.same {w0 x : World} {M g i : Nat} {L : Nat → Bool} (h : JF w0 M g L x) (hi : i % 4 ≠ 0) : JF w0 M g (upd L i) x := by
  have e : ∀ k, upd L i (4 * k) = L (4 * k) := fun k => by unfold upd; rw [if_neg (by omega)]
  have e0 := e 0
  refine ⟨h.1, fun h0 => ?_, fun h0 => h.2.2 (by rw [← e0]; exact h0)⟩
  obtain ⟨E, h1, h2⟩ := h.2.1 (by rw [← e0]; exact h0)
  exact ⟨E, h1, fun j hj => by rw [h2 j hj, show 4 * j + 4 = 4 * (j + 1) by omega, e]⟩
theorem opJ_same {ops : Array Oper} {Φ : Nat → Value → World → Prop} {a0 : Act} {w0 : World} {M g i : Nat} {o : Oper} (hg : o.guard = none) (hi : i % 4 ≠ 0)
    (h : ∀ (a : Act) (w : World), (∀ t, oldB ops t = true → a.tmps.getD t undef = a0.tmps.getD t undef) →
      (∀ (j : Nat) (oj : Oper) (d : Tmp), (o.after.toList.any fun e => e.on == j && Region.binds .any e) = true → ops[j]? = some oj → oj.dst = some d → Φ j (a.tmps.getD d undef) w) → ∃ v, (execOp a.eval o).run Try.prog w = .ok (.value v) w ∧ Φ i v w) : OpS Try.prog ops Φ (JF w0 M g) a0 i o := by
  intro L a w hJ hl hc _ _ ho hd
  rw [if_pos (by simp [Region.wanted, hg])]
  obtain ⟨v, hr, hv⟩ := h a w ho hd
  unfold Oper.wp
  rw [hr]
  exact ⟨⟨v, rfl, hv⟩, hJ.same hi, fun _ _ _ h => h⟩
theorem opJ_ins {ops : Array Oper} {l : List (Value → World → Prop)} (HK : ∀ φ ∈ l, Free φ) {a0 : Act} {w0 : World} {M g i : Nat} (hM : w0.heap.size = M) {o : Oper} {j : Nat} (hj : j < 4) (hi : i = 4 * j + 4) (hg : o.guard = none) (hdst : o.dst = none) (x y : Operand) (ho : o.op = .insert 84 x (.const (.int .u8 (bitF j))) y) (h0 : (o.after.toList.any fun e => e.on == 0 && Region.binds .any e) = true) (hf : ∀ v w, facts l i v w)
    (h : ∀ (a : Act) (w : World), (∀ (j : Nat) (oj : Oper) (d : Tmp), (o.after.toList.any fun e => e.on == j && Region.binds .any e) = true → ops[j]? = some oj → oj.dst = some d → facts l j (a.tmps.getD d undef) w) → a.eval x = .map (some M) ∧ a.eval y = .pointer (some ⟨g, j, none⟩)) : OpS Try.prog ops (facts l) (JF w0 M g) a0 i o := by
  intro L a w hJ hl hc hall _ _ hd
  rw [if_pos (by simp [Region.wanted, hg])]
  have hL0 : L 0 = true := by
    rw [List.any_eq_true] at h0
    obtain ⟨e, he, h2⟩ := h0
    simp only [Bool.and_eq_true, beq_iff_eq] at h2
    have := hall e (by simpa using he) h2.2
    rwa [h2.1] at this
  obtain ⟨E, hE, hin⟩ := hJ.2.1 hL0
  obtain ⟨h1, h2⟩ := h a w hd
  have hnew : j ∉ E.map (·.1) := fun hm => by rw [hin j hj, ← hi, hl] at hm; cases hm
  obtain ⟨ob, b, hr, hE'⟩ := run_updF (P := Try.prog) (T := 84) (K := 5) (V := 86) (by kernel_rfl) (by kernel_rfl) hE hj hnew
  have hrun : (execOp a.eval o).run Try.prog w = .ok .skip (setBl w M ob) := by
    have h3 : a.eval (.const (.int .u8 (bitF j))) = .int .u8 (bitF j) := rfl
    simp [execOp, ho, h1, h2, h3, hr, Result.andThen]
  unfold Oper.wp
  rw [hrun]
  refine ⟨⟨undef, rfl, hf _ _⟩, ⟨?_, fun _ => ⟨E ++ [(j, b)], hE', fun q hq => ?_⟩, fun he => ?_⟩, fun q x _ hx => facts_free HK _ _ hx⟩
  · exact Below.out hJ.1 (setBl_out w M ob) (fun k hk => by omega) hJ.1.size
  · rw [List.map_append, List.mem_append, hin q hq]
    simp only [List.map_cons, List.map_nil, List.mem_singleton, upd]
    by_cases e : q = j
    · subst e; rw [← hi]; simp
    · rw [if_neg (by omega)]; simp [e]
  · unfold upd at he
    rw [if_neg (by omega)] at he
    rw [hL0] at he; cases he
theorem opJ_make {ops : Array Oper} {l : List (Value → World → Prop)} (HK : ∀ φ ∈ l, Free φ) {a0 : Act} {w0 : World} {M g : Nat} (hM : w0.heap.size = M) {o : Oper} (hg : o.guard = none) (ho : o.op = .makeMap 84 none) (hr4 : ∀ j, j < 4 → reachB ops 1 0 (4 * j + 4) = true) (hf : ∀ w, facts l 0 (.map (some M)) w) : OpS Try.prog ops (facts l) (JF w0 M g) a0 0 o := by
  intro L a w hJ hl hc _ _ _ _
  rw [if_pos (by simp [Region.wanted, hg])]
  have hs := hJ.2.2 hl
  have hrun : (execOp a.eval o).run Try.prog w = .ok (.value (.map (some M))) (w.alloc (.map #[] 0)) := by
    rw [← hs]
    simp [execOp, ho, Instr.makeMap, Result.andThen]
  unfold Oper.wp
  rw [hrun]
  refine ⟨⟨_, rfl, hf _⟩, ⟨hJ.1.trans (up_alloc w _), fun _ => ⟨[], ⟨0, by rw [← hs]; exact new_at w _, by simp, by simp, by simp, by simp⟩, fun q hq => ?_⟩, fun he => ?_⟩, fun q x _ hx => facts_free HK _ _ hx⟩
  · have h1 := reach_not hc (hr4 q hq) hl
    unfold upd
    rw [if_neg (by omega), h1]
    simp
  · unfold upd at he; simp at he
theorem fld25_0 (g : Nat) (w : World) : (Instr.fieldAt 25 (.pointer (some ⟨g, 0, none⟩)) 0).run Try.prog w = .ok (.pointer (some ⟨g, 0, none⟩)) w := by kernel_rfl
theorem fld25_1 (g : Nat) (w : World) : (Instr.fieldAt 25 (.pointer (some ⟨g, 0, none⟩)) 1).run Try.prog w = .ok (.pointer (some ⟨g, 1, none⟩)) w := by kernel_rfl
theorem fld25_2 (g : Nat) (w : World) : (Instr.fieldAt 25 (.pointer (some ⟨g, 0, none⟩)) 2).run Try.prog w = .ok (.pointer (some ⟨g, 2, none⟩)) w := by kernel_rfl
theorem fld25_3 (g : Nat) (w : World) : (Instr.fieldAt 25 (.pointer (some ⟨g, 0, none⟩)) 3).run Try.prog w = .ok (.pointer (some ⟨g, 3, none⟩)) w := by kernel_rfl
def FlPost (g : Nat) (w : World) (e : Ending) (w' : World) : Prop := ∃ E, e = .returned (.map (some w.heap.size)) ∧ Hid (MapF w' w.heap.size g E) ∧ Hid (∀ i, i < 4 → i ∈ E.map (·.1)) ∧ Hid (Up w w')
set_option maxRecDepth 100000 in
set_option maxHeartbeats 4000000 in
theorem mflags_any (g : Nat) (w : World) : Calls Try.prog 56 #[.pointer (some ⟨g, 0, none⟩)] w (FlPost g w) := by
  go_enter Try.func56, Try.ntmps56
  go_upto_region 1 with (fail)
  obtain ⟨M, hM⟩ : ∃ M, w.heap.size = M := ⟨_, rfl⟩
  have HK : ∀ φ ∈ ([Is (.map (some M)), Is (.pointer (some ⟨g, 0, none⟩)), Is (.pointer (some ⟨g, 0, none⟩)), Is (.pointer (some ⟨g, 0, none⟩)), Tru, Is (.pointer (some ⟨g, 0, none⟩)), Is (.pointer (some ⟨g, 0, none⟩)), Is (.pointer (some ⟨g, 1, none⟩)), Tru, Is (.pointer (some ⟨g, 0, none⟩)), Is (.pointer (some ⟨g, 0, none⟩)), Is (.pointer (some ⟨g, 2, none⟩)), Tru, Is (.pointer (some ⟨g, 0, none⟩)), Is (.pointer (some ⟨g, 0, none⟩)), Is (.pointer (some ⟨g, 3, none⟩)), Tru, Is (.map (some M)), Is (.map (some M))] : List (Value → World → Prop)), Free φ := by
    simp [free_is, free_tru]
  refine staged_lit (by kernel_rfl) (facts [Is (.map (some M)), Is (.pointer (some ⟨g, 0, none⟩)), Is (.pointer (some ⟨g, 0, none⟩)), Is (.pointer (some ⟨g, 0, none⟩)), Tru, Is (.pointer (some ⟨g, 0, none⟩)), Is (.pointer (some ⟨g, 0, none⟩)), Is (.pointer (some ⟨g, 1, none⟩)), Tru, Is (.pointer (some ⟨g, 0, none⟩)), Is (.pointer (some ⟨g, 0, none⟩)), Is (.pointer (some ⟨g, 2, none⟩)), Tru, Is (.pointer (some ⟨g, 0, none⟩)), Is (.pointer (some ⟨g, 0, none⟩)), Is (.pointer (some ⟨g, 3, none⟩)), Tru, Is (.map (some M)), Is (.map (some M))]) (JF w M g) 17 rfl (by decide +kernel) (by decide +kernel) ⟨Up.drew w, (fun h => by cases h), fun _ => hM⟩ ?_ ?_
  · refine ⟨?_, ?_, ?_, ?_, ?_, ?_, ?_, ?_, ?_, ?_, ?_, ?_, ?_, ?_, ?_, ?_, ?_, ?_, ?_, trivial⟩
    · exact opJ_make HK hM rfl rfl (fun j hj => by have : j = 0 ∨ j = 1 ∨ j = 2 ∨ j = 3 := by omega
                                                   rcases this with rfl | rfl | rfl | rfl <;> decide +kernel) (fun _ => rfl)
    · refine opJ_same rfl (by decide) fun ac w1 ho hd => ?_
      have s0 : ac.eval (.tmp 0) = .pointer (some ⟨g, 0, none⟩) := ho 0 rfl
      exact ⟨_, x_move (.tmp 0) rfl s0, rfl⟩
    · refine opJ_same rfl (by decide) fun ac w1 ho hd => ?_
      have d : ac.eval (.tmp 4) = .pointer (some ⟨g, 0, none⟩) := hd 1 _ _ rfl rfl rfl
      exact ⟨_, x_nil (.tmp 4) rfl d, rfl⟩
    · refine opJ_same rfl (by decide) fun ac w1 ho hd => ?_
      have d : ac.eval (.tmp 5) = .pointer (some ⟨g, 0, none⟩) := hd 2 _ _ rfl rfl rfl
      exact ⟨_, x_field 25 (.tmp 5) 0 rfl d (fld25_0 g w1), rfl⟩
    · exact opJ_ins (j := 0) HK hM (by omega) rfl rfl rfl (.tmp 3) (.tmp 6) rfl (by decide) (fun _ _ => trivial) fun ac w1 hd => ⟨hd 0 _ _ rfl rfl rfl, hd 3 _ _ rfl rfl rfl⟩
    · refine opJ_same rfl (by decide) fun ac w1 ho hd => ?_
      have s0 : ac.eval (.tmp 0) = .pointer (some ⟨g, 0, none⟩) := ho 0 rfl
      exact ⟨_, x_move (.tmp 0) rfl s0, rfl⟩
    · refine opJ_same rfl (by decide) fun ac w1 ho hd => ?_
      have d : ac.eval (.tmp 7) = .pointer (some ⟨g, 0, none⟩) := hd 5 _ _ rfl rfl rfl
      exact ⟨_, x_nil (.tmp 7) rfl d, rfl⟩
    · refine opJ_same rfl (by decide) fun ac w1 ho hd => ?_
      have d : ac.eval (.tmp 8) = .pointer (some ⟨g, 0, none⟩) := hd 6 _ _ rfl rfl rfl
      exact ⟨_, x_field 25 (.tmp 8) 1 rfl d (fld25_1 g w1), rfl⟩
    · exact opJ_ins (j := 1) HK hM (by omega) rfl rfl rfl (.tmp 3) (.tmp 9) rfl (by decide) (fun _ _ => trivial) fun ac w1 hd => ⟨hd 0 _ _ rfl rfl rfl, hd 7 _ _ rfl rfl rfl⟩
    · refine opJ_same rfl (by decide) fun ac w1 ho hd => ?_
      have s0 : ac.eval (.tmp 0) = .pointer (some ⟨g, 0, none⟩) := ho 0 rfl
      exact ⟨_, x_move (.tmp 0) rfl s0, rfl⟩
    · refine opJ_same rfl (by decide) fun ac w1 ho hd => ?_
      have d : ac.eval (.tmp 10) = .pointer (some ⟨g, 0, none⟩) := hd 9 _ _ rfl rfl rfl
      exact ⟨_, x_nil (.tmp 10) rfl d, rfl⟩
    · refine opJ_same rfl (by decide) fun ac w1 ho hd => ?_
      have d : ac.eval (.tmp 11) = .pointer (some ⟨g, 0, none⟩) := hd 10 _ _ rfl rfl rfl
      exact ⟨_, x_field 25 (.tmp 11) 2 rfl d (fld25_2 g w1), rfl⟩
    · exact opJ_ins (j := 2) HK hM (by omega) rfl rfl rfl (.tmp 3) (.tmp 12) rfl (by decide) (fun _ _ => trivial) fun ac w1 hd => ⟨hd 0 _ _ rfl rfl rfl, hd 11 _ _ rfl rfl rfl⟩
    · refine opJ_same rfl (by decide) fun ac w1 ho hd => ?_
      have s0 : ac.eval (.tmp 0) = .pointer (some ⟨g, 0, none⟩) := ho 0 rfl
      exact ⟨_, x_move (.tmp 0) rfl s0, rfl⟩
    · refine opJ_same rfl (by decide) fun ac w1 ho hd => ?_
      have d : ac.eval (.tmp 13) = .pointer (some ⟨g, 0, none⟩) := hd 13 _ _ rfl rfl rfl
      exact ⟨_, x_nil (.tmp 13) rfl d, rfl⟩
    · refine opJ_same rfl (by decide) fun ac w1 ho hd => ?_
      have d : ac.eval (.tmp 14) = .pointer (some ⟨g, 0, none⟩) := hd 14 _ _ rfl rfl rfl
      exact ⟨_, x_field 25 (.tmp 14) 3 rfl d (fld25_3 g w1), rfl⟩
    · exact opJ_ins (j := 3) HK hM (by omega) rfl rfl rfl (.tmp 3) (.tmp 15) rfl (by decide) (fun _ _ => trivial) fun ac w1 hd => ⟨hd 0 _ _ rfl rfl rfl, hd 15 _ _ rfl rfl rfl⟩
    · refine opJ_same rfl (by decide) fun ac w1 ho hd => ?_
      have d : ac.eval (.tmp 3) = .map (some M) := hd 0 _ _ rfl rfl rfl
      exact ⟨_, x_move (.tmp 3) rfl d, rfl⟩
    · refine opJ_same rfl (by decide) fun ac w1 ho hd => ?_
      have d : ac.eval (.tmp 16) = .map (some M) := hd 17 _ _ rfl rfl rfl
      exact ⟨_, x_assign (.tmp 16) rfl d, rfl⟩
  · intro L1 a1 w9 hI hall
    have hJ := hI.world
    obtain ⟨E, hE, hin⟩ := hJ.2.1 (hall 0 (by decide))
    have H1 := Lib.hid hE
    have H2 := Lib.hid (show ∀ i, i < 4 → i ∈ E.map (·.1) from fun i hi => (hin i hi).2 (hall _ (by show 4 * i + 4 < 19; omega)))
    have H3 := Lib.hid hJ.1
    clear hE hin hJ
    have l2 : a1.tmps.getD 2 undef = .map (some M) := hI.get hall (i := 18) rfl rfl
    have hde : a1.defers = [] := hI.defers
    have hal := act_lit a1 17 hI.size
    clear hI
    simp only [List.range, List.range.loop, List.map_cons, List.map_nil] at hal
    rw [l2, hde] at hal
    generalize a1.tmps.getD 0 undef = t0 at hal
    generalize a1.tmps.getD 1 undef = t1 at hal
    generalize a1.tmps.getD 3 undef = t3 at hal
    generalize a1.tmps.getD 4 undef = t4 at hal
    generalize a1.tmps.getD 5 undef = t5 at hal
    generalize a1.tmps.getD 6 undef = t6 at hal
    generalize a1.tmps.getD 7 undef = t7 at hal
    generalize a1.tmps.getD 8 undef = t8 at hal
    generalize a1.tmps.getD 9 undef = t9 at hal
    generalize a1.tmps.getD 10 undef = t10 at hal
    generalize a1.tmps.getD 11 undef = t11 at hal
    generalize a1.tmps.getD 12 undef = t12 at hal
    generalize a1.tmps.getD 13 undef = t13 at hal
    generalize a1.tmps.getD 14 undef = t14 at hal
    generalize a1.tmps.getD 15 undef = t15 at hal
    generalize a1.tmps.getD 16 undef = t16 at hal
    clear l2 hde
    subst hal
    go_wp2_with fail
    go_ret
    subst hM
    exact ⟨E, rfl, H1, H2, H3⟩
end Go.Proofs.Ythncpkjnalmpkaa
