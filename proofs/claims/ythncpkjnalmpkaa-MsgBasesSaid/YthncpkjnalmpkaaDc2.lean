import Derived.Test.YthncpkjnalmpkaaDc1
namespace Go.Proofs.Ythncpkjnalmpkaa
open Go Go.RowKit Dc
set_option linter.unusedVariables false
set_option linter.unusedSimpArgs false
/-! Where the first rule of an attribute is. -/
theorem run_eq54 (a b : Nm) (w : World) : (binOp .eql 73 (nmV a) (nmV b)).run Try.prog w = .ok (.bool (decide (a = b))) w := by
  obtain ⟨a1, a2⟩ := a
  obtain ⟨b1, b2⟩ := b
  by_cases h1 : a1 = b1 <;> by_cases h2 : a2 = b2 <;> simp [go_sem, nmV, h1, h2]
theorem grd_eq54 (a b : Nm) (x y : Operand) (w : World) : (eqGuard .eql 73 x y (nmV a) (nmV b)).run Try.prog w = .ok () w := by kernel_rfl
theorem run_loadRow {ty : TypeId} {w : World} {g : Nat} {t : TypeId} {cs : Array Value} {fr : Nat × Nat} {fs : Array Field} (hg : w.heap[g]? = some (.cells cs t fr)) (hu : Try.prog.underlying ty = some (.struct fs)) (hi : (Try.prog.info? ty).map (·.size) = some cs.size) :
    (Instr.loadAt ty (.pointer (some ⟨g, 0, none⟩))).run Try.prog w = .ok (.agg cs) w := by
  simp [Instr.loadAt, Instr.sureAddr, run_loadVar_row w g t ty cs fr _ hg hu rfl hi, Result.andThen]
def ruC (r : Ru) : Obj := .cells #[.int .u32 r.code, .int .u32 r.vendor, .int .i64 r.type, .bool r.must, .int .i64 r.least, .int .i64 r.most] 49
def nmC (n : Nm) : Obj := .cells #[.int .u32 n.1, .int .u32 n.2] 73
theorem load40 {w : World} {g : Nat} {r : Ru} (h : w.heap[g]? = some (ruC r)) : (Instr.loadAt 49 (.pointer (some ⟨g, 0, none⟩))).run Try.prog w = .ok (ruV r) w := run_loadRow h Try.underlying49 (by kernel_rfl)
theorem load54 {w : World} {g : Nat} {n : Nm} (h : w.heap[g]? = some (nmC n)) : (Instr.loadAt 73 (.pointer (some ⟨g, 0, none⟩))).run Try.prog w = .ok (nmV n) w := run_loadRow h Try.underlying73 (by kernel_rfl)
set_option maxRecDepth 100000 in
set_option maxHeartbeats 1000000 in
theorem hit_any (r : Ru) (n : Nm) (b : Nat) (w : World) (hb : w.heap[b]? = some (nmC n)) : Calls Try.prog 62 #[ruV r, .pointer (some ⟨b, 0, none⟩)] w fun e w' => e = .returned (.bool (decide (r.nm = n))) ∧ Up w w' := by
  have HB := Lib.hid (blk_up hb (up_alloc w (ruC r)))
  have HC := Lib.hid (new_at w (ruC r))
  have HU := Lib.hid (up_alloc w (ruC r))
  clear hb
  go_enter Try.func62, Try.ntmps62
  go_upto_region 1 with (fail)
  change Code.wp _ _ _ _ (w.alloc (ruC r))
  generalize w.alloc (ruC r) = wa at HC HU HB ⊢
  generalize w.heap.size = q at HC ⊢
  have HK : ∀ φ ∈ [Is (ruV r), Is (nmV r.nm), Is (nmV n), Is (.bool (decide (r.nm = n))), Is (.bool (decide (r.nm = n)))], Keeps φ := by
    simp [keeps_is]
  refine staged_lit (by kernel_rfl) (facts [Is (ruV r), Is (nmV r.nm), Is (nmV n), Is (.bool (decide (r.nm = n))), Is (.bool (decide (r.nm = n)))]) (Stg [] (fun _ x => Up wa x)) 8 rfl (by decide +kernel) (by decide +kernel) (Stg.start (Up.drew wa)) ?_ ?_
  · refine ⟨?_, ?_, ?_, ?_, ?_, trivial⟩
    · refine opS_same rfl rfl fun Lx ac w1 hJ hl hc ho hd => ?_
      have s2 : ac.eval (.tmp 2) = .pointer (some ⟨q, 0, none⟩) := ho 2 rfl
      obtain ⟨_, _, hU⟩ := hJ
      exact ⟨_, x_load 49 _ rfl s2 (load40 (blk_up HC.out hU)), rfl⟩
    · refine opS_callUp rfl rfl (fun k wx wy h hu => Up.trans h hu) (facts_keep HK) fun L ac wx hJ hl hc ho hd => ?_
      have d0 : ac.eval (.tmp 4) = ruV r := hd 0 _ _ rfl rfl rfl
      obtain ⟨_, _, hU⟩ := hJ
      refine ⟨48, _, x_fcall 48 [.tmp 4] _ rfl (by kernel_rfl), ?_⟩
      simp only [List.map_cons, List.map_nil, d0]
      exact (ofRule_any r _).mono fun e w2 ⟨he, hu⟩ => ⟨_, he, hu, rfl⟩
    · refine opS_same rfl rfl fun Lx ac w1 hJ hl hc ho hd => ?_
      have s1 : ac.eval (.tmp 1) = .pointer (some ⟨b, 0, none⟩) := ho 1 rfl
      obtain ⟨_, _, hU⟩ := hJ
      exact ⟨_, x_load 73 _ rfl s1 (load54 (blk_up HB.out hU)), rfl⟩
    · refine opS_same rfl rfl fun Lx ac w1 hJ hl hc ho hd => ?_
      have d1 : ac.eval (.tmp 5) = nmV r.nm := hd 1 _ _ rfl rfl rfl
      have d2 : ac.eval (.tmp 6) = nmV n := hd 2 _ _ rfl rfl rfl
      exact ⟨_, x_bin .eql 73 73 (.tmp 5) (.tmp 6) rfl d1 d2 (grd_eq54 _ _ _ _ _) (run_eq54 _ _ _), rfl⟩
    · refine opS_same rfl rfl fun Lx ac w1 hJ hl hc ho hd => ?_
      have d3 : ac.eval (.tmp 7) = .bool (decide (r.nm = n)) := hd 3 _ _ rfl rfl rfl
      exact ⟨_, x_assign (.tmp 7) rfl d3, rfl⟩
  · intro L1 a1 w9 hI hall
    obtain ⟨kq, hk, hUF⟩ := hI.done hall (by simp)
    have HUn := Lib.hid (show Up wa w9 from hUF)
    clear hk hUF kq
    have l0 : a1.tmps.getD 0 undef = ruV r := hI.old 0 rfl
    have l3 : a1.tmps.getD 3 undef = .bool (decide (r.nm = n)) := hI.get hall (i := 4) rfl rfl
    have hde : a1.defers = [] := hI.defers
    have hal := act_lit a1 8 hI.size
    clear hI
    simp only [List.range, List.range.loop, List.map_cons, List.map_nil] at hal
    rw [l0, l3, hde] at hal
    generalize a1.tmps.getD 1 undef = t1 at hal
    generalize a1.tmps.getD 2 undef = t2 at hal
    generalize a1.tmps.getD 4 undef = t4 at hal
    generalize a1.tmps.getD 5 undef = t5 at hal
    generalize a1.tmps.getD 6 undef = t6 at hal
    generalize a1.tmps.getD 7 undef = t7 at hal
    clear l0 l3 hde
    subst hal
    go_wp2_with fail
    go_ret
    exact ⟨rfl, HU.out.trans HUn.out⟩
/-- What IndexFunc answers. -/
def idxI (x : Option Nat) : Int := match x with
  | some i => i
  | none => -1
def plc (rs : List Ru) (n : Nm) : Option Nat := rs.findIdx? fun r => decide (r.nm = n)
theorem plc_hit {rs : List Ru} {n : Nm} {k : Nat} {r : Ru} (hr : rs[k]? = some r) (h : has (rs.take k) n = false) (e : r.nm = n) : plc rs n = some k := by
  unfold plc
  obtain ⟨hk, rfl⟩ := List.getElem?_eq_some_iff.1 hr
  rw [List.findIdx?_eq_some_iff_getElem]
  refine ⟨hk, by simpa using e, fun j hj => ?_⟩
  have : ¬ has (rs.take k) n = true := by rw [h]; simp
  rw [has_true] at this
  simp only [decide_eq_true_eq]
  intro e2
  exact this ⟨rs[j], List.mem_of_getElem? (i := j) (by rw [List.getElem?_take, if_pos hj, List.getElem?_eq_getElem (by omega)]), e2⟩
theorem plc_no {rs : List Ru} {n : Nm} (h : has rs n = false) : plc rs n = none := by
  unfold plc
  rw [List.findIdx?_eq_none_iff]
  intro r hr
  have : ¬ has rs n = true := by rw [h]; simp
  rw [has_true] at this
  simp only [decide_eq_false_iff_not]
  exact fun e => this ⟨r, hr, e⟩
theorem has_take {rs : List Ru} {n : Nm} {k : Nat} {r : Ru} (hr : rs[k]? = some r) (h : has (rs.take k) n = false) (e : r.nm ≠ n) : has (rs.take (k + 1)) n = false := by
  obtain ⟨hk, rfl⟩ := List.getElem?_eq_some_iff.1 hr
  unfold has at *
  rw [List.take_succ_eq_append_getElem hk, List.any_append, h]
  simpa using e
set_option maxRecDepth 100000 in
set_option maxHeartbeats 1000000 in
theorem idx_any (A : Option Addr) (m c : Nat) (rs : List Ru) (n : Nm) (b : Nat) (w : World) (h : InR w A m c rs) (hb : w.heap[b]? = some (nmC n)) (hm : m ≤ 140737488351232) : Calls Try.prog 61 #[.slice A m c, .func (.func 62) #[] #[.pointer (some ⟨b, 0, none⟩)]] w fun e w' => e = .returned (.int .i64 (idxI (plc rs n))) ∧ Up w w' := by
  have H := Lib.hid h
  have HL := Lib.hid h.len
  have HB := Lib.hid hb
  have hcap := h.cap
  clear h hb
  go_enter Try.func61, Try.ntmps61
  go_wp2_with fail
  go_loopw [8] (fun i wr => ∃ k : Nat, k ≤ m ∧ i = .int .i64 (k : Int) ∧ Hid (has (rs.take k) n = false) ∧ Hid (Up w wr)) (fun i _ => m - (intOf i).toNat)
  case atStart => exact ⟨0, Nat.zero_le _, rfl, Lib.hid (by simp [has]), Lib.hid (Up.refl _)⟩
  case round =>
    obtain ⟨k, hk, rfl, hA, hU⟩ := hrel
    by_cases hlt : k < m
    · have d1 : decide ((k : Int) < (m : Int)) = true := decide_eq_true (by omega)
      obtain ⟨r, g, o, hr, rfl, ⟨k0, k1, k2, k3, k4, k5⟩, -⟩ := (H.out.up hU.out).at_ hlt
      have HR := Lib.hid hr
      clear hr
      go_wp2_with fail
      refine (hit_any r n b wr (blk_up HB.out hU.out)).mono ?_
      rintro e w1 ⟨rfl, hu⟩
      have HU1 := Lib.hid (hU.out.trans hu)
      clear hu k0 k1 k2 k3 k4 k5
      by_cases hn : r.nm = n
      · have HP := Lib.hid (plc_hit HR.out hA.out hn)
        rw [decide_eq_true hn]
        go_wp2_with fail
        go_ret
        exact ⟨by rw [HP.out]; rfl, HU1.out⟩
      · have HP := Lib.hid (has_take HR.out hA.out hn)
        rw [decide_eq_false hn]
        go_wp2_with fail
        go_roundw
        case rel => exact ⟨k + 1, by omega, by go_num, HP, HU1⟩
        case measure => simp [intOf]; omega
    · have d1 : decide ((k : Int) < (m : Int)) = false := decide_eq_false (by omega)
      have HP := Lib.hid (plc_no (rs := rs) (n := n) (by have h1 := hA.out; rw [List.take_of_length_le (by rw [HL.out]; omega)] at h1; exact h1))
      go_wp2_with fail
      go_ret
      exact ⟨by rw [HP.out]; rfl, hU.out⟩
set_option maxRecDepth 100000 in
theorem place_any (A : Option Addr) (m c : Nat) (rs : List Ru) (n : Nm) (w : World) (h : InR w A m c rs) (hm : m ≤ 140737488351232) : Calls Try.prog 47 #[.slice A m c, nmV n] w fun e w' => e = .returned (.int .i64 (idxI (plc rs n))) ∧ Up w w' := by
  have hmf : ∀ (fn : Fn) (first cap : Array Value) (w : World), (Instr.makeFunc fn first cap).run Try.prog w = .ok (.func fn first cap) w := fun _ _ _ _ => rfl
  have HU := Lib.hid (up_alloc w (nmC n))
  have HB := Lib.hid (new_at w (nmC n))
  have H := Lib.hid (h.up HU.out)
  clear h
  obtain ⟨n1, n2⟩ := n
  unfold nmV
  go_enter Try.func47, Try.ntmps47
  go_wp2_with fail
  refine (idx_any A m c rs (n1, n2) w.heap.size (w.alloc (nmC (n1, n2))) H.out HB.out hm).mono ?_
  rintro e w1 ⟨rfl, hu⟩
  have HU1 := Lib.hid (HU.out.trans hu)
  clear hu
  go_wp2_with fail
  go_ret
  exact ⟨rfl, HU1.out⟩
end Go.Proofs.Ythncpkjnalmpkaa
