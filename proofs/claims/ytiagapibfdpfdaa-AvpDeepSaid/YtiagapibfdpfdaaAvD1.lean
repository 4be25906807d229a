import Derived.Test.YtiagapibfdpfdaaAvD0
import Derived.Test.YtiagapibfdpfdaaAvR2a
import Derived.WalkSmall
import Derived.Shelf.SlicesQ.Load
import Derived.Laws.Tables
namespace Go.Proofs.Ytiagapibfdpfdaa
open Go Go.RowKit
set_option linter.unusedVariables false
set_option linter.unusedSimpArgs false
/-! The program's add. -/
def itc (x : Nat × AvB) : List Value := .int .i64 (x.1 : Int) :: avc x.2
def rowi (l : List (Nat × AvB)) : List Value := l.flatMap itc
def pureI (x : Nat × AvB) : Nat × Av.Avp := (x.1, x.2.pure)
theorem rowi_append (l m : List (Nat × AvB)) : rowi (l ++ m) = rowi l ++ rowi m := by simp [rowi]
theorem rowi_length (l : List (Nat × AvB)) : (rowi l).length = l.length * 6 := by
  induction l with
  | nil => rfl
  | cons x l ih => simp only [rowi, List.flatMap_cons, List.length_append] at ih ⊢; rw [ih]; simp [itc, avc, avcL]; omega
theorem rowi_one (l : List (Nat × AvB)) : ∀ u ∈ rowi l, u.oneCell' = true := by
  intro u hu
  simp only [rowi, List.mem_flatMap, itc, avc, avcL, List.mem_cons, List.mem_nil_iff, or_false] at hu
  obtain ⟨x, _, hu⟩ := hu
  rcases hu with rfl | rfl | rfl | rfl | rfl | rfl <;> rfl
/-- An attribute's bytes lie neither in the opener nor in its row. -/
structure Far (q : Nat) (A : Option Addr) (w : World) (x : AvB) : Prop where
  av : AvIn w x
  far : x.bs ≠ [] → ∀ k, blk? x.A = some k → k ≠ q ∧ blk? A ≠ some k
/-- The opener, and what it has so far. -/
structure Op (B q : Nat) (G : Value) (A : Option Addr) (n c : Nat) (items : List (Nat × AvB)) (w : World) : Prop where
  top : w.heap[q]? = some (.cells #[G, .slice A n c] 58 (0, 0))
  row : w.ownsRow B 43 6 (.slice A n c) n (rowi items)
  len : items.length = n
  ne : blk? A ≠ some q
  it : ∀ x ∈ items, Far q A w x.2
def Ft (q : Nat) (A : Option Addr) : Nat → Prop := fun k => k = q ∨ blk? A = some k
theorem Far.step {q : Nat} {A A' : Option Addr} {w w' : World} {x : AvB} (h : Far q A w x) (ho : Out (Ft q A) w w') (hA : blk? A' = blk? A ∨ ∀ k, blk? A' = some k → w.heap.size ≤ k) : Far q A' w' x := by
  refine ⟨⟨h.av.inb.outS' ho (fun hne k hk e => ?_), h.av.ok, h.av.n⟩, fun hne k hk => ⟨(h.far hne k hk).1, fun e => ?_⟩⟩
  · have := h.far hne k hk
    rcases e with e | e
    · exact this.1 e
    · exact this.2 e
  · rcases hA with hA | hA
    · rw [hA] at e; exact (h.far hne k hk).2 e
    · have h1 := hA k e; have h2 := h.av.inb.lt hne hk; omega
/-- Between two states of the opener. -/
structure Go2 (q : Nat) (A A' : Option Addr) (w w' : World) : Prop where
  out : Out (Ft q A) w w'
  row : blk? A' = blk? A ∨ ∀ k, blk? A' = some k → w.heap.size ≤ k
theorem Go2.trans {q : Nat} {A A1 A2 : Option Addr} {w w1 w2 : World} (h : Go2 q A A1 w w1) (k : Go2 q A1 A2 w1 w2) : Go2 q A A2 w w2 := by
  refine ⟨h.out.trans k.out (fun b hb => ?_), ?_⟩
  · rcases hb with hb | hb
    · exact .inl (.inl hb)
    · rcases h.row with hr | hr
      · exact .inl (.inr (by rw [← hr]; exact hb))
      · exact .inr (hr b hb)
  · rcases k.row with kr | kr
    · rcases h.row with hr | hr
      · exact .inl (kr.trans hr)
      · exact .inr (fun b hb => hr b (by rw [← kr]; exact hb))
    · exact .inr (fun b hb => Nat.le_trans h.out.size (kr b hb))
theorem Go2.up {q : Nat} {A : Option Addr} {w w' : World} (h : Up w w') : Go2 q A A w w' := ⟨h.out _, .inl rfl⟩
theorem Op.up {B q : Nat} {G : Value} {A : Option Addr} {n c : Nat} {items : List (Nat × AvB)} {w w' : World} (h : Op B q G A n c items w) (hu : Up w w') : Op B q G A n c items w' :=
  ⟨blk_up h.top hu, own_up h.row hu, h.len, h.ne, fun x hx => (h.it x hx).step (hu.out _) (.inl rfl)⟩
theorem fld581 (b o : Nat) (w : World) : (Instr.fieldAt 58 (.pointer (some ⟨b, o, none⟩)) 1).run Try.prog w = .ok (.pointer (some ⟨b, o + 1, none⟩)) w := by kernel_rfl
theorem agg39 (w : World) : (isAgg 39).run Try.prog w = .ok false w := by kernel_rfl
theorem siz39 (w : World) : (Go.sizeOf 39).run Try.prog w = .ok 1 w := by kernel_rfl
theorem siz38' (w : World) : (Go.sizeOf 38).run Try.prog w = .ok 5 w := by kernel_rfl
theorem info43 : (Try.prog.info? 43).map (fun i => (i.zero, i.size, i.bytes)) = some (some (.agg #[.int .i64 0, .int .u32 0, .int .u32 0, .bool false, .bool false, .slice none 0 0]), 6, 48) := by kernel_rfl
theorem build43 (d c v : Int) (m p : Bool) (A : Option Addr) (n k : Nat) (w : World) : (Instr.build 43 #[(0, .int .i64 d), (1, .agg #[.int .u32 c, .int .u32 v, .bool m, .bool p, .slice A n k])]).run Try.prog w = .ok (.agg #[.int .i64 d, .int .u32 c, .int .u32 v, .bool m, .bool p, .slice A n k]) w := by kernel_rfl
theorem bslice39 (d c v : Int) (m p : Bool) (A : Option Addr) (n k : Nat) (w : World) : (Instr.buildSlice 39 1 #[(0, .agg #[.int .i64 d, .int .u32 c, .int .u32 v, .bool m, .bool p, .slice A n k])]).run Try.prog w = .ok (.slice (some ⟨w.heap.size, 0, none⟩) 1 1) (w.alloc (.cells #[.int .i64 d, .int .u32 c, .int .u32 v, .bool m, .bool p, .slice A n k] 43)) := by kernel_rfl
theorem run_load38 {g : Nat} {w : World} {a b c d e : Value} (h : w.heap[g]? = some (.cells #[a, b, c, d, e] 38 (0, 0))) : (Instr.loadAt 38 (.pointer (some ⟨g, 0, none⟩))).run Try.prog w = .ok (.agg #[a, b, c, d, e]) w := by
  have hh := run_loadCellsFrom_list Try.prog w ⟨g, 0, none⟩ [a, b, c, d, e] 5 rfl (fun j v hv => by rw [add_flat]; exact cell_of h (by rw [Nat.zero_add]; simpa using hv))
  simp [Instr.loadAt, Instr.sureAddr, loadVar, Result.andThen, loadCells, hh]
def AddPost (B q : Nat) (G : Value) (A : Option Addr) (items : List (Nat × AvB)) (w : World) (e : Ending) (w' : World) : Prop := e = .returned (.tuple #[]) ∧ ∃ A' n' c', Hid (Op B q G A' n' c' items w') ∧ Hid (Go2 q A A' w w')
theorem Op.push {B q n k k2 : Nat} {G : Value} {A A2 : Option Addr} {items : List (Nat × AvB)} {w wB wC : World} {x : Nat × AvB} (h : Op B q G A n k items w) (hx : Far q A w x.2) (hu : Up w wB) (hrow : wC.ownsRow B 43 6 (.slice A2 (n + 1) k2) (n + 1) (rowi items ++ rowi [x])) (ho : Out (fun j => blk? A = some j) wB wC) (hb : blk? A2 = blk? A ∨ blk? A2 = some wB.heap.size) :
    Op B q G A2 (n + 1) k2 (items ++ [x]) (wC.setCell ⟨q, 1, none⟩ (.slice A2 (n + 1) k2)) ∧ Go2 q A A2 w (wC.setCell ⟨q, 1, none⟩ (.slice A2 (n + 1) k2)) := by
  have hqB := blk_up h.top hu
  have hlt := lt_of_blk h.top
  have hqC := ho.blk hqB h.ne
  have hb2 : blk? A2 = blk? A ∨ ∀ j, blk? A2 = some j → w.heap.size ≤ j := by
    rcases hb with hb | hb
    · exact .inl hb
    · exact .inr fun j hj => by rw [hb] at hj; injection hj with hj; have := hu.size; omega
  have hne : blk? A2 ≠ some q := by
    rcases hb2 with hb | hb
    · rw [hb]; exact h.ne
    · intro e; have := hb q e; omega
  have ho2 : Out (Ft q A) w (wC.setCell ⟨q, 1, none⟩ (.slice A2 (n + 1) k2)) := ((hu.out (Ft q A)).trans (ho.mono fun j hj => .inr hj) (Sub.refl _ _)).trans ((setCell_out wC q 1 _).mono fun j hj => .inl hj) (Sub.refl _ _)
  refine ⟨⟨(setCell_at (j := 1) _ hqC).trans rfl, ?_, by simp [h.len], hne, fun y hy => ?_⟩, ho2, hb2⟩
  · rw [rowi_append]
    exact (setCell_out wC q 1 _).own hrow (fun g hg e => by rw [ownBlock_slice] at hg; exact hne (by rw [← e]; exact hg))
  · rcases List.mem_append.1 hy with hy | hy
    · exact (h.it y hy).step ho2 hb2
    · rw [List.mem_singleton] at hy; subst hy; exact hx.step ho2 hb2
set_option maxRecDepth 100000 in
set_option maxHeartbeats 4000000 in
theorem add_ok (B q : Nat) (G : Value) (A : Option Addr) (n k : Nat) (items : List (Nat × AvB)) (c v : Int) (m p : Bool) (A9 : Option Addr) (n9 k9 : Nat) (bs : List Int) (d : Nat) (w : World) (h : Op B q G A n k items w) (hx : Far q A w ⟨c, v, m, p, A9, n9, k9, bs⟩) (hd : d < 8) (hn : n ≤ 200) (hB : B ≤ w.heap.size) :
    Calls Try.prog 40 #[.pointer (some ⟨q, 0, none⟩), .agg #[.int .u32 c, .int .u32 v, .bool m, .bool p, .slice A9 n9 k9], .int .i64 (d : Int)] w (AddPost B q G A (items ++ [(d, ⟨c, v, m, p, A9, n9, k9, bs⟩)]) w) := by
  have H := Lib.hid h
  have HX := Lib.hid hx
  have HBw := Lib.hid hB
  have d1 : decide ((8 : Int) ≤ (d : Int)) = false := by simp; omega
  have d2 : ((n : Int) == 256) = false := by rw [beq_eq_false_iff_ne]; omega
  have hU := up_alloc w (.cells #[.int .u32 c, .int .u32 v, .bool m, .bool p, .slice A9 n9 k9] 38)
  have HU := Lib.hid hU
  have HP := Lib.hid (new_at w (.cells #[.int .u32 c, .int .u32 v, .bool m, .bool p, .slice A9 n9 k9] 38))
  clear h hx hB hU
  go_enter Try.func40, Try.ntmps40
  go_upto_region 1 with (fail)
  generalize w.alloc (.cells #[.int .u32 c, .int .u32 v, .bool m, .bool p, .slice A9 n9 k9] 38) = w1 at HU HP ⊢
  generalize w.heap.size = pb at HP ⊢
  have H1 := Lib.hid (H.out.up HU.out)
  have t1 := cell_of H1.out.top (j := 1) rfl
  go_upto_region 5 with (fail)
  clear t1
  have HUA := Lib.hid (Up.trans HU.out (Up.drew w1))
  have HPA := Lib.hid (blk_up HP.out (Up.drew w1))
  have HA := Lib.hid (H1.out.up (Up.drew w1))
  obtain ⟨wA, hwA⟩ : ∃ wx, wx = w1.drew := ⟨_, rfl⟩
  rw [← hwA] at HUA HPA HA
  have HWA := Lib.hid hwA
  have hB := bslice39 (d : Int) c v m p A9 n9 k9 wA
  have HUB := Lib.hid (up_alloc wA (.cells #[.int .i64 (d : Int), .int .u32 c, .int .u32 v, .bool m, .bool p, .slice A9 n9 k9] 43))
  have HCB := Lib.hid (show Cells (wA.alloc (.cells #[.int .i64 (d : Int), .int .u32 c, .int .u32 v, .bool m, .bool p, .slice A9 n9 k9] 43)) (some ⟨wA.heap.size, 0, none⟩) (rowi [(d, ⟨c, v, m, p, A9, n9, k9, bs⟩)]) from fun _ => ⟨wA.heap.size, 0, rfl, lt_of_blk (new_at wA _), fun j u hu => cell_of (new_at wA _) (by rw [Nat.zero_add]; simpa [rowi, itc, avc, avcL] using hu)⟩)
  generalize wA.alloc (.cells #[.int .i64 (d : Int), .int .u32 c, .int .u32 v, .bool m, .bool p, .slice A9 n9 k9] 43) = wB at hB HUB HCB
  have hAB := HA.out.up HUB.out
  obtain ⟨A2, k2, wC, rC, hoC, hrC, hbC⟩ := append_G (P := Try.prog) (ty := 39) Try.underlying39 info43 rfl (by decide) hAB.row (some ⟨wA.heap.size, 0, none⟩) 1 1 (rowi [(d, ⟨c, v, m, p, A9, n9, k9, bs⟩)]) (by simp [rowi, itc, avc, avcL]) HCB.out (rowi_one _) (by omega) (by omega) (Nat.le_trans HBw.out (Up.trans HUA.out HUB.out).size)
  have HPU := Lib.hid (HA.out.push (x := (d, ⟨c, v, m, p, A9, n9, k9, bs⟩)) (HX.out.step (HUA.out.out _) (.inl rfl)) HUB.out hrC hoC hbC)
  have hTC := hoC.blk hAB.top hAB.ne
  obtain ⟨wD, hwD⟩ : ∃ wx, wx = wC.setCell ⟨q, 0 + 1, none⟩ (.slice A2 (n + 1) k2) := ⟨_, rfl⟩
  have cA : wA.cell? ⟨q, 0 + 1, none⟩ = some (.slice A n k) := cell_of HA.out.top rfl
  have cB : wB.cell? ⟨q, 0 + 1, none⟩ = some (.slice A n k) := cell_of hAB.top rfl
  refine staged_lit (by kernel_rfl) (facts [Is (.pointer (some ⟨q, 0, none⟩)), Is (.pointer (some ⟨q, 0, none⟩)), Is (.pointer (some ⟨q, 0, none⟩)), Is (.pointer (some ⟨q, 0 + 1, none⟩)), Is (.slice A n k), Is (.int .i64 (d : Int)), Is (.agg #[.int .u32 c, .int .u32 v, .bool m, .bool p, .slice A9 n9 k9]), Is (.agg #[.int .i64 (d : Int), .int .u32 c, .int .u32 v, .bool m, .bool p, .slice A9 n9 k9]), Is (.slice (some ⟨wA.heap.size, 0, none⟩) 1 1), Is (.slice A2 (n + 1) k2), Is (.pointer (some ⟨q, 0, none⟩)), Is (.pointer (some ⟨q, 0 + 1, none⟩)), Tru]) (Stg [8, 9, 12] (fun kq wx => wx = [wA, wB, wC].getD kq wD)) 30 rfl (by decide +kernel) (by decide +kernel) (Stg.start (by show _ = wA; rw [HWA.out])) ?_ ?_
  · refine ⟨?_, ?_, ?_, ?_, ?_, ?_, ?_, ?_, ?_, ?_, ?_, ?_, ?_, trivial⟩
    · refine opS_same rfl rfl fun Lx ac w1 hJ hl hc ho hd => ?_
      have s0 : ac.eval (.tmp 0) = .pointer (some ⟨q, 0, none⟩) := ho 0 rfl
      exact ⟨_, x_move (.tmp 0) rfl s0, rfl⟩
    · refine opS_same rfl rfl fun Lx ac w1 hJ hl hc ho hd => ?_
      have s0 : ac.eval (.tmp 0) = .pointer (some ⟨q, 0, none⟩) := ho 0 rfl
      exact ⟨_, x_move (.tmp 0) rfl s0, rfl⟩
    · refine opS_same rfl rfl fun Lx ac w1 hJ hl hc ho hd => ?_
      have d1 : ac.eval (.tmp 19) = .pointer (some ⟨q, 0, none⟩) := hd 1 _ _ rfl rfl rfl
      exact ⟨_, x_nil (.tmp 19) rfl d1, rfl⟩
    · refine opS_same rfl rfl fun Lx ac w1 hJ hl hc ho hd => ?_
      have d2 : ac.eval (.tmp 20) = .pointer (some ⟨q, 0, none⟩) := hd 2 _ _ rfl rfl rfl
      exact ⟨_, x_field 58 (.tmp 20) 1 rfl d2 (fld581 _ _ _), rfl⟩
    · refine opS_same rfl rfl fun L ac w1 hJ hl hc ho hd => ?_
      have d3 : ac.eval (.tmp 21) = .pointer (some ⟨q, 0 + 1, none⟩) := hd 3 _ _ rfl rfl rfl
      obtain ⟨kk, hk, hW⟩ := hJ.ahead (j := 1) (x := 9) rfl (reach_not hc (i := 4) (n := 13) rfl hl)
      have hcell : w1.cell? ⟨q, 0 + 1, none⟩ = some (.slice A n k) := by
        rcases (show kk = 0 ∨ kk = 1 by omega) with rfl | rfl
        · rw [show w1 = wA from hW]; exact cA
        · rw [show w1 = wB from hW]; exact cB
      exact ⟨_, x_load 39 (.tmp 21) rfl d3 (run_load1 agg39 hcell), rfl⟩
    · refine opS_same rfl rfl fun Lx ac w1 hJ hl hc ho hd => ?_
      have s2 : ac.eval (.tmp 2) = .int .i64 (d : Int) := ho 2 rfl
      exact ⟨_, x_move (.tmp 2) rfl s2, rfl⟩
    · refine opS_same rfl rfl fun L ac w1 hJ hl hc ho hd => ?_
      have s4 : ac.eval (.tmp 4) = .pointer (some ⟨pb, 0, none⟩) := ho 4 rfl
      have hW : w1 = wA := hJ.first (reach_not hc (i := 6) (n := 13) rfl hl)
      exact ⟨_, x_load 38 (.tmp 4) rfl s4 (run_load38 (by rw [hW]; exact HPA.out)), rfl⟩
    · refine opS_same rfl rfl fun L ac w1 hJ hl hc ho hd => ?_
      have d5 : ac.eval (.tmp 23) = .int .i64 (d : Int) := hd 5 _ _ rfl rfl rfl
      have d6 : ac.eval (.tmp 24) = .agg #[.int .u32 c, .int .u32 v, .bool m, .bool p, .slice A9 n9 k9] := hd 6 _ _ rfl rfl rfl
      exact ⟨_, x_build 43 _ rfl (by simp only [List.map_toArray, List.map_cons, List.map_nil, d5, d6]; exact build43 _ _ _ _ _ _ _ _ _), rfl⟩
    · refine opS_writeV (j := 0) rfl (by decide) rfl (fun _ _ h => absurd h (by omega)) fun ac wx hW ho hd => ?_
      have d7 : ac.eval (.tmp 25) = .agg #[.int .i64 (d : Int), .int .u32 c, .int .u32 v, .bool m, .bool p, .slice A9 n9 k9] := hd 7 _ _ rfl rfl rfl
      obtain rfl := (show wx = wA from hW)
      exact ⟨_, _, x_bslice 39 1 _ rfl (by simp only [List.map_toArray, List.map_cons, List.map_nil, d7]; exact hB), rfl, rfl, fun q v _ => facts_free (by simp [free_is, free_tru]) q v⟩
    · refine opS_writeV (j := 1) rfl (by decide) rfl (fun y hy _ => by simp at hy; subst hy; rfl) fun ac wx hW ho hd => ?_
      have d4 : ac.eval (.tmp 22) = .slice A n k := hd 4 _ _ rfl rfl rfl
      have d8 : ac.eval (.tmp 26) = .slice (some ⟨wA.heap.size, 0, none⟩) 1 1 := hd 8 _ _ rfl rfl rfl
      obtain rfl := (show wx = wB from hW)
      exact ⟨_, _, x_append (.tmp 22) (.tmp 26) 39 39 rfl d4 d8 rC, rfl, rfl, fun q v _ => facts_free (by simp [free_is, free_tru]) q v⟩
    · refine opS_same rfl rfl fun Lx ac w1 hJ hl hc ho hd => ?_
      have d0 : ac.eval (.tmp 18) = .pointer (some ⟨q, 0, none⟩) := hd 0 _ _ rfl rfl rfl
      exact ⟨_, x_nil (.tmp 18) rfl d0, rfl⟩
    · refine opS_same rfl rfl fun Lx ac w1 hJ hl hc ho hd => ?_
      have d10 : ac.eval (.tmp 28) = .pointer (some ⟨q, 0, none⟩) := hd 10 _ _ rfl rfl rfl
      exact ⟨_, x_field 58 (.tmp 28) 1 rfl d10 (fld581 _ _ _), rfl⟩
    · refine opS_write (j := 2) rfl rfl (by decide) rfl (fun y hy _ => by simp at hy; subst hy; rfl) fun ac wx hW ho hd => ?_
      have d11 : ac.eval (.tmp 29) = .pointer (some ⟨q, 0 + 1, none⟩) := hd 11 _ _ rfl rfl rfl
      have d9 : ac.eval (.tmp 27) = .slice A2 (n + 1) k2 := hd 9 _ _ rfl rfl rfl
      obtain rfl := (show wx = wC from hW)
      exact ⟨_, x_store 39 (.tmp 29) (.tmp 27) rfl d11 d9 (run_store1 siz39 hTC (by simp) rfl rfl), hwD.symm, fun _ => trivial, fun q v => facts_free (by simp [free_is, free_tru]) q v⟩
  · intro L1 a wF hI hall
    obtain rfl : wF = wD := by
      obtain ⟨kk, hk, hW⟩ := hI.done hall (by decide)
      rcases Nat.eq_or_lt_of_le hk with h4 | h4
      · rw [hW, ← h4]; rfl
      · rw [hW, List.getD_eq_getElem?_getD, List.getElem?_eq_none (by simp at h4 ⊢; omega)]; rfl
    have hde : a.defers = [] := hI.defers
    have hal := act_lit a 30 hI.size
    clear hI
    simp only [List.range, List.range.loop, List.map_cons, List.map_nil] at hal
    rw [hde] at hal
    generalize hTT : a.tmps = TT at hal
    clear hTT hall hde rC hrC hoC hbC hAB hB cA cB hTC
    subst hal
    have HOP := Lib.hid HPU.out.1
    have HGO := Lib.hid ((Go2.up HUA.out).trans HPU.out.2)
    rw [← show wF = wC.setCell ⟨q, 1, none⟩ (.slice A2 (n + 1) k2) from hwD] at HOP HGO
    clear hwD HPU
    go_wp2_with fail
    go_end0
    exact ⟨rfl, A2, n + 1, k2, HOP, HGO⟩
set_option maxRecDepth 100000 in
set_option maxHeartbeats 1000000 in
theorem add_deep (q : Nat) (a : Value) (c v : Int) (m p : Bool) (A9 : Option Addr) (n9 k9 : Nat) (d : Nat) (w : World) (hd : 8 ≤ d) :
    Calls Try.prog 40 #[.pointer (some ⟨q, 0, none⟩), .agg #[.int .u32 c, .int .u32 v, .bool m, .bool p, .slice A9 n9 k9], .int .i64 (d : Int)] w fun e w' => e = .panicked [{ v := .iface 69 (.agg #[.int .i64 12]), recovered := false }] ∧ Hid (Up w w') := by
  have d1 : decide ((8 : Int) ≤ (d : Int)) = true := by simp; omega
  have HU := Lib.hid (up_alloc w (.cells #[.int .u32 c, .int .u32 v, .bool m, .bool p, .slice A9 n9 k9] 38))
  go_enter Try.func40, Try.ntmps40
  go_upto_region 1 with (fail)
  generalize w.alloc (.cells #[.int .u32 c, .int .u32 v, .bool m, .bool p, .slice A9 n9 k9] 38) = w1 at HU ⊢
  go_wp2_with fail
  exact ⟨rfl, rfl, HU⟩
end Go.Proofs.Ytiagapibfdpfdaa
