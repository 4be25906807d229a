import Derived.Test.YtccilbgbjikmpaaMapU
import Derived.Test.YtccilbgbjikmpaaCk21
namespace Go.Proofs.Ytccilbgbjikmpaa
open Go Go.RowKit
set_option linter.unusedVariables false
/-! The track. -/
/-- A number as the program keeps it. -/
def key (x : Nat) : Int := ((x % 4294967296 : Nat) : Int)
theorem key_bd (x : Nat) : 0 ≤ key x ∧ key x < 4294967296 := by unfold key; omega
theorem zero57 (w : World) : (zeroValue 57).run Try.prog w = .ok (.agg #[]) w := by kernel_rfl
/-- A map, or none, that holds the keys of A. -/
def MapO (w : World) (mo : Option Nat) (A : List Nat) : Prop := match mo with
  | none => A = []
  | some m => ∃ E, MapU w m E ∧ E.map (·.1) = A.map key
theorem MapO.keep {w w' : World} {mo : Option Nat} {A : List Nat} (h : MapO w mo A) (hb : ∀ m, mo = some m → w'.heap[m]? = w.heap[m]?) : MapO w' mo A := by
  cases mo with
  | none => exact h
  | some m => obtain ⟨E, h1, h2⟩ := h; exact ⟨E, h1.keep (hb m rfl), h2⟩
theorem MapO.look {w : World} {mo : Option Nat} {A : List Nat} (h : MapO w mo A) (x : Int) : (Instr.lookup 48 (.map mo) (.int .u32 x) true).run Try.prog w = .ok (.tuple #[.agg #[], .bool (decide (x ∈ A.map key))]) w := by
  cases mo with
  | none => rw [show A = [] from h]; exact run_lookU_nil Try.underlying48 Try.underlying22 zero57 x
  | some m =>
    obtain ⟨E, h1, h2⟩ := h
    rw [← h2]
    exact run_lookU Try.underlying48 Try.underlying22 zero57 h1 x
/-- The track at block pb: the last number, those beyond, the noted ones. -/
structure TAt (w : World) (pb : Nat) (mo : Option Nat) (D : Option Addr) (c : Nat) (C : Nat) (A : List Nat) (d : List Int) : Prop where
  top : w.heap[pb]? = some (.cells #[.int .u32 (key C), .map mo, .slice D d.length c] 50 (0, 0))
  map : MapO w mo A
  row : OwnI .u32 22 0 w D d.length c d
  bd : d.length ≤ 64
  ok : DupOk d
/-- Its blocks. -/
def TS (pb : Nat) (mo : Option Nat) (D : Option Addr) : Nat → Prop := fun k => k = pb ∨ mo = some k ∨ blk? D = some k
theorem TAt.lt {w : World} {pb : Nat} {mo : Option Nat} {D : Option Addr} {c C : Nat} {A : List Nat} {d : List Int} (h : TAt w pb mo D c C A d) : ∀ k, TS pb mo D k → k < w.heap.size := by
  rintro k (rfl | rfl | hk)
  · exact lt_of_blk h.top
  · obtain ⟨E, h1, _⟩ := h.map; exact h1.lt
  · exact (row_lt h.row hk).2
theorem TAt.keep {w w' : World} {pb : Nat} {mo : Option Nat} {D : Option Addr} {c C : Nat} {A : List Nat} {d : List Int} (h : TAt w pb mo D c C A d) (hb : ∀ k, TS pb mo D k → w'.heap[k]? = w.heap[k]?) : TAt w' pb mo D c C A d where
  top := by rw [hb pb (.inl rfl)]; exact h.top
  map := h.map.keep fun m hm => hb m (.inr (.inl hm))
  row := own_blk h.row fun g hg => hb g (.inr (.inr (by rw [ownBlock_slice] at hg; exact hg)))
  bd := h.bd
  ok := h.ok
theorem TAt.up {w w' : World} {pb : Nat} {mo : Option Nat} {D : Option Addr} {c C : Nat} {A : List Nat} {d : List Int} (h : TAt w pb mo D c C A d) (hu : Up w w') : TAt w' pb mo D c C A d :=
  h.keep fun k hk => hu.block k (h.lt k hk)
theorem TAt.not_map {w : World} {pb m : Nat} {D : Option Addr} {c C : Nat} {A : List Nat} {d : List Int} (h : TAt w pb (some m) D c C A d) : pb ≠ m ∧ blk? D ≠ some m := by
  obtain ⟨E, ⟨clk, h1, _⟩, _⟩ := h.map
  refine ⟨fun e => ?_, fun e => ?_⟩
  · have := h.top; rw [e, h1] at this; cases this
  · rcases h.row.2 with ⟨h2, _⟩ | ⟨g, cap, cur, hv, _, hh, _⟩
    · injection h2 with h2; rw [h2] at e; cases e
    · injection hv with hv; rw [hv] at e; simp [blk?] at e; rw [e, h1] at hh; cases hh
theorem TAt.not_row {w : World} {pb : Nat} {mo : Option Nat} {D : Option Addr} {c C : Nat} {A : List Nat} {d : List Int} (h : TAt w pb mo D c C A d) : blk? D ≠ some pb := by
  intro e
  rcases h.row.2 with ⟨h2, _⟩ | ⟨g, cap, cur, hv, _, hh, _⟩
  · injection h2 with h2; rw [h2] at e; cases e
  · injection hv with hv; rw [hv] at e; simp [blk?] at e; rw [e, h.top] at hh
    injection hh with hh; injection hh with _ hh; cases hh
/-- The three cells. -/
theorem TAt.cells {w : World} {pb : Nat} {mo : Option Nat} {D : Option Addr} {c C : Nat} {A : List Nat} {d : List Int} (h : TAt w pb mo D c C A d) :
    w.cell? ⟨pb, 0, none⟩ = some (.int .u32 (key C)) ∧ w.cell? ⟨pb, 1, none⟩ = some (.map mo) ∧ w.cell? ⟨pb, 2, none⟩ = some (.slice D d.length c) ∧ ∀ j, w.frozen? ⟨pb, j, none⟩ = false :=
  ⟨cell_of h.top rfl, cell_of h.top rfl, cell_of h.top rfl, fun j => frozen_at h.top⟩
set_option maxRecDepth 100000 in
set_option maxHeartbeats 1000000 in
theorem has_any (pb : Nat) (mo : Option Nat) (D : Option Addr) (c C : Nat) (A : List Nat) (d : List Int) (x : Int) (w : World) (h : TAt w pb mo D c C A d) :
    Calls Try.prog 15 #[.pointer (some ⟨pb, 0, none⟩), .int .u32 x] w (RetB (decide (x ∈ A.map key)) w) := by
  have c1 := h.cells.2.1
  have hl := h.map.look x
  clear h
  generalize decide (x ∈ A.map key) = b at hl ⊢
  go_enter Try.func15, Try.ntmps15
  go_wp2_with fail
  go_ret
  exact ⟨rfl, Lib.hid (up_alloc _ _)⟩
set_option maxRecDepth 100000 in
set_option maxHeartbeats 1000000 in
theorem cum_any (pb : Nat) (mo : Option Nat) (D : Option Addr) (c C : Nat) (A : List Nat) (d : List Int) (w : World) (h : TAt w pb mo D c C A d) :
    Calls Try.prog 10 #[.pointer (some ⟨pb, 0, none⟩)] w fun e w' => e = .returned (.int .u32 (key C)) ∧ w = w' := by
  have c1 := h.cells.1
  clear h
  go_enter Try.func10, Try.ntmps10
  go_wp2_with fail
  go_ret
  exact ⟨rfl, rfl⟩
theorem cum_nil (w : World) : Calls Try.prog 10 #[.pointer none] w fun e w' => e = .returned (.int .u32 0) ∧ w = w' := by
  go_enter Try.func10, Try.ntmps10
  go_wp2_with fail
  go_ret
  exact ⟨rfl, rfl⟩
end Go.Proofs.Ytccilbgbjikmpaa
namespace Go.Proofs.Ytccilbgbjikmpaa
open Go Go.RowKit
set_option linter.unusedVariables false
set_option linter.unusedSimpArgs false
/-! New; a duplicate that is noted. -/
theorem info22 : (Try.prog.info? 22).map (fun i => (i.zero, i.size, i.bytes)) = some (some (.int .u32 0), 1, 4) := by kernel_rfl
theorem info43 : (Try.prog.info? 43).map (fun i => (i.zero, i.size, i.bytes)) = some (some (.agg #[.int .u16 0, .int .u16 0]), 2, 4) := by kernel_rfl
/-- What was answered, and the track behind it. -/
def TPost (v : Value) (w : World) (S : Nat → Prop) (pb : Nat) (C : Nat) (A : List Nat) (d : List Int) (e : Ending) (w' : World) : Prop :=
  ∃ mo D c, e = .returned v ∧ TAt w' pb mo D c C A d ∧ Out S w w' ∧ Sub (TS pb mo D) S w
set_option maxRecDepth 100000 in
set_option maxHeartbeats 1000000 in
theorem new_any (f : Int) (w : World) (h0 : 0 ≤ f) (h1 : f < 4294967296) :
    Calls Try.prog 7 #[.int .u32 f] w fun e w' => e = .returned (.pointer (some ⟨w.heap.size, 0, none⟩)) ∧ TAt w' w.heap.size none none 0 (f.toNat + 4294967295) [] [] ∧ Up w w' := by
  go_enter Try.func7, Try.ntmps7
  go_wp2_with fail
  go_ret
  refine ⟨rfl, ⟨?_, rfl, ownI_nil _ _ _ _, by simp, fun d hd => by cases hd⟩, up_alloc _ _⟩
  rw [new_at]
  have e : IntKind.u32.wrap (f - 1) = key (f.toNat + 4294967295) := by
    rw [IntKind.wrap_u32']; unfold key; omega
  first | rw [← e]; rfl | (simp [e]) 
/-- Beyond a store into one of the three cells. -/
theorem TAt.put {w : World} {pb : Nat} {mo' : Option Nat} {D' : Option Addr} {c' C' : Nat} {A' : List Nat} {d' : List Int} {cs : Array Value} (ht : w.heap[pb]? = some (.cells cs 50 (0, 0))) (j : Nat) (v : Value)
    (hcs : cs.setIfInBounds j v = #[.int .u32 (key C'), .map mo', .slice D' d'.length c']) (hm : MapO w mo' A') (hr : OwnI .u32 22 0 w D' d'.length c' d') (hb : d'.length ≤ 64) (ho : DupOk d') (hn : ∀ m, mo' = some m → m ≠ pb) (hk : blk? D' ≠ some pb) :
    TAt (w.setCell ⟨pb, j, none⟩ v) pb mo' D' c' C' A' d' ∧ Out (fun k => k = pb) w (w.setCell ⟨pb, j, none⟩ v) := by
  have hs := setCell_out w pb j v
  refine ⟨⟨by rw [setCell_at v ht, hcs], hm.keep fun m hmm => ?_, own_blk hr fun g hg => ?_, hb, ho⟩, hs⟩
  · subst hmm
    obtain ⟨E, h1, _⟩ := hm
    exact hs.block m h1.lt (hn m rfl)
  · rw [ownBlock_slice] at hg
    exact hs.block g (row_lt hr hg).2 (fun e => hk (by rw [← e]; exact hg))
theorem blk_own {w : World} {base : Nat} {E : TypeId} {k : IntKind} {D : Option Addr} {n c : Nat} {d : List Int} (h : OwnI k E base w D n c d) {g : Nat} (hg : blk? D = some g) : ∃ cs, w.heap[g]? = some (.cells cs E (0, 0)) := by
  rcases h.2 with ⟨h2, _⟩ | ⟨g', cap, cur, hv, _, hh, _⟩
  · injection h2 with h2; rw [h2] at hg; cases hg
  · injection hv with hv; rw [hv] at hg; simp [blk?] at hg; rw [← hg]; exact ⟨cur, hh⟩
set_option maxRecDepth 100000 in
set_option maxHeartbeats 1000000 in
theorem note_no (pb : Nat) (mo : Option Nat) (D : Option Addr) (c C : Nat) (A : List Nat) (d : List Int) (x : Int) (w : World) (h : TAt w pb mo D c C A d) (hl : ¬ d.length < 64) :
    Calls Try.prog 16 #[.pointer (some ⟨pb, 0, none⟩), .int .u32 x] w (TPost (.tuple #[]) w (TS pb mo D) pb C A d) := by
  have HT := Lib.hid h
  have c2 := h.cells.2.2.1
  clear h
  go_enter Try.func16, Try.ntmps16
  go_wp2_with fail
  go_end0
  exact ⟨mo, D, c, rfl, HT.out, Out.refl _ _, Sub.refl _ _⟩
set_option maxRecDepth 100000 in
set_option maxHeartbeats 1000000 in
theorem note_yes (pb : Nat) (mo : Option Nat) (D : Option Addr) (c C : Nat) (A : List Nat) (d : List Int) (x : Int) (w : World) (h : TAt w pb mo D c C A d) (hl : d.length < 64) (hx : 0 ≤ x ∧ x < 4294967296) :
    Calls Try.prog 16 #[.pointer (some ⟨pb, 0, none⟩), .int .u32 x] w (TPost (.tuple #[]) w (TS pb mo D) pb C A (d ++ [x])) := by
  have HT := Lib.hid h
  have HX := Lib.hid hx
  have c2 := h.cells.2.2.1
  clear h hx
  obtain ⟨n, hn⟩ : ∃ n, n = d.length := ⟨_, rfl⟩
  rw [← hn] at c2 hl
  have HN := Lib.hid hn
  have hrow := HT.out.row
  rw [← hn] at hrow
  have HR := Lib.hid (hrow.alloc (.cells #[.int .u32 x] 22))
  have HTA := Lib.hid (HT.out.up (up_alloc w (.cells #[.int .u32 x] 22)))
  have HC := Lib.hid (cells_new w (.int .u32 x) 22 _ rfl)
  clear hn hrow
  have hlt := lt_of_blk HT.out.top
  go_enter Try.func16, Try.ntmps16
  go_wp2_with (at_builtin; refine wpList_appendG rfl (.tmp 14) (.tmp 16) 24 rfl 0 22 (.int .u32 0) 1 4 Try.underlying24 info22 rfl (by decide) D n c (ints .u32 d) rfl HR.out (some ⟨w.heap.size, 0, none⟩) 1 1 [.int .u32 x] rfl rfl HC.out (by simp [Value.oneCell']) (by omega) (by omega) (Nat.zero_le _) ?_; intro D' N' c' w' HN1 HR1 HO1 HB1; have ht' := HO1.out.blk HTA.out.top HTA.out.not_row; have q2 := cell_of ht' (j := 2) rfl; have f2 := frozen_at (j := 2) ht'; have HT1 := Lib.hid ht'; clear ht')
  go_end0
  have hml : (d ++ [x]).length = N' := by rw [HN1.out, HN.out]; simp
  have hmap : MapO w' mo A := HTA.out.map.keep fun m hm => by
    subst hm
    exact HO1.out.block m (by obtain ⟨E, h1, _⟩ := HTA.out.map; exact h1.lt) HTA.out.not_map.2
  have hrow : OwnI .u32 22 0 w' D' (d ++ [x]).length c' (d ++ [x]) := by
    rw [hml]; unfold OwnI; rw [ints_append]; exact HR1.out
  have hnp : blk? D' ≠ some pb := by
    intro e
    obtain ⟨cs, hcs⟩ := blk_own hrow e
    rw [HT1.out] at hcs
    injection hcs with hcs; injection hcs with _ hcs; cases hcs
  have hok : DupOk (d ++ [x]) := fun y hy => by
    rcases List.mem_append.1 hy with hy | hy
    · exact HT.out.ok y hy
    · simp at hy; rw [hy]; exact HX.out
  have hle : (d ++ [x]).length ≤ 64 := by rw [hml]; have := HN1.out; omega
  obtain ⟨p1, p2⟩ := TAt.put (C' := C) (c' := c') HT1.out 2 (.slice D' N' c') (by rw [hml]; rfl) hmap hrow hle hok (fun m hm e => by subst hm; exact HT.out.not_map.1 e.symm) hnp
  refine ⟨mo, D', c', rfl, p1, ((up_alloc w _).out (TS pb mo D)).trans ((HO1.out.mono (fun k hk => .inr (.inr hk))).trans (p2.mono (fun k hk => .inl hk)) (Sub.refl _ _)) (Sub.refl _ _), ?_⟩
  rintro k (hk | hk | hk)
  · exact .inl (.inl hk)
  · exact .inl (.inr (.inl hk))
  · rcases HB1.out with h1 | h1
    · exact .inl (.inr (.inr (by rw [← h1]; exact hk)))
    · rw [h1] at hk; injection hk with hk; simp at hk; exact .inr (by omega)
end Go.Proofs.Ytccilbgbjikmpaa
