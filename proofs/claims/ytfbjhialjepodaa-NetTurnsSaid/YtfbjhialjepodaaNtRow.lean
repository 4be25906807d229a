import Derived.Test.YtfbjhialjepodaaNtP1
namespace Go.Proofs.Ytfbjhialjepodaa
open Go Go.RowKit
set_option linter.unusedVariables false
/-- A frame's bytes, in memory of their own. -/
def FrIn (w : World) (x : FrB) : Prop := OwnI .u8 5 0 w x.A x.f.bytes.length x.c x.f.bytes ∧ Byt x.f.bytes ∧ x.f.bytes.length ≤ 4096
/-- Frames in a row of one's own, each with bytes of its own, all of it within S and out of X. -/
structure Rw (S X : Nat → Prop) (w : World) (A : Option Addr) (c : Nat) (l : List FrB) : Prop where
  len : l.length ≤ 1024
  row : w.ownsRow 0 46 6 (.slice A l.length c) l.length (rowc l)
  fr : ∀ x ∈ l, FrIn w x
  inA : ∀ k, blk? A = some k → S k ∧ ¬ X k
  inF : ∀ x ∈ l, ∀ k, blk? x.A = some k → S k ∧ ¬ X k ∧ blk? A ≠ some k
  pw : l.Pairwise (fun x y => ∀ k, blk? x.A = some k → blk? y.A ≠ some k)
theorem frIn_blk {w w' : World} {x : FrB} (h : FrIn w x) (hk : ∀ k, blk? x.A = some k → w'.heap[k]? = w.heap[k]?) : FrIn w' x := ⟨own_blk h.1 (fun g hg => hk g (by rwa [ownBlock_slice] at hg)), h.2⟩
theorem frIn_up {w w' : World} {x : FrB} (h : FrIn w x) (hu : Up w w') : FrIn w' x := frIn_blk h fun k hk => hu.block k (World.ownsRow.lt h.1 k (by rw [ownBlock_slice]; exact hk)).2
section
variable {S X : Nat → Prop} {w w' : World} {A : Option Addr} {c : Nat} {l : List FrB}
theorem Rw.keep (h : Rw S X w A c l) (hk : ∀ k, S k → ¬ X k → w'.heap[k]? = w.heap[k]?) : Rw S X w' A c l :=
  ⟨h.len, own_blk h.row (fun g hg => have := h.inA g (by rwa [ownBlock_slice] at hg); hk g this.1 this.2), fun x hx => frIn_blk (h.fr x hx) (fun k hk' => have := h.inF x hx k hk'; hk k this.1 this.2.1), h.inA, h.inF, h.pw⟩
theorem Rw.nil (S X : Nat → Prop) (w : World) : Rw S X w none 0 [] := ⟨Nat.zero_le _, World.ownsRow_nil _ _ _ _, fun _ h => (by cases h), fun _ h => (by cases h), fun _ h => (by cases h), .nil⟩
theorem Rw.sub {S' : Nat → Prop} (h : Rw S X w A c l) (hs : ∀ k, S k → S' k) : Rw S' X w A c l :=
  ⟨h.len, h.row, h.fr, fun k hk => ⟨hs k (h.inA k hk).1, (h.inA k hk).2⟩, fun x hx k hk => ⟨hs k (h.inF x hx k hk).1, (h.inF x hx k hk).2⟩, h.pw⟩
/-- The blocks when a frame has come behind: the row's, and its bytes'. -/
def Sx (S : Nat → Prop) (A : Option Addr) (x : FrB) : Nat → Prop := fun k => S k ∨ blk? A = some k ∨ blk? x.A = some k
theorem Rw.push (h : Rw S X w A c l) {A' : Option Addr} {c' : Nat} {x : FrB} (hl : l.length < 1024) (hrow : w'.ownsRow 0 46 6 (.slice A' (l.length + 1) c') (l.length + 1) (rowc (l ++ [x])))
    (hx : FrIn w' x) (hold : ∀ y ∈ l, ∀ k, blk? y.A = some k → w'.heap[k]? = w.heap[k]?) (hA : ∀ k, blk? A' = some k → ¬ X k ∧ (blk? A = some k ∨ ∀ y ∈ l, blk? y.A ≠ some k))
    (hxA : ∀ k, blk? x.A = some k → ¬ X k ∧ blk? A' ≠ some k ∧ ∀ y ∈ l, blk? y.A ≠ some k) : Rw (Sx S A' x) X w' A' c' (l ++ [x]) := by
  refine ⟨by simp; omega, by simpa using hrow, fun y hy => ?_, fun k hk => ⟨.inr (.inl hk), (hA k hk).1⟩, fun y hy k hk => ?_, ?_⟩
  · rcases List.mem_append.1 hy with h1 | h1
    · exact frIn_blk (h.fr y h1) (hold y h1)
    · rw [List.mem_singleton.1 h1]; exact hx
  · rcases List.mem_append.1 hy with h1 | h1
    · have h2 := h.inF y h1 k hk
      refine ⟨.inl h2.1, h2.2.1, fun e => ?_⟩
      rcases (hA k e).2 with h3 | h3
      · exact h2.2.2 h3
      · exact h3 y h1 hk
    · rw [List.mem_singleton.1 h1] at hk
      exact ⟨.inr (.inr hk), (hxA k hk).1, (hxA k hk).2.1⟩
  · rw [List.pairwise_append]
    refine ⟨h.pw, by simp, fun y hy z hz k hk e => ?_⟩
    rw [List.mem_singleton.1 hz] at e
    exact (hxA k e).2.2 y hy hk
/-- A new frame behind it, of which all new memory lies from B on. -/
theorem Rw.pushNew (h : Rw S X w A c l) {A' : Option Addr} {c' : Nat} {x : FrB} (hl : l.length < 1024) (hrow : w'.ownsRow 0 46 6 (.slice A' (l.length + 1) c') (l.length + 1) (rowc (l ++ [x])))
    (hx : FrIn w' x) (B : Nat) (hS : ∀ k, S k → k < B) (hX : ∀ k, X k → k < B) (hold : ∀ k, S k → ¬ X k → blk? A ≠ some k → w'.heap[k]? = w.heap[k]?) (hA : ∀ k, blk? A' = some k → blk? A = some k ∨ B ≤ k)
    (hxB : ∀ k, blk? x.A = some k → B ≤ k) (hne : ∀ k, blk? A' = some k → blk? x.A ≠ some k) : Rw (Sx S A' x) X w' A' c' (l ++ [x]) := by
  refine h.push hl hrow hx (fun y hy k hk => ?_) (fun k hk => ?_) (fun k hk => ⟨fun e => ?_, fun e => hne k e hk, fun y hy e => ?_⟩)
  · have := h.inF y hy k hk
    exact hold k this.1 this.2.1 this.2.2
  · rcases hA k hk with h1 | h1
    · exact ⟨(h.inA k h1).2, .inl h1⟩
    · exact ⟨fun e => by have := hX k e; omega, .inr fun y hy e => by have := hS k (h.inF y hy k e).1; omega⟩
  · have := hX k e; have := hxB k hk; omega
  · have := hS k (h.inF y hy k e).1; have := hxB k hk; omega
theorem Sx.sub {A' : Option Addr} {x : FrB} {w0 : World} (hA : ∀ k, blk? A' = some k → S k ∨ w0.heap.size ≤ k) (hx : ∀ k, blk? x.A = some k → S k ∨ w0.heap.size ≤ k) : Sub (Sx S A' x) S w0 := fun k hk => by
  rcases hk with h | h | h
  · exact .inl h
  · exact hA k h
  · exact hx k h
end
/-- A new frame's bytes, from block B on. -/
def Fresh (B : Nat) (x : FrB) (w : World) : Prop := OwnI .u8 5 B w x.A x.f.bytes.length x.c x.f.bytes
/-- One frame, as a slice of its own. -/
def PhS (B : Nat) (f : Nt.Fr) (G : FrB → World → Prop) (v : Value) (w : World) : Prop := ∃ g x, x.f = f ∧ G x w ∧ v = .slice (some ⟨g, 0, none⟩) 1 1 ∧ B ≤ g ∧ w.heap[g]? = some (.cells (frc x).toArray 46 (0, 0))
/-- A frame with bytes of its own. -/
def PhF (f : Nt.Fr) (G : FrB → World → Prop) (v : Value) (w : World) : Prop := ∃ x, x.f = f ∧ G x w ∧ v = frV x.f (.slice x.A x.f.bytes.length x.c)
/-- The bytes of one. -/
def PhA (f : Nt.Fr) (G : FrB → World → Prop) (v : Value) (w : World) : Prop := ∃ x, x.f = f ∧ G x w ∧ v = .slice x.A x.f.bytes.length x.c
/-- The row, one frame longer. -/
def PhR (B : Nat) (A : Option Addr) (l : List FrB) (f : Nt.Fr) (G : FrB → World → Prop) (v : Value) (w : World) : Prop := ∃ A' c' x, x.f = f ∧ G x w ∧ v = .slice A' (l.length + 1) c' ∧ w.ownsRow 0 46 6 (.slice A' (l.length + 1) c') (l.length + 1) (rowc (l ++ [x])) ∧
  (∀ k, blk? A' = some k → blk? A = some k ∨ B ≤ k) ∧ ∀ k, blk? A' = some k → blk? x.A ≠ some k
/-- Kept by what turns T alone, and by what grows. -/
def KpT (T : Nat → Prop) (φ : Value → World → Prop) : Prop := ∀ v w w', φ v w → Out T w w' → φ v w'
theorem KpT.keeps {T : Nat → Prop} {φ : Value → World → Prop} (h : KpT T φ) : Keeps φ := fun v w w' hf hu => h v w w' hf (hu.out _)
theorem KpT.mono {T T' : Nat → Prop} {φ : Value → World → Prop} (h : KpT T φ) (ht : ∀ k, T' k → T k) : KpT T' φ := fun v w w' hf ho => h v w w' hf (ho.mono ht)
theorem kpT_is (T : Nat → Prop) (x : Value) : KpT T (Is x) := fun _ _ _ h _ => h
theorem kpT_tru (T : Nat → Prop) : KpT T Tru := fun _ _ _ h _ => h
/-- The blocks that an append onto A in the object at b may turn. -/
def T0 (b : Nat) (A : Option Addr) : Nat → Prop := fun k => k = b ∨ blk? A = some k
/-- What is asked of what is said of a frame. -/
structure GOk (b : Nat) (A : Option Addr) (G : FrB → World → Prop) : Prop where
  keep : ∀ x w w', G x w → Out (T0 b A) w w' → G x w'
  lt : ∀ x w, G x w → ∀ k, blk? x.A = some k → k < w.heap.size ∧ blk? A ≠ some k
section
variable {b B : Nat} {A : Option Addr} {G : FrB → World → Prop} {f : Nt.Fr} {l : List FrB}
theorem kpT_PhA (h : GOk b A G) : KpT (T0 b A) (PhA f G) := fun v w w' ⟨x, e, hg, hv⟩ ho => ⟨x, e, h.keep x w w' hg ho, hv⟩
theorem kpT_PhF (h : GOk b A G) : KpT (T0 b A) (PhF f G) := fun v w w' ⟨x, e, hg, hv⟩ ho => ⟨x, e, h.keep x w w' hg ho, hv⟩
theorem kpT_PhS (h : GOk b A G) (hb : b < B) (hA : ∀ k, blk? A = some k → k < B) : KpT (T0 b A) (PhS B f G) := fun v w w' ⟨g, x, e, hg, hv, hB, hh⟩ ho => ⟨g, x, e, h.keep x w w' hg ho, hv, hB, ho.blk hh (fun ht => by
  rcases ht with ht | ht
  · omega
  · have := hA g ht; omega)⟩
theorem kpb_PhR (h : GOk b A G) (hb : b < B) (hA : ∀ k, blk? A = some k → k ≠ b) : KpT (fun k => k = b) (PhR B A l f G) := fun v w w' ⟨A', c', x, e, hg, hv, hr, h1, h2⟩ ho => ⟨A', c', x, e, h.keep x w w' hg (ho.mono fun k hk => .inl hk), hv, ho.own hr (fun g hg2 e2 => by
  rw [ownBlock_slice] at hg2
  rcases h1 g hg2 with h3 | h3
  · exact hA g h3 e2
  · omega), h1, h2⟩
theorem gok_fresh (hb : b < B) (hA : ∀ k, blk? A = some k → k < B) : GOk b A (Fresh B) := ⟨fun x w w' hg ho => ho.own hg (fun g hg2 ht => by
    have := (World.ownsRow.lt hg g hg2).1
    rcases ht with ht | ht
    · omega
    · have := hA g ht; omega), fun x w hg k hk => by
    have := World.ownsRow.lt hg k (by rw [ownBlock_slice]; exact hk)
    exact ⟨this.2, fun e => by have := hA k e; omega⟩⟩
theorem facts_ne {l : List (Value → World → Prop)} {T : Nat → Prop} {i : Nat} (h : ∀ j φ, l[j]? = some φ → j ≠ i → KpT T φ) : ∀ j v w w', j ≠ i → facts l j v w → Out T w w' → facts l j v w' := by
  intro j v w w' hj hf hu
  unfold facts at *
  rw [List.getD] at *
  cases hx : l[j]? with
  | none => simp
  | some φ =>
    rw [hx] at hf
    exact h j φ hx hj v w w' hf hu
theorem facts_kp {l : List (Value → World → Prop)} {T : Nat → Prop} (h : ∀ φ ∈ l, KpT T φ) : ∀ j v w w', facts l j v w → Out T w w' → facts l j v w' := by
  intro j v w w' hf hu
  unfold facts at *
  rw [List.getD] at *
  cases hx : l[j]? with
  | none => simp
  | some φ =>
    rw [hx] at hf
    exact h φ (List.mem_of_getElem? hx) v w w' hf hu
end
end Go.Proofs.Ytfbjhialjepodaa
namespace Go.Proofs.Ytfbjhialjepodaa
open Go Go.RowKit
set_option linter.unusedVariables false
theorem bslice_run (x : FrB) (w : World) : (Instr.buildSlice 29 1 #[(0, frV x.f (.slice x.A x.f.bytes.length x.c))]).run Try.prog w = .ok (.slice (some ⟨w.heap.size, 0, none⟩) 1 1) (w.alloc (.cells (frc x).toArray 46)) := by
  unfold frV
  kernel_rfl
theorem siz29' (w : World) : (Go.sizeOf 29).run Try.prog w = .ok 1 w := by kernel_rfl
theorem x_build {P : Program} {o : Oper} {a : Act} {w : World} (t : TypeId) (ps : Array (Nat × Operand)) {v : Value} (ho : o.op = .build t ps) (hr : (Instr.build t (ps.map fun (i, x) => (i, a.eval x))).run P w = .ok v w) : (execOp a.eval o).run P w = .ok (.value v) w := by simp [execOp, ho, hr, Result.andThen]
theorem build_frame (f t : Int × Int) (A : Option Addr) (n c : Nat) (w : World) : (Instr.build 46 #[(0, adV f), (1, adV t), (2, .slice A n c)]).run Try.prog w = .ok (.agg #[.int .i64 f.1, .int .i64 f.2, .int .i64 t.1, .int .i64 t.2, .slice A n c, .bool false]) w := by
  unfold adV
  kernel_rfl
theorem run_load46 {g o : Nat} {w : World} {x : FrB} (h : ∀ (j : Nat) (v : Value), (frc x)[j]? = some v → w.cell? ⟨g, o + j, none⟩ = some v) : (Instr.loadAt 46 (.pointer (some ⟨g, o, none⟩))).run Try.prog w = .ok (frV x.f (.slice x.A x.f.bytes.length x.c)) w := by
  have hl := run_loadCellsFrom_list Try.prog w ⟨g, o, none⟩ _ 6 (rfl : (frc x).length = 6) (fun j v hv => by rw [add_flat]; exact h j v hv)
  simp [Instr.loadAt, Instr.sureAddr, loadVar, Result.andThen, loadCells, hl, frV, frc]
/-- The world while a frame is appended to the row of the object at b. -/
def WApp (b : Nat) (T : TypeId) (cs : Option Addr → Nat → Nat → Array Value) (A : Option Addr) (l : List FrB) (f : Nt.Fr) (G : FrB → World → Prop) (w0 : World) : Nat → World → Prop
  | 0, w => Up w0 w
  | 1, w => Out (fun k => blk? A = some k) w0 w
  | _ + 2, w => ∃ A' c' x, x.f = f ∧ G x w ∧ w.heap[b]? = some (.cells (cs A' (l.length + 1) c') T (0, 0)) ∧ w.ownsRow 0 46 6 (.slice A' (l.length + 1) c') (l.length + 1) (rowc (l ++ [x])) ∧
      (∀ k, blk? A' = some k → blk? A = some k ∨ w0.heap.size ≤ k) ∧ (∀ k, blk? A' = some k → blk? x.A ≠ some k) ∧ Out (T0 b A) w0 w
section
variable {b : Nat} {T : TypeId} {cs : Option Addr → Nat → Nat → Array Value} {A : Option Addr} {l : List FrB} {f : Nt.Fr} {G : FrB → World → Prop} {w0 w w' : World} {n c : Nat}
theorem wApp_up (hG : GOk b A G) : ∀ {k : Nat}, WApp b T cs A l f G w0 k w → Up w w' → WApp b T cs A l f G w0 k w'
  | 0, h, hu => (show Up w0 w from h).trans hu
  | 1, h, hu => (show Out _ w0 w from h).trans (S' := No) (hu.out No) (fun _ h => h.elim)
  | _ + 2, ⟨A', c', x, h1, h2, h3, h4, h5, h6, h7⟩, hu => ⟨A', c', x, h1, hG.keep x w w' h2 (hu.out _), (hu.out No).blk h3 (fun h => h), own_up h4 hu, h5, h6, h7.trans (S' := No) (hu.out No) (fun _ h => h.elim)⟩
theorem wApp_old (hb : b < w0.heap.size) (hA : ∀ k, blk? A = some k → k ≠ b) (h : Up w0 w) {cells : Array Value} (h0 : w0.heap[b]? = some (.cells cells T (0, 0))) : w.heap[b]? = some (.cells cells T (0, 0)) := (h.block b hb).trans h0
theorem app_run (ty : TypeId) (hn : l.length < 1024) (hrow : w0.ownsRow 0 46 6 (.slice A l.length c) l.length (rowc l)) (hG : GOk b A G) (hw : Up w0 w) {v : Value} (hv : PhS w0.heap.size f G v w) :
    ∃ u w', (Builtin.append_ #[29, 29] ty #[.slice A l.length c, v]).run Try.prog w = .ok u w' ∧ Out (fun k => blk? A = some k) w w' ∧ PhR w0.heap.size A l f G u w' := by
  obtain ⟨g, x, hf, hg, rfl, hB, hh⟩ := hv
  have hrw := own_up hrow hw
  have hl2 : (rowc [x]) = frc x := by simp [rowc]
  obtain ⟨u, w', h1, h2, h3, h4⟩ := append_F (ty := ty) hrw (some ⟨g, 0, none⟩) 1 1 [x] rfl (fun j u hu => ⟨g, 0, rfl, cell_of hh (by rw [Nat.zero_add]; rw [hl2] at hu; simpa using hu)⟩) (by omega) (Nat.zero_le _)
  obtain ⟨A', c', rfl⟩ := own_slice h3
  rw [ownBlock_slice] at h4
  refine ⟨_, w', h1, h2, A', c', x, hf, hG.keep x w w' hg (h2.mono fun k hk => .inr hk), rfl, by rw [rowc_append]; exact h3, fun k hk => ?_, fun k hk => ?_⟩
  · rcases h4 with h4 | h4
    · exact .inl (by rw [← hk]; exact h4.symm)
    · rw [blk?, h4] at hk
      injection hk with hk
      exact .inr (by have := hw.size; omega)
  · intro e
    have := hG.lt x w hg k e
    rcases h4 with h4 | h4
    · exact this.2 (by rw [← hk]; exact h4.symm)
    · rw [blk?, h4] at hk
      injection hk with hk
      omega
theorem store_run (hb0 : w0.heap[b]? = some (.cells (cs A n c) T (0, 0))) (hset : ∀ A' n' c', (cs A n c).setIfInBounds 1 (.slice A' n' c') = cs A' n' c') (hsz : 1 < (cs A n c).size) (hA : ∀ k, blk? A = some k → k ≠ b) (hG : GOk b A G) (hw : Out (fun k => blk? A = some k) w0 w) {v : Value} (hv : PhR w0.heap.size A l f G v w) :
    ∃ w', (Instr.storeAt 29 (.pointer (some ⟨b, 1, none⟩)) v).run Try.prog w = .ok () w' ∧ WApp b T cs A l f G w0 2 w' ∧ Out (fun k => k = b) w w' := by
  obtain ⟨A', c', x, hf, hg, rfl, hr, h1, h2⟩ := hv
  have hbw := hw.blk hb0 (fun e => hA b e rfl)
  have hso := setCell_out w b 1 (.slice A' (l.length + 1) c')
  refine ⟨_, run_store1 siz29' hbw hsz rfl rfl, ⟨A', c', x, hf, hG.keep x w _ hg (hso.mono fun k hk => .inl hk), ?_, hso.own hr (fun g hg2 e => ?_), h1, h2, (hw.mono fun k hk => .inr hk).trans (hso.mono fun k hk => .inl hk) (Sub.refl _ _)⟩, hso⟩
  · rw [setCell_at _ hbw, hset]
  · rw [ownBlock_slice] at hg2
    rcases h1 g hg2 with h3 | h3
    · exact hA g h3 e
    · have := lt_of_blk hb0; omega
end
end Go.Proofs.Ytfbjhialjepodaa
namespace Go.Proofs.Ytfbjhialjepodaa
open Go Go.RowKit
set_option linter.unusedVariables false
/-- 'copied'. -/
theorem copied_ok (f : Nt.Fr) (A : Option Addr) (n c : Nat) (w : World) (h : InB w A n c f.bytes) (hn : n ≤ 4096) :
    Calls Try.prog 32 #[frV f (.slice A n c)] w fun e w' => ∃ A' c', e = .returned (frV f (.slice A' n c')) ∧ OwnI .u8 5 w.heap.size w' A' n c' f.bytes ∧ Up w w' := by
  have HI := Lib.hid h
  clear h
  unfold frV
  go_enter Try.func32, Try.ntmps32
  go_upto_region 1 with (fail)
  have hF := (up_alloc (w.alloc (.cells #[.int .i64 f.fh, .int .i64 f.fp, .int .i64 f.th, .int .i64 f.tp, .slice A n c, .bool f.tn] 46)) (.cells #[.int .i64 0, .int .i64 0, .int .i64 0, .int .i64 0, .slice none 0 0, .bool false] 46)).block w.heap.size (lt_of_blk (new_at w (.cells #[.int .i64 f.fh, .int .i64 f.fp, .int .i64 f.th, .int .i64 f.tp, .slice A n c, .bool f.tn] 46)))
  rw [new_at w (.cells #[.int .i64 f.fh, .int .i64 f.fp, .int .i64 f.th, .int .i64 f.tp, .slice A n c, .bool f.tn] 46)] at hF
  have hZ := new_at (w.alloc (.cells #[.int .i64 f.fh, .int .i64 f.fp, .int .i64 f.th, .int .i64 f.tp, .slice A n c, .bool f.tn] 46)) (.cells #[.int .i64 0, .int .i64 0, .int .i64 0, .int .i64 0, .slice none 0 0, .bool false] 46)
  have hs1 : (w.alloc (.cells #[.int .i64 f.fh, .int .i64 f.fp, .int .i64 f.th, .int .i64 f.tp, .slice A n c, .bool f.tn] 46)).heap.size = w.heap.size + 1 := by simp
  rw [hs1] at hZ
  have HU := Lib.hid ((up_alloc w (.cells #[.int .i64 f.fh, .int .i64 f.fp, .int .i64 f.th, .int .i64 f.tp, .slice A n c, .bool f.tn] 46)).trans (up_alloc _ (.cells #[.int .i64 0, .int .i64 0, .int .i64 0, .int .i64 0, .slice none 0 0, .bool false] 46)))
  clear hs1
  generalize ((w.alloc (.cells #[.int .i64 f.fh, .int .i64 f.fp, .int .i64 f.th, .int .i64 f.tp, .slice A n c, .bool f.tn] 46)).alloc (.cells #[.int .i64 0, .int .i64 0, .int .i64 0, .int .i64 0, .slice none 0 0, .bool false] 46)) = W at hF hZ HU ⊢
  obtain ⟨bx, hbx⟩ : ∃ bx, bx = w.heap.size := ⟨_, rfl⟩
  rw [← hbx] at hF hZ ⊢
  have HBX := Lib.hid hbx
  have c4 := cell_of hF (j := 4) rfl
  have HF := Lib.hid hF
  have HZ := Lib.hid hZ
  clear hF hZ hbx
  go_wp2_with fail
  refine (clone_ok A n c f.bytes W (HI.out.up HU.out) (by omega)).mono ?_
  rintro e w3 ⟨A3, c3, rfl, hw3, hu3⟩
  have HF3 := Lib.hid ((hu3.block bx (lt_of_blk HF.out)).trans HF.out)
  have HZ3 := Lib.hid ((hu3.block (bx + 1) (lt_of_blk HZ.out)).trans HZ.out)
  have HW3 := Lib.hid hw3
  have HU3 := Lib.hid hu3
  clear hw3 hu3 c4
  have f0 : w3.cell? ⟨bx, 0, none⟩ = some (.int .i64 f.fh) := cell_of HF3.out (j := 0) rfl
  have e0 : w3.cell? ⟨bx + 1, 0, none⟩ = some (.int .i64 0) := cell_of HZ3.out (j := 0) rfl
  have g0 : w3.frozen? ⟨bx + 1, 0, none⟩ = false := frozen_at (j := 0) HZ3.out
  have f1 : w3.cell? ⟨bx, 1, none⟩ = some (.int .i64 f.fp) := cell_of HF3.out (j := 1) rfl
  have e1 : w3.cell? ⟨bx + 1, 1, none⟩ = some (.int .i64 0) := cell_of HZ3.out (j := 1) rfl
  have g1 : w3.frozen? ⟨bx + 1, 1, none⟩ = false := frozen_at (j := 1) HZ3.out
  have f2 : w3.cell? ⟨bx, 2, none⟩ = some (.int .i64 f.th) := cell_of HF3.out (j := 2) rfl
  have e2 : w3.cell? ⟨bx + 1, 2, none⟩ = some (.int .i64 0) := cell_of HZ3.out (j := 2) rfl
  have g2 : w3.frozen? ⟨bx + 1, 2, none⟩ = false := frozen_at (j := 2) HZ3.out
  have f3 : w3.cell? ⟨bx, 3, none⟩ = some (.int .i64 f.tp) := cell_of HF3.out (j := 3) rfl
  have e3 : w3.cell? ⟨bx + 1, 3, none⟩ = some (.int .i64 0) := cell_of HZ3.out (j := 3) rfl
  have g3 : w3.frozen? ⟨bx + 1, 3, none⟩ = false := frozen_at (j := 3) HZ3.out
  have f4 : w3.cell? ⟨bx, 4, none⟩ = some (.slice A n c) := cell_of HF3.out (j := 4) rfl
  have e4 : w3.cell? ⟨bx + 1, 4, none⟩ = some (.slice none 0 0) := cell_of HZ3.out (j := 4) rfl
  have g4 : w3.frozen? ⟨bx + 1, 4, none⟩ = false := frozen_at (j := 4) HZ3.out
  have f5 : w3.cell? ⟨bx, 5, none⟩ = some (.bool f.tn) := cell_of HF3.out (j := 5) rfl
  have e5 : w3.cell? ⟨bx + 1, 5, none⟩ = some (.bool false) := cell_of HZ3.out (j := 5) rfl
  have g5 : w3.frozen? ⟨bx + 1, 5, none⟩ = false := frozen_at (j := 5) HZ3.out
  have z4 : w3.frozen? ⟨bx, 4, none⟩ = false := frozen_at (j := 4) HF3.out
  go_wp2_with fail
  have h4 : (w3.setCell ⟨bx, 4, none⟩ (.slice A3 n c3)).heap[bx + 1]? = _ := (heap_setCell_other w3 ⟨bx, 4, none⟩ (bx + 1) (.slice A3 n c3) (by simp)).trans HZ3.out
  have h5 := setCell_at (j := 0) (.int .i64 f.fh) h4
  have h6 := setCell_at (j := 1) (.int .i64 f.fp) h5
  have h7 := setCell_at (j := 2) (.int .i64 f.th) h6
  have h8 := setCell_at (j := 3) (.int .i64 f.tp) h7
  have h9 := setCell_at (j := 4) (.slice A3 n c3) h8
  have h10 := setCell_at (j := 5) (.bool f.tn) h9
  have hb3 : w.heap.size ≤ bx := by rw [HBX.out]; exact Nat.le_refl _
  have hown := HW3.out
  have hlt := lt_of_blk HF.out
  have hlz := lt_of_blk HZ.out
  have hO : Out (fun k => k = bx ∨ k = bx + 1) w3 ((((((((w3.setCell ⟨bx, 4, none⟩ (.slice A3 n c3)).setCell ⟨bx + 1, 0, none⟩ (.int .i64 f.fh)).setCell ⟨bx + 1, 1, none⟩ (.int .i64 f.fp)).setCell ⟨bx + 1, 2, none⟩ (.int .i64 f.th)).setCell ⟨bx + 1, 3, none⟩ (.int .i64 f.tp)).setCell ⟨bx + 1, 4, none⟩ (.slice A3 n c3)).setCell ⟨bx + 1, 5, none⟩ (.bool f.tn))) := by
    have st : ∀ (W : World) (b' j : Nat) (v : Value), (b' = bx ∨ b' = bx + 1) → Out (fun k => k = bx ∨ k = bx + 1) W (W.setCell ⟨b', j, none⟩ v) := fun W b' j v hb => (setCell_out W b' j v).mono (fun k hk => by rw [hk]; exact hb)
    exact (((((((st _ _ _ _ (.inl rfl)).trans (st _ _ _ _ (.inr rfl)) (Sub.refl _ _)).trans (st _ _ _ _ (.inr rfl)) (Sub.refl _ _)).trans (st _ _ _ _ (.inr rfl)) (Sub.refl _ _)).trans (st _ _ _ _ (.inr rfl)) (Sub.refl _ _)).trans (st _ _ _ _ (.inr rfl)) (Sub.refl _ _)).trans (st _ _ _ _ (.inr rfl)) (Sub.refl _ _))
  refine bodyPost_ret (v := frV f (.slice A3 n c3)) (results_cell_row rfl _ _ _ 46 _ (0, 0) _ rfl h10 Try.underlying46 rfl rfl) rfl ⟨A3, c3, rfl, ?_, ?_⟩
  · refine OwnI.mono (Out.own hO (show OwnI .u8 5 W.heap.size w3 A3 n c3 f.bytes from hown) (fun g hg hs => ?_)) HU.out.size
    have := (World.ownsRow.lt hown g hg).1
    omega
  · have hU3 : Up w w3 := HU.out.trans HU3.out
    exact Below.out hU3 hO (fun k hk => by rcases hk with hk | hk <;> omega) hU3.size
end Go.Proofs.Ytfbjhialjepodaa
