import Derived.Test.YtfbjhialjepodaaNtAct
import Derived.Test.YtfbjhialjepodaaFineM
import Derived.Test.YtfbjhialjepodaaNtL5a
import Derived.Shelf.SlicesQ.Load
namespace Go.Proofs.Ytfbjhialjepodaa
open Go Go.RowKit
set_option linter.unusedVariables false
theorem siz37 (w : World) : (Go.sizeOf 37).run Try.prog w = .ok 2 w := by kernel_rfl
theorem run_load37 {b o : Nat} {w : World} {m n : Int} (h0 : w.cell? ⟨b, o, none⟩ = some (.int .i64 m)) (h1 : w.cell? ⟨b, o + 1, none⟩ = some (.int .i64 n)) : (Instr.loadAt 37 (.pointer (some ⟨b, o, none⟩))).run Try.prog w = .ok (adV (m, n)) w := by
  have hc : ∀ (j : Nat) (v : Value), [Value.int .i64 m, .int .i64 n][j]? = some v → w.cell? ((⟨b, o, none⟩ : Addr).add j) = some v := fun j v hv => by
    rw [add_flat]
    match j, hv with
    | 0, hv => cases hv; exact h0
    | 1, hv => cases hv; exact h1
  have hl := run_loadCellsFrom_list Try.prog w ⟨b, o, none⟩ _ 2 rfl hc
  simp [Instr.loadAt, Instr.sureAddr, loadVar, Result.andThen, loadCells, hl, adV]
/-- Kept by what turns no block from B on. -/
def KeepsO (B : Nat) (φ : Value → World → Prop) : Prop := ∀ v w w', φ v w → Out (fun k => k < B) w w' → φ v w'
theorem KeepsO.keeps {B : Nat} {φ : Value → World → Prop} (h : KeepsO B φ) : Keeps φ := fun v w w' hf hu => h v w w' hf (hu.out _)
theorem keepsO_is (B : Nat) (x : Value) : KeepsO B (Is x) := fun _ _ _ h _ => h
theorem facts_keepO {B : Nat} {l : List (Value → World → Prop)} (h : ∀ φ ∈ l, KeepsO B φ) : ∀ i v w w', facts l i v w → Out (fun k => k < B) w w' → facts l i v w' := by
  intro i v w w' hf hu
  unfold facts at *
  rw [List.getD] at *
  cases hx : l[i]? with
  | none => simp
  | some φ =>
    rw [hx] at hf
    exact h φ (List.mem_of_getElem? hx) v w w' hf hu
/-- '[]byte{}', of the call's own. -/
def F5 (B : Nat) (v : Value) (w : World) : Prop := ∃ A, v = .slice A 0 0 ∧ OwnI .u8 5 B w A 0 0 []
def F8 (B : Nat) (bs : List Int) (v : Value) (w : World) : Prop := ∃ A c, v = .slice A bs.length c ∧ InB w A bs.length c bs ∧ ∀ b, blk? A = some b → B ≤ b
theorem own_from {k : IntKind} {E : TypeId} {B : Nat} {w : World} {A : Option Addr} {n c : Nat} {xs : List Int} (h : OwnI k E B w A n c xs) : ∀ b, blk? A = some b → B ≤ b := fun b hb => (World.ownsRow.lt h b (by rw [ownBlock_slice]; exact hb)).1
theorem keepsO_F5 (B : Nat) : KeepsO B (F5 B) := fun v w w' ⟨A, e, h⟩ ho => ⟨A, e, Out.own ho h (fun g hg hn => by have := (World.ownsRow.lt h g hg).1; omega)⟩
theorem keepsO_F8 (B : Nat) (bs : List Int) : KeepsO B (F8 B bs) := fun v w w' ⟨A, c, e, h, hb⟩ ho => ⟨A, c, e, inB_out h ho (fun b hb' hn => by have := hb b hb'; omega), hb⟩
section
variable {IsN IsR : (Nat → Prop) → World → Addr → Nt.St → Prop}
/-- Both nets within these very blocks, and the act's block. -/
def AtF (IsN IsR : (Nat → Prop) → World → Addr → Nt.St → Prop) (w0 : World) (p r : Addr) (ab : Nat) (cs : Array Value) (st sr : Nt.St) (S Sr : Nat → Prop) (w : World) : Prop :=
  IsN S w p st ∧ IsR Sr w r sr ∧ (∀ k, S k → ¬ Sr k) ∧ (From w0.heap.size S ∧ From w0.heap.size Sr) ∧ Below w0.heap.size w0 w ∧ (¬ S ab ∧ ¬ Sr ab) ∧ w.heap[ab]? = some (.cells cs 40 (0, 0))
theorem atF_up (C : NC IsN) (R : RC IsR) {w0 w w' : World} {p r : Addr} {ab : Nat} {cs : Array Value} {st sr : Nt.St} {S Sr : Nat → Prop} (h : AtF IsN IsR w0 p r ab cs st sr S Sr w) (hu : Up w w') : AtF IsN IsR w0 p r ab cs st sr S Sr w' := by
  obtain ⟨h1, h2, h3, h4, h5, h6, h7⟩ := h
  exact ⟨C.up h1 hu, R.keep h2 (fun k hk => hu.block k (R.lt h2 k hk)), h3, h4, h5.trans (hu.mono h5.size), h6, (hu.block ab (lt_of_blk h7)).trans h7⟩
/-- The world while bytes are sent; B: its size ahead of it. -/
def ActV (IsN IsR : (Nat → Prop) → World → Addr → Nt.St → Prop) (w0 : World) (p r : Addr) (ab : Nat) (cs : Array Value) (st sr st' sr' : Nt.St) (S Sr : Nat → Prop) (B : Nat) : Nat → World → Prop
  | 0, w => AtF IsN IsR w0 p r ab cs st sr S Sr w ∧ B ≤ w.heap.size
  | 1, w => ∃ S', AtF IsN IsR w0 p r ab cs st' sr S' Sr w ∧ B ≤ w.heap.size
  | _ + 2, w => AtB IsN IsR w0 p r ab cs st' sr' w ∧ B ≤ w.heap.size
section
variable {w0 w w' : World} {p r : Addr} {ab : Nat} {cs : Array Value} {st sr st' sr' : Nt.St} {S Sr : Nat → Prop} {B : Nat}
theorem actV_up (C : NC IsN) (R : RC IsR) : ∀ {k : Nat}, ActV IsN IsR w0 p r ab cs st sr st' sr' S Sr B k w → Up w w' → ActV IsN IsR w0 p r ab cs st sr st' sr' S Sr B k w'
  | 0, h, hu => ⟨atF_up C R h.1 hu, Nat.le_trans h.2 hu.size⟩
  | 1, ⟨S', h⟩, hu => ⟨S', atF_up C R h.1 hu, Nat.le_trans h.2 hu.size⟩
  | _ + 2, h, hu => ⟨atB_up C R h.1 hu, Nat.le_trans h.2 hu.size⟩
theorem actV_size : ∀ {k : Nat}, ActV IsN IsR w0 p r ab cs st sr st' sr' S Sr B k w → B ≤ w.heap.size
  | 0, h => h.2
  | 1, ⟨S', h⟩ => h.2
  | _ + 2, h => h.2
theorem atF_B (h : AtF IsN IsR w0 p r ab cs st sr S Sr w) : AtB IsN IsR w0 p r ab cs st sr w := ⟨S, Sr, h⟩
theorem actV_cell {j : Nat} {v : Value} : ∀ {k : Nat}, ActV IsN IsR w0 p r ab cs st sr st' sr' S Sr B k w → cs[j]? = some v → w.cell? ⟨ab, j, none⟩ = some v
  | 0, h, hv => atB_cell (atF_B h.1) hv
  | 1, ⟨S', h⟩, hv => atB_cell (atF_B h.1) hv
  | _ + 2, h, hv => atB_cell h.1 hv
theorem atB_in {A : Option Addr} {n c : Nat} {xs : List Int} (h : AtB IsN IsR w0 p r ab cs st sr w) (hi : InB w0 A n c xs) : InB w A n c xs := by
  obtain ⟨S, Sr, h1, h2, h3, h4, h5, _⟩ := h
  exact hi.up h5
theorem actV_in {A : Option Addr} {n c : Nat} {xs : List Int} : ∀ {k : Nat}, ActV IsN IsR w0 p r ab cs st sr st' sr' S Sr B k w → InB w0 A n c xs → InB w A n c xs
  | 0, h, hi => atB_in (atF_B h.1) hi
  | 1, ⟨S', h⟩, hi => atB_in (atF_B h.1) hi
  | _ + 2, h, hi => atB_in h.1 hi
theorem sendV_net (C : NC IsN) (R : RC IsR) {f : Nat} {l : List (Value → World → Prop)} {x : ActD} {A : Option Addr} {n c : Nat} (h : AtF IsN IsR w0 p r ab cs st sr S Sr w) (hB : B ≤ w.heap.size) (hS : ∀ k, S k → k < B) (hl : ∀ φ ∈ l, KeepsO B φ) (hx : InB w A n c x.bytes) (hb : ∀ b, blk? A = some b → B ≤ b)
    (i1 : I64n x.fh) (i2 : I64n x.fp) (i3 : I64n x.th) (i4 : I64n x.tp) (hn : n ≤ 140737488351232) (hf : l[f]? = some (Is (.int .i64 (Nt.sendE st (x.fh, x.fp) (x.th, x.tp) x.bytes))) := by rfl) :
    Calls Try.prog 12 #[.pointer (some p), adV (x.fh, x.fp), adV (x.th, x.tp), .slice A n c] w fun e w2 => ∃ v, e = .returned v ∧ ActV IsN IsR w0 p r ab cs st sr (Nt.sendS st (x.fh, x.fp) (x.th, x.tp) x.bytes) sr' S Sr B 1 w2 ∧ facts l f v w2 ∧ ∀ j y, j ≠ f → facts l j y w → facts l j y w2 := by
  obtain ⟨h1, h2, h3, ⟨h4, h4'⟩, h5, h6, h7⟩ := h
  refine (C.send S p st (x.fh, x.fp) (x.th, x.tp) A n c x.bytes w h1 hx (fun b hb' hs => by have := hb b hb'; have := hS b hs; omega) i1 i2 i3 i4 hn).mono fun e w2 ⟨S', he, k1, k2, k3⟩ => ⟨_, he, ⟨S', ⟨k1, R.keep h2 (fun k hk => k3.block k (R.lt h2 k hk) (fun hs => h3 k hs hk)), fun k hk hr => ?_, ⟨h4.sub k2 h5.size, h4'⟩, Below.out h5 k3 h4 h5.size, ⟨Out.not k2 h6.1 (lt_of_blk h7), h6.2⟩, k3.blk h7 h6.1⟩, Nat.le_trans hB k3.size⟩, ?_, fun j y _ hy => facts_keepO hl j y w w2 hy (k3.mono hS)⟩
  · rcases k2 k hk with h8 | h8
    · exact h3 k h8 hr
    · have := R.lt h2 k hr; omega
  · simp [facts, hf, Is]
theorem sendV_ref (C : NC IsN) (R : RC IsR) {f : Nat} {l : List (Value → World → Prop)} {x : ActD} {A : Option Addr} {n c : Nat} (h : ∃ S', AtF IsN IsR w0 p r ab cs st' sr S' Sr w ∧ B ≤ w.heap.size) (hS : ∀ k, Sr k → k < B) (hl : ∀ φ ∈ l, KeepsO B φ) (hx : InB w0 A n c x.bytes)
    (i1 : I64n x.fh) (i2 : I64n x.fp) (i3 : I64n x.th) (i4 : I64n x.tp) (hn : n ≤ 140737488351232) (hf : l[f]? = some (Is (.int .i64 (Nt.sendE sr (x.fh, x.fp) (x.th, x.tp) x.bytes))) := by rfl) :
    Calls Try.prog 21 #[.pointer (some r), adV (x.fh, x.fp), adV (x.th, x.tp), .slice A n c] w fun e w2 => ∃ v, e = .returned v ∧ ActV IsN IsR w0 p r ab cs st sr st' (Nt.sendS sr (x.fh, x.fp) (x.th, x.tp) x.bytes) S Sr B 2 w2 ∧ facts l f v w2 ∧ ∀ j y, j ≠ f → facts l j y w → facts l j y w2 := by
  obtain ⟨S', ⟨h1, h2, h3, ⟨h4, h4'⟩, h5, h6, h7⟩, hB⟩ := h
  refine (R.send Sr r sr (x.fh, x.fp) (x.th, x.tp) A n c x.bytes w h2 (hx.up h5) i1 i2 i3 i4 hn).mono fun e w2 ⟨S2, he, k1, k2, k3⟩ => ⟨_, he, ⟨⟨S', S2, C.keep h1 (fun k hk => k3.block k (C.lt h1 k hk) (h3 k hk)), k1, fun k hk hr => ?_, ⟨h4, h4'.sub k2 h5.size⟩, Below.out h5 k3 h4' h5.size, ⟨h6.1, Out.not k2 h6.2 (lt_of_blk h7)⟩, k3.blk h7 h6.2⟩, Nat.le_trans hB k3.size⟩, ?_, fun j y _ hy => facts_keepO hl j y w w2 hy (k3.mono hS)⟩
  · rcases k2 k hr with h8 | h8
    · exact h3 k hk h8
    · have := C.lt h1 k hk; omega
  · simp [facts, hf, Is]
end
set_option maxRecDepth 100000 in
set_option maxHeartbeats 2000000 in
theorem act_send (C : NC IsN) (R : RC IsR) (w0 : World) (p r : Addr) (st sr : Nt.St) (x : ActD) (Ai : Option Addr) (ci : Nat) (w : World) (h : AtD IsN IsR w0 p r st sr w) (hx : ActOk w0 x Ai ci) :
    Calls Try.prog 10 #[.pointer (some p), .pointer (some r), .agg #[.int .i64 1, .int .i64 x.k, .int .i64 x.at_, .int .i64 x.fh, .int .i64 x.fp, .int .i64 x.th, .int .i64 x.tp, .slice Ai x.bytes.length ci, .int .u8 x.bits, .bool x.down]] w fun e w' => e = .returned (.bool (Nt.sendE st (x.fh, x.fp) (x.th, x.tp) x.bytes == Nt.sendE sr (x.fh, x.fp) (x.th, x.tp) x.bytes)) ∧ AtD IsN IsR w0 p r (Nt.sendS st (x.fh, x.fp) (x.th, x.tp) x.bytes) (Nt.sendS sr (x.fh, x.fp) (x.th, x.tp) x.bytes) w' := by
  obtain ⟨S, Sr, hF⟩ := atB_of C R h #[.int .i64 1, .int .i64 x.k, .int .i64 x.at_, .int .i64 x.fh, .int .i64 x.fp, .int .i64 x.th, .int .i64 x.tp, .slice Ai x.bytes.length ci, .int .u8 x.bits, .bool x.down]
  have HC := Lib.hid C
  have HR := Lib.hid R
  have HX := Lib.hid hx
  have HF := Lib.hid (show AtF IsN IsR w0 p r w.heap.size #[.int .i64 1, .int .i64 x.k, .int .i64 x.at_, .int .i64 x.fh, .int .i64 x.fp, .int .i64 x.th, .int .i64 x.tp, .slice Ai x.bytes.length ci, .int .u8 x.bits, .bool x.down] st sr S Sr _ from hF)
  clear C R h hx hF
  go_enter Try.func10, Try.ntmps10
  go_upto_region 3 with (fail)
  generalize (w.alloc (.cells #[.int .i64 1, .int .i64 x.k, .int .i64 x.at_, .int .i64 x.fh, .int .i64 x.fp, .int .i64 x.th, .int .i64 x.tp, .slice Ai x.bytes.length ci, .int .u8 x.bits, .bool x.down] 40)) = W at HF ⊢
  generalize w.heap.size = ab at HF ⊢
  have HL := Lib.hid (show (∀ k, S k → k < W.heap.size) ∧ ∀ k, Sr k → k < W.heap.size from ⟨HC.out.lt HF.out.1, HR.out.lt HF.out.2.1⟩)
  have HK8 : ∀ φ ∈ ([Is (.pointer (some p)), Is (.pointer (some ⟨ab, 3, none⟩)), Is (adV (x.fh, x.fp)), Is (.pointer (some ⟨ab, 5, none⟩)), Is (adV (x.th, x.tp)), F5 W.heap.size, Is (.pointer (some ⟨ab, 7, none⟩)), Is (.slice Ai x.bytes.length ci), F8 W.heap.size x.bytes, Is (.int .i64 (Nt.sendE st (x.fh, x.fp) (x.th, x.tp) x.bytes)), Is (.pointer (some r)), Is (.pointer (some ⟨ab, 3, none⟩)), Is (adV (x.fh, x.fp)), Is (.pointer (some ⟨ab, 5, none⟩)), Is (adV (x.th, x.tp)), Is (.pointer (some ⟨ab, 7, none⟩)), Is (.slice Ai x.bytes.length ci), Is (.int .i64 (Nt.sendE sr (x.fh, x.fp) (x.th, x.tp) x.bytes)), Is (.bool (Nt.sendE st (x.fh, x.fp) (x.th, x.tp) x.bytes == Nt.sendE sr (x.fh, x.fp) (x.th, x.tp) x.bytes)), Is (.bool (Nt.sendE st (x.fh, x.fp) (x.th, x.tp) x.bytes == Nt.sendE sr (x.fh, x.fp) (x.th, x.tp) x.bytes))] : List (Value → World → Prop)), KeepsO W.heap.size φ := by simp [keepsO_is, keepsO_F5, keepsO_F8]
  have HK5 : ∀ φ ∈ ([Is (.pointer (some p)), Is (.pointer (some ⟨ab, 3, none⟩)), Is (adV (x.fh, x.fp)), Is (.pointer (some ⟨ab, 5, none⟩)), Is (adV (x.th, x.tp)), F5 W.heap.size, Is (.pointer (some ⟨ab, 7, none⟩)), Is (.slice Ai x.bytes.length ci), F8 W.heap.size x.bytes, Is (.int .i64 (Nt.sendE st (x.fh, x.fp) (x.th, x.tp) x.bytes)), Is (.pointer (some r)), Is (.pointer (some ⟨ab, 3, none⟩)), Is (adV (x.fh, x.fp)), Is (.pointer (some ⟨ab, 5, none⟩)), Is (adV (x.th, x.tp)), Is (.pointer (some ⟨ab, 7, none⟩)), Is (.slice Ai x.bytes.length ci), Is (.int .i64 (Nt.sendE sr (x.fh, x.fp) (x.th, x.tp) x.bytes)), Is (.bool (Nt.sendE st (x.fh, x.fp) (x.th, x.tp) x.bytes == Nt.sendE sr (x.fh, x.fp) (x.th, x.tp) x.bytes)), Is (.bool (Nt.sendE st (x.fh, x.fp) (x.th, x.tp) x.bytes == Nt.sendE sr (x.fh, x.fp) (x.th, x.tp) x.bytes))] : List (Value → World → Prop)), Keeps φ := fun φ h => (HK8 φ h).keeps
  refine staged_lit (by kernel_rfl) (facts [Is (.pointer (some p)), Is (.pointer (some ⟨ab, 3, none⟩)), Is (adV (x.fh, x.fp)), Is (.pointer (some ⟨ab, 5, none⟩)), Is (adV (x.th, x.tp)), F5 W.heap.size, Is (.pointer (some ⟨ab, 7, none⟩)), Is (.slice Ai x.bytes.length ci), F8 W.heap.size x.bytes, Is (.int .i64 (Nt.sendE st (x.fh, x.fp) (x.th, x.tp) x.bytes)), Is (.pointer (some r)), Is (.pointer (some ⟨ab, 3, none⟩)), Is (adV (x.fh, x.fp)), Is (.pointer (some ⟨ab, 5, none⟩)), Is (adV (x.th, x.tp)), Is (.pointer (some ⟨ab, 7, none⟩)), Is (.slice Ai x.bytes.length ci), Is (.int .i64 (Nt.sendE sr (x.fh, x.fp) (x.th, x.tp) x.bytes)), Is (.bool (Nt.sendE st (x.fh, x.fp) (x.th, x.tp) x.bytes == Nt.sendE sr (x.fh, x.fp) (x.th, x.tp) x.bytes)), Is (.bool (Nt.sendE st (x.fh, x.fp) (x.th, x.tp) x.bytes == Nt.sendE sr (x.fh, x.fp) (x.th, x.tp) x.bytes))]) (Stg [9, 17] (ActV IsN IsR w0 p r ab #[.int .i64 1, .int .i64 x.k, .int .i64 x.at_, .int .i64 x.fh, .int .i64 x.fp, .int .i64 x.th, .int .i64 x.tp, .slice Ai x.bytes.length ci, .int .u8 x.bits, .bool x.down] st sr (Nt.sendS st (x.fh, x.fp) (x.th, x.tp) x.bytes) (Nt.sendS sr (x.fh, x.fp) (x.th, x.tp) x.bytes) S Sr W.heap.size)) 128 rfl (by decide +kernel) (by decide +kernel) (Stg.start ⟨atF_up HC.out HR.out HF.out (Up.drew W), Nat.le_refl _⟩) ?_ ?_
  · refine ⟨?_, ?_, ?_, ?_, ?_, ?_, ?_, ?_, ?_, ?_, ?_, ?_, ?_, ?_, ?_, ?_, ?_, ?_, ?_, ?_, trivial⟩
    · refine opS_same rfl rfl fun L ac w1 hJ hl hc ho hd => ?_
      have s0 : ac.eval (.tmp 0) = .pointer (some p) := ho 0 rfl
      exact ⟨_, x_move (.tmp 0) rfl s0, rfl⟩
    · refine opS_same rfl rfl fun L ac w1 hJ hl hc ho hd => ?_
      have s5 : ac.eval (.tmp 5) = .pointer (some ⟨ab, 0, none⟩) := ho 5 rfl
      exact ⟨_, x_field 40 (.tmp 5) 3 rfl s5 (fld403 _ _ _), rfl⟩
    · refine opS_same rfl rfl fun L ac w1 hJ hl hc ho hd => ?_
      have d1 : ac.eval (.tmp 16) = .pointer (some ⟨ab, 3, none⟩) := hd 1 _ _ rfl rfl rfl
      obtain ⟨_, _, hW⟩ := hJ
      exact ⟨_, x_load 37 (.tmp 16) rfl d1 (run_load37 (actV_cell hW (j := 3) rfl) (actV_cell hW (j := 4) rfl)), rfl⟩
    · refine opS_same rfl rfl fun L ac w1 hJ hl hc ho hd => ?_
      have s5 : ac.eval (.tmp 5) = .pointer (some ⟨ab, 0, none⟩) := ho 5 rfl
      exact ⟨_, x_field 40 (.tmp 5) 4 rfl s5 (fld404 _ _ _), rfl⟩
    · refine opS_same rfl rfl fun L ac w1 hJ hl hc ho hd => ?_
      have d3 : ac.eval (.tmp 18) = .pointer (some ⟨ab, 5, none⟩) := hd 3 _ _ rfl rfl rfl
      obtain ⟨_, _, hW⟩ := hJ
      exact ⟨_, x_load 37 (.tmp 18) rfl d3 (run_load37 (actV_cell hW (j := 5) rfl) (actV_cell hW (j := 6) rfl)), rfl⟩
    · refine opS_grow rfl rfl (fun k w w' => actV_up HC.out HR.out) (facts_keep HK5) fun L ac w1 hJ hl hc ho hd => ?_
      obtain ⟨_, _, hW⟩ := hJ
      exact fine_slice0 38 .u8 5 W.heap.size rfl (fun W => by kernel_rfl) (actV_size hW) (fun A' w' _ h => ⟨A', rfl, h⟩)
    · refine opS_same rfl rfl fun L ac w1 hJ hl hc ho hd => ?_
      have s5 : ac.eval (.tmp 5) = .pointer (some ⟨ab, 0, none⟩) := ho 5 rfl
      exact ⟨_, x_field 40 (.tmp 5) 5 rfl s5 (fld405 _ _ _), rfl⟩
    · refine opS_same rfl rfl fun L ac w1 hJ hl hc ho hd => ?_
      have d6 : ac.eval (.tmp 21) = .pointer (some ⟨ab, 7, none⟩) := hd 6 _ _ rfl rfl rfl
      obtain ⟨_, _, hW⟩ := hJ
      exact ⟨_, x_load 38 (.tmp 21) rfl d6 (run_load1 agg38 (actV_cell hW (j := 7) rfl)), rfl⟩
    · refine opS_grow rfl rfl (fun k w w' => actV_up HC.out HR.out) (facts_keep HK5) fun L ac w1 hJ hl hc ho hd => ?_
      have d5 := hd 5 _ _ rfl rfl rfl
      have d7 : ac.eval (.tmp 22) = .slice Ai x.bytes.length ci := hd 7 _ _ rfl rfl rfl
      obtain ⟨_, _, hW⟩ := hJ
      obtain ⟨A0, e0, o0⟩ := d5
      have hx8 := actV_in hW HX.out.bytes
      exact fine_appendNew (.tmp 20) (.tmp 22) 38 rfl .u8 5 1 Try.underlying38 (by kernel_rfl) W.heap.size A0 e0 o0 Ai x.bytes.length ci x.bytes d7 rfl hx8.cells (by have := HX.out.reach; omega) (by have := HX.out.reach; omega) (actV_size hW) (fun A' c' w' hu h hn => ⟨A', c', rfl, own_inB h hx8.byt, own_from h⟩)
    · refine opS_writeCall (j := 0) rfl (by decide) rfl (fun _ _ h => absurd h (by omega)) fun ac w1 hW ho hd => ?_
      have d0 : ac.eval (.tmp 15) = .pointer (some p) := hd 0 _ _ rfl rfl rfl
      have d2 : ac.eval (.tmp 17) = adV (x.fh, x.fp) := hd 2 _ _ rfl rfl rfl
      have d4 : ac.eval (.tmp 19) = adV (x.th, x.tp) := hd 4 _ _ rfl rfl rfl
      have d8 := hd 8 _ _ rfl rfl rfl
      obtain ⟨A8, c8, e8, x8, b8⟩ := d8
      refine ⟨12, _, x_fcall 12 [.tmp 15, .tmp 17, .tmp 19, .tmp 23] _ rfl (by kernel_rfl), ?_⟩
      have e9 : ac.eval (.tmp 23) = _ := e8
      simp only [List.map_cons, List.map_nil, d0, d2, d4, e9]
      exact sendV_net (f := 9) (l := [Is (.pointer (some p)), Is (.pointer (some ⟨ab, 3, none⟩)), Is (adV (x.fh, x.fp)), Is (.pointer (some ⟨ab, 5, none⟩)), Is (adV (x.th, x.tp)), F5 W.heap.size, Is (.pointer (some ⟨ab, 7, none⟩)), Is (.slice Ai x.bytes.length ci), F8 W.heap.size x.bytes, Is (.int .i64 (Nt.sendE st (x.fh, x.fp) (x.th, x.tp) x.bytes)), Is (.pointer (some r)), Is (.pointer (some ⟨ab, 3, none⟩)), Is (adV (x.fh, x.fp)), Is (.pointer (some ⟨ab, 5, none⟩)), Is (adV (x.th, x.tp)), Is (.pointer (some ⟨ab, 7, none⟩)), Is (.slice Ai x.bytes.length ci), Is (.int .i64 (Nt.sendE sr (x.fh, x.fp) (x.th, x.tp) x.bytes)), Is (.bool (Nt.sendE st (x.fh, x.fp) (x.th, x.tp) x.bytes == Nt.sendE sr (x.fh, x.fp) (x.th, x.tp) x.bytes)), Is (.bool (Nt.sendE st (x.fh, x.fp) (x.th, x.tp) x.bytes == Nt.sendE sr (x.fh, x.fp) (x.th, x.tp) x.bytes))]) HC.out HR.out (show AtF IsN IsR w0 p r ab _ st sr S Sr w1 ∧ _ from hW).1 (show AtF IsN IsR w0 p r ab _ st sr S Sr w1 ∧ _ from hW).2 HL.out.1 HK8 x8 b8 HX.out.i64.2.2.2.1 HX.out.i64.2.2.2.2.1 HX.out.i64.2.2.2.2.2.1 HX.out.i64.2.2.2.2.2.2 HX.out.reach
    · refine opS_same rfl rfl fun L ac w1 hJ hl hc ho hd => ?_
      have s1 : ac.eval (.tmp 1) = .pointer (some r) := ho 1 rfl
      exact ⟨_, x_move (.tmp 1) rfl s1, rfl⟩
    · refine opS_same rfl rfl fun L ac w1 hJ hl hc ho hd => ?_
      have s5 : ac.eval (.tmp 5) = .pointer (some ⟨ab, 0, none⟩) := ho 5 rfl
      exact ⟨_, x_field 40 (.tmp 5) 3 rfl s5 (fld403 _ _ _), rfl⟩
    · refine opS_same rfl rfl fun L ac w1 hJ hl hc ho hd => ?_
      have d11 : ac.eval (.tmp 26) = .pointer (some ⟨ab, 3, none⟩) := hd 11 _ _ rfl rfl rfl
      obtain ⟨_, _, hW⟩ := hJ
      exact ⟨_, x_load 37 (.tmp 26) rfl d11 (run_load37 (actV_cell hW (j := 3) rfl) (actV_cell hW (j := 4) rfl)), rfl⟩
    · refine opS_same rfl rfl fun L ac w1 hJ hl hc ho hd => ?_
      have s5 : ac.eval (.tmp 5) = .pointer (some ⟨ab, 0, none⟩) := ho 5 rfl
      exact ⟨_, x_field 40 (.tmp 5) 4 rfl s5 (fld404 _ _ _), rfl⟩
    · refine opS_same rfl rfl fun L ac w1 hJ hl hc ho hd => ?_
      have d13 : ac.eval (.tmp 28) = .pointer (some ⟨ab, 5, none⟩) := hd 13 _ _ rfl rfl rfl
      obtain ⟨_, _, hW⟩ := hJ
      exact ⟨_, x_load 37 (.tmp 28) rfl d13 (run_load37 (actV_cell hW (j := 5) rfl) (actV_cell hW (j := 6) rfl)), rfl⟩
    · refine opS_same rfl rfl fun L ac w1 hJ hl hc ho hd => ?_
      have s5 : ac.eval (.tmp 5) = .pointer (some ⟨ab, 0, none⟩) := ho 5 rfl
      exact ⟨_, x_field 40 (.tmp 5) 5 rfl s5 (fld405 _ _ _), rfl⟩
    · refine opS_same rfl rfl fun L ac w1 hJ hl hc ho hd => ?_
      have d15 : ac.eval (.tmp 30) = .pointer (some ⟨ab, 7, none⟩) := hd 15 _ _ rfl rfl rfl
      obtain ⟨_, _, hW⟩ := hJ
      exact ⟨_, x_load 38 (.tmp 30) rfl d15 (run_load1 agg38 (actV_cell hW (j := 7) rfl)), rfl⟩
    · refine opS_writeCall (j := 1) rfl (by decide) rfl (fun y hy _ => by cases hy; rfl) fun ac w1 hW ho hd => ?_
      have d10 : ac.eval (.tmp 25) = .pointer (some r) := hd 10 _ _ rfl rfl rfl
      have d12 : ac.eval (.tmp 27) = adV (x.fh, x.fp) := hd 12 _ _ rfl rfl rfl
      have d14 : ac.eval (.tmp 29) = adV (x.th, x.tp) := hd 14 _ _ rfl rfl rfl
      have d16 : ac.eval (.tmp 31) = .slice Ai x.bytes.length ci := hd 16 _ _ rfl rfl rfl
      refine ⟨21, _, x_fcall 21 [.tmp 25, .tmp 27, .tmp 29, .tmp 31] _ rfl (by kernel_rfl), ?_⟩
      simp only [List.map_cons, List.map_nil, d10, d12, d14, d16]
      exact sendV_ref (f := 17) (l := [Is (.pointer (some p)), Is (.pointer (some ⟨ab, 3, none⟩)), Is (adV (x.fh, x.fp)), Is (.pointer (some ⟨ab, 5, none⟩)), Is (adV (x.th, x.tp)), F5 W.heap.size, Is (.pointer (some ⟨ab, 7, none⟩)), Is (.slice Ai x.bytes.length ci), F8 W.heap.size x.bytes, Is (.int .i64 (Nt.sendE st (x.fh, x.fp) (x.th, x.tp) x.bytes)), Is (.pointer (some r)), Is (.pointer (some ⟨ab, 3, none⟩)), Is (adV (x.fh, x.fp)), Is (.pointer (some ⟨ab, 5, none⟩)), Is (adV (x.th, x.tp)), Is (.pointer (some ⟨ab, 7, none⟩)), Is (.slice Ai x.bytes.length ci), Is (.int .i64 (Nt.sendE sr (x.fh, x.fp) (x.th, x.tp) x.bytes)), Is (.bool (Nt.sendE st (x.fh, x.fp) (x.th, x.tp) x.bytes == Nt.sendE sr (x.fh, x.fp) (x.th, x.tp) x.bytes)), Is (.bool (Nt.sendE st (x.fh, x.fp) (x.th, x.tp) x.bytes == Nt.sendE sr (x.fh, x.fp) (x.th, x.tp) x.bytes))]) HC.out HR.out (show ∃ S', AtF IsN IsR w0 p r ab _ (Nt.sendS st (x.fh, x.fp) (x.th, x.tp) x.bytes) sr S' Sr w1 ∧ _ from hW) HL.out.2 HK8 HX.out.bytes HX.out.i64.2.2.2.1 HX.out.i64.2.2.2.2.1 HX.out.i64.2.2.2.2.2.1 HX.out.i64.2.2.2.2.2.2 HX.out.reach
    · refine opS_same rfl rfl fun L ac w1 hJ hl hc ho hd => ?_
      have d9 : ac.eval (.tmp 24) = .int .i64 (Nt.sendE st (x.fh, x.fp) (x.th, x.tp) x.bytes) := hd 9 _ _ rfl rfl rfl
      have d17 : ac.eval (.tmp 32) = .int .i64 (Nt.sendE sr (x.fh, x.fp) (x.th, x.tp) x.bytes) := hd 17 _ _ rfl rfl rfl
      exact ⟨_, x_bin .eql 24 24 (.tmp 24) (.tmp 32) rfl d9 d17 rfl (by rw [binOp_eql]; rfl), rfl⟩
    · refine opS_same rfl rfl fun L ac w1 hJ hl hc ho hd => ?_
      have d18 : ac.eval (.tmp 33) = .bool (Nt.sendE st (x.fh, x.fp) (x.th, x.tp) x.bytes == Nt.sendE sr (x.fh, x.fp) (x.th, x.tp) x.bytes) := hd 18 _ _ rfl rfl rfl
      exact ⟨_, x_assign (.tmp 33) rfl d18, rfl⟩
  · intro L a1 w9 hI hall
    obtain ⟨k, hk, hW⟩ := hI.done hall (by simp)
    obtain ⟨k, rfl⟩ : ∃ q, k = q + 2 := ⟨k - 2, by simp at hk; omega⟩
    have Z := Lib.hid (show AtB IsN IsR w0 p r ab _ (Nt.sendS st (x.fh, x.fp) (x.th, x.tp) x.bytes) (Nt.sendS sr (x.fh, x.fp) (x.th, x.tp) x.bytes) w9 from (show _ ∧ _ from hW).1)
    clear hk hW k
    clear HK8 HK5 HL
    have l0 : a1.tmps.getD 0 undef = .pointer (some p) := hI.old 0 rfl
    have l1 : a1.tmps.getD 1 undef = .pointer (some r) := hI.old 1 rfl
    have l5 : a1.tmps.getD 5 undef = .pointer (some ⟨ab, 0, none⟩) := hI.old 5 rfl
    have l12 : a1.tmps.getD 12 undef = .int .i64 1 := hI.old 12 rfl
    have l6 : a1.tmps.getD 6 undef = .bool (Nt.sendE st (x.fh, x.fp) (x.th, x.tp) x.bytes == Nt.sendE sr (x.fh, x.fp) (x.th, x.tp) x.bytes) := hI.get hall (i := 19) rfl rfl
    have hde : a1.defers = [] := hI.defers
    have hal := act_lit a1 128 hI.size
    clear hI
    simp only [List.range, List.range.loop, List.map_cons, List.map_nil] at hal
    rw [l0, l1, l5, l12, l6, hde] at hal
    generalize a1.tmps.getD 2 undef = t2 at hal
    generalize a1.tmps.getD 3 undef = t3 at hal
    generalize a1.tmps.getD 4 undef = t4 at hal
    generalize a1.tmps.getD 7 undef = t7 at hal
    generalize a1.tmps.getD 8 undef = t8 at hal
    generalize a1.tmps.getD 9 undef = t9 at hal
    generalize a1.tmps.getD 10 undef = t10 at hal
    generalize a1.tmps.getD 11 undef = t11 at hal
    generalize a1.tmps.getD 13 undef = t13 at hal
    generalize a1.tmps.getD 14 undef = t14 at hal
    generalize a1.tmps.getD 15 undef = t15 at hal
    generalize a1.tmps.getD 16 undef = t16 at hal
    generalize a1.tmps.getD 17 undef = t17 at hal
    generalize a1.tmps.getD 18 undef = t18 at hal
    generalize a1.tmps.getD 19 undef = t19 at hal
    generalize a1.tmps.getD 20 undef = t20 at hal
    generalize a1.tmps.getD 21 undef = t21 at hal
    generalize a1.tmps.getD 22 undef = t22 at hal
    generalize a1.tmps.getD 23 undef = t23 at hal
    generalize a1.tmps.getD 24 undef = t24 at hal
    generalize a1.tmps.getD 25 undef = t25 at hal
    generalize a1.tmps.getD 26 undef = t26 at hal
    generalize a1.tmps.getD 27 undef = t27 at hal
    generalize a1.tmps.getD 28 undef = t28 at hal
    generalize a1.tmps.getD 29 undef = t29 at hal
    generalize a1.tmps.getD 30 undef = t30 at hal
    generalize a1.tmps.getD 31 undef = t31 at hal
    generalize a1.tmps.getD 32 undef = t32 at hal
    generalize a1.tmps.getD 33 undef = t33 at hal
    generalize a1.tmps.getD 34 undef = t34 at hal
    generalize a1.tmps.getD 35 undef = t35 at hal
    generalize a1.tmps.getD 36 undef = t36 at hal
    generalize a1.tmps.getD 37 undef = t37 at hal
    generalize a1.tmps.getD 38 undef = t38 at hal
    generalize a1.tmps.getD 39 undef = t39 at hal
    generalize a1.tmps.getD 40 undef = t40 at hal
    generalize a1.tmps.getD 41 undef = t41 at hal
    generalize a1.tmps.getD 42 undef = t42 at hal
    generalize a1.tmps.getD 43 undef = t43 at hal
    generalize a1.tmps.getD 44 undef = t44 at hal
    generalize a1.tmps.getD 45 undef = t45 at hal
    generalize a1.tmps.getD 46 undef = t46 at hal
    generalize a1.tmps.getD 47 undef = t47 at hal
    generalize a1.tmps.getD 48 undef = t48 at hal
    generalize a1.tmps.getD 49 undef = t49 at hal
    generalize a1.tmps.getD 50 undef = t50 at hal
    generalize a1.tmps.getD 51 undef = t51 at hal
    generalize a1.tmps.getD 52 undef = t52 at hal
    generalize a1.tmps.getD 53 undef = t53 at hal
    generalize a1.tmps.getD 54 undef = t54 at hal
    generalize a1.tmps.getD 55 undef = t55 at hal
    generalize a1.tmps.getD 56 undef = t56 at hal
    generalize a1.tmps.getD 57 undef = t57 at hal
    generalize a1.tmps.getD 58 undef = t58 at hal
    generalize a1.tmps.getD 59 undef = t59 at hal
    generalize a1.tmps.getD 60 undef = t60 at hal
    generalize a1.tmps.getD 61 undef = t61 at hal
    generalize a1.tmps.getD 62 undef = t62 at hal
    generalize a1.tmps.getD 63 undef = t63 at hal
    generalize a1.tmps.getD 64 undef = t64 at hal
    generalize a1.tmps.getD 65 undef = t65 at hal
    generalize a1.tmps.getD 66 undef = t66 at hal
    generalize a1.tmps.getD 67 undef = t67 at hal
    generalize a1.tmps.getD 68 undef = t68 at hal
    generalize a1.tmps.getD 69 undef = t69 at hal
    generalize a1.tmps.getD 70 undef = t70 at hal
    generalize a1.tmps.getD 71 undef = t71 at hal
    generalize a1.tmps.getD 72 undef = t72 at hal
    generalize a1.tmps.getD 73 undef = t73 at hal
    generalize a1.tmps.getD 74 undef = t74 at hal
    generalize a1.tmps.getD 75 undef = t75 at hal
    generalize a1.tmps.getD 76 undef = t76 at hal
    generalize a1.tmps.getD 77 undef = t77 at hal
    generalize a1.tmps.getD 78 undef = t78 at hal
    generalize a1.tmps.getD 79 undef = t79 at hal
    generalize a1.tmps.getD 80 undef = t80 at hal
    generalize a1.tmps.getD 81 undef = t81 at hal
    generalize a1.tmps.getD 82 undef = t82 at hal
    generalize a1.tmps.getD 83 undef = t83 at hal
    generalize a1.tmps.getD 84 undef = t84 at hal
    generalize a1.tmps.getD 85 undef = t85 at hal
    generalize a1.tmps.getD 86 undef = t86 at hal
    generalize a1.tmps.getD 87 undef = t87 at hal
    generalize a1.tmps.getD 88 undef = t88 at hal
    generalize a1.tmps.getD 89 undef = t89 at hal
    generalize a1.tmps.getD 90 undef = t90 at hal
    generalize a1.tmps.getD 91 undef = t91 at hal
    generalize a1.tmps.getD 92 undef = t92 at hal
    generalize a1.tmps.getD 93 undef = t93 at hal
    generalize a1.tmps.getD 94 undef = t94 at hal
    generalize a1.tmps.getD 95 undef = t95 at hal
    generalize a1.tmps.getD 96 undef = t96 at hal
    generalize a1.tmps.getD 97 undef = t97 at hal
    generalize a1.tmps.getD 98 undef = t98 at hal
    generalize a1.tmps.getD 99 undef = t99 at hal
    generalize a1.tmps.getD 100 undef = t100 at hal
    generalize a1.tmps.getD 101 undef = t101 at hal
    generalize a1.tmps.getD 102 undef = t102 at hal
    generalize a1.tmps.getD 103 undef = t103 at hal
    generalize a1.tmps.getD 104 undef = t104 at hal
    generalize a1.tmps.getD 105 undef = t105 at hal
    generalize a1.tmps.getD 106 undef = t106 at hal
    generalize a1.tmps.getD 107 undef = t107 at hal
    generalize a1.tmps.getD 108 undef = t108 at hal
    generalize a1.tmps.getD 109 undef = t109 at hal
    generalize a1.tmps.getD 110 undef = t110 at hal
    generalize a1.tmps.getD 111 undef = t111 at hal
    generalize a1.tmps.getD 112 undef = t112 at hal
    generalize a1.tmps.getD 113 undef = t113 at hal
    generalize a1.tmps.getD 114 undef = t114 at hal
    generalize a1.tmps.getD 115 undef = t115 at hal
    generalize a1.tmps.getD 116 undef = t116 at hal
    generalize a1.tmps.getD 117 undef = t117 at hal
    generalize a1.tmps.getD 118 undef = t118 at hal
    generalize a1.tmps.getD 119 undef = t119 at hal
    generalize a1.tmps.getD 120 undef = t120 at hal
    generalize a1.tmps.getD 121 undef = t121 at hal
    generalize a1.tmps.getD 122 undef = t122 at hal
    generalize a1.tmps.getD 123 undef = t123 at hal
    generalize a1.tmps.getD 124 undef = t124 at hal
    generalize a1.tmps.getD 125 undef = t125 at hal
    generalize a1.tmps.getD 126 undef = t126 at hal
    generalize a1.tmps.getD 127 undef = t127 at hal
    clear l0 l1 l5 l12 l6 hde
    subst hal
    go_wp2_with fail
    go_ret
    exact ⟨rfl, atD_of Z.out⟩
end
end Go.Proofs.Ytfbjhialjepodaa
