import Derived.Test.YtiagapibfdpfdaaAvD3
namespace Go.Proofs.Ytiagapibfdpfdaa
open Go Go.RowKit
set_option linter.unusedVariables false
set_option linter.unusedSimpArgs false
/-! The program's run, and its Open. -/
theorem Op.setR {B q r n c : Nat} {G : Value} {A : Option Addr} {items : List (Nat × AvB)} {w : World} {x y : Int} (h : Op B q G A n c items w) (hr : w.heap[r]? = some (.cells #[.int .i64 x] 24 (0, 0))) (hq : r ≠ q) : Op B q G A n c items (w.setCell ⟨r, 0, none⟩ (.int .i64 y)) := by
  have ho := setCell_out w r 0 (.int .i64 y)
  have hA : blk? A ≠ some r := fun e => by
    rcases h.row.2 with ⟨h1, h2⟩ | ⟨g, cap, cur, h1, h2, h3, _⟩
    · injection h1 with h1; subst h1; cases e
    · injection h1 with h1
      subst h1
      have e1 : g = r := by simpa [blk?] using e
      rw [e1, hr] at h3
      injection h3 with h3
      injection h3 with h4 h5
      exact absurd h5 (by decide)
  refine ⟨ho.blk h.top (fun e => hq e.symm), ho.own h.row (fun g hg e => by rw [ownBlock_slice] at hg; exact hA (by rw [← e]; exact hg)), h.len, h.ne, fun z hz => ?_⟩
  have hf := h.it z hz
  refine ⟨⟨hf.av.inb.outS' ho (fun hne k hk e => ?_), hf.av.ok, hf.av.n⟩, hf.far⟩
  have hne2 : ints .u8 z.2.bs ≠ [] := fun e => hne (by rw [ints, List.map_eq_nil_iff] at e; exact e)
  obtain ⟨b, o, ha, hlt, hc⟩ := hf.av.inb.cells hne2
  have hb : b = r := by
    rw [ha] at hk
    have e1 : b = k := by simpa [blk?] using hk
    rw [e1]; exact e
  subst hb
  cases hz1 : z.2.bs with
  | nil => exact hne hz1
  | cons a t =>
    have h0 := hc 0 (.int .u8 a) (by rw [hz1]; rfl)
    have h1 : w.cell? ⟨b, o + 0, none⟩ = (#[Value.int .i64 x] : Array Value)[o + 0]? := by
      unfold World.cell?
      rw [hr]; rfl
    rw [h1] at h0
    cases o with
    | zero => simp at h0
    | succ o => simp at h0
theorem Go2.setR {q r : Nat} {A A' : Option Addr} {w w1 : World} {y : Value} (h : Go2 q A A' w w1) (hr : w.heap.size ≤ r) : Go2 q A A' w (w1.setCell ⟨r, 0, none⟩ y) :=
  ⟨h.out.trans (setCell_out w1 r 0 y) (fun k hk => .inr (by have e : k = r := hk; omega)), h.row⟩
def RunPost (B q : Nat) (G : Value) (A : Option Addr) (items : List (Nat × AvB)) (ch : List (Nat × Av.Avp)) (w : World) (e : Ending) (w' : World) : Prop := e = .returned (.int .i64 0) ∧ ∃ A' n' c' more, Hid (Op B q G A' n' c' (items ++ more) w') ∧ Hid (more.map pureI = ch) ∧ Hid (Go2 q A A' w w')
set_option maxRecDepth 100000 in
set_option maxHeartbeats 1000000 in
theorem run_ok (B q : Nat) (G : Value) (A : Option Addr) (items : List (Nat × AvB)) (ch : List (Nat × Av.Avp)) (AL : Option Addr) (cL : Nat) (w : World) (hq : q < w.heap.size) (hA : ∀ k, blk? A = some k → k < w.heap.size)
    (hO : ∀ w1, Up w w1 → Calls Try.prog 34 #[.pointer (some ⟨q, 0, none⟩), .slice AL 1 cL, .int .i64 0] w1 (OpenPost B q G A items ch w1)) : Calls Try.prog 25 #[.pointer (some ⟨q, 0, none⟩), .slice AL 1 cL] w (RunPost B q G A items ch w) := by
  have hmf : ∀ (fn : Fn) (first cap : Array Value) (w : World), (Instr.makeFunc fn first cap).run Try.prog w = .ok (.func fn first cap) w := fun _ _ _ _ => rfl
  have HU := Lib.hid (up_alloc w (.cells #[.int .i64 0] 24))
  have HR := Lib.hid (new_at w (.cells #[.int .i64 0] 24))
  have HO := Lib.hid hO
  have HQ := Lib.hid hq
  have HA := Lib.hid hA
  clear hO hq hA
  go_enter_defers Try.func25, Try.ntmps25
  go_upto_region 2 with (fail)
  generalize w.alloc (.cells #[.int .i64 0] 24) = w1 at HU HR ⊢
  obtain ⟨r, hr⟩ : ∃ r, w.heap.size = r := ⟨_, rfl⟩
  simp only [hr] at HR ⊢
  have HRE := Lib.hid hr
  clear hr
  have HO1 := Lib.hid (HO.out w1 HU.out)
  go_wp2_with fail
  refine HO1.out.mono ?_
  rintro e w2 ⟨rfl, A2, n2, c2, more, K1, K2, K3⟩
  have hne : r ≠ q := by have h1 := HQ.out; have h2 := HRE.out; omega
  have HR2 := Lib.hid (show w2.heap[r]? = some (.cells #[.int .i64 0] 24 (0, 0)) from K3.out.out.blk HR.out (fun e => by
    rcases e with e | e
    · exact hne e
    · have h1 := HA.out r e; have h2 := HRE.out; omega))
  have G2 := Lib.hid ((Go2.up HU.out).trans K3.out)
  have xr := cell_of HR2.out (j := 0) rfl
  have fr := frozen_at (j := 0) HR2.out
  have K1' := Lib.hid (K1.out.setR (y := 0) HR2.out hne)
  have G3 := Lib.hid (G2.out.setR (y := .int .i64 0) (Nat.le_of_eq HRE.out))
  have HRR := Lib.hid (setCell_at (j := 0) (.int .i64 0) HR2.out)
  go_wp2_with fail
  clear xr fr
  generalize w2.setCell ⟨r, 0, none⟩ (.int .i64 0) = w3 at K1' G3 HRR ⊢
  refine leaves_cons (f := 33) (args := #[.pointer (some ⟨r, 0, none⟩)]) (by simp) (by simp [go_sem]) ?_
  refine (catch_idle ⟨r, 0, none⟩ _).mono ?_
  rintro e u' w'' ⟨rfl, rfl, rfl⟩
  have xr := cell_of HRR.out (j := 0) rfl
  have HEND := Lib.hid (show RunPost B q G A items ch w (.returned (.int .i64 0)) w'' from ⟨rfl, A2, n2, c2, more, K1', K2, G3⟩)
  simp [Leaves, settle, results, Try.results25, go_sem, xr]
  exact HEND.out
def RunDeep (q : Nat) (A : Option Addr) (w : World) (e : Ending) (w' : World) : Prop := e = .returned (.int .i64 12) ∧ ∃ A', Hid (Go2 q A A' w w')
set_option maxRecDepth 100000 in
set_option maxHeartbeats 1000000 in
theorem run_12 (q : Nat) (A : Option Addr) (AL : Option Addr) (cL : Nat) (w : World) (hq : q < w.heap.size) (hA : ∀ k, blk? A = some k → k < w.heap.size)
    (hO : ∀ w1, Up w w1 → Calls Try.prog 34 #[.pointer (some ⟨q, 0, none⟩), .slice AL 1 cL, .int .i64 0] w1 (DeepPost q A w1)) : Calls Try.prog 25 #[.pointer (some ⟨q, 0, none⟩), .slice AL 1 cL] w (RunDeep q A w) := by
  have hmf : ∀ (fn : Fn) (first cap : Array Value) (w : World), (Instr.makeFunc fn first cap).run Try.prog w = .ok (.func fn first cap) w := fun _ _ _ _ => rfl
  have HU := Lib.hid (up_alloc w (.cells #[.int .i64 0] 24))
  have HR := Lib.hid (new_at w (.cells #[.int .i64 0] 24))
  have HO := Lib.hid hO
  have HQ := Lib.hid hq
  have HA := Lib.hid hA
  clear hO hq hA
  go_enter_defers Try.func25, Try.ntmps25
  go_upto_region 2 with (fail)
  generalize w.alloc (.cells #[.int .i64 0] 24) = w1 at HU HR ⊢
  obtain ⟨r, hr⟩ : ∃ r, w.heap.size = r := ⟨_, rfl⟩
  simp only [hr] at HR ⊢
  have HRE := Lib.hid hr
  clear hr
  have HO1 := Lib.hid (HO.out w1 HU.out)
  go_wp2_with fail
  refine HO1.out.mono ?_
  rintro e w2 ⟨rfl, A2, K3⟩
  have hne : r ≠ q := by have h1 := HQ.out; have h2 := HRE.out; omega
  have HR2 := Lib.hid (show w2.heap[r]? = some (.cells #[.int .i64 0] 24 (0, 0)) from K3.out.out.blk HR.out (fun e => by
    rcases e with e | e
    · exact hne e
    · have h1 := HA.out r e; have h2 := HRE.out; omega))
  have G2 := Lib.hid ((Go2.up HU.out).trans K3.out)
  refine leaves_cons (f := 33) (args := #[.pointer (some ⟨r, 0, none⟩)]) (by simp) (by simp [go_sem]) ?_
  have HRN := Lib.hid (blk_up HR2.out (up_alloc w2 (.cells #[.int .i64 12] 69)))
  have HRR := Lib.hid (setCell_at (j := 0) (.int .i64 12) HRN.out)
  have G3 := Lib.hid ((G2.out.trans (Go2.up (up_alloc w2 (.cells #[.int .i64 12] 69)))).setR (y := .int .i64 12) (Nat.le_of_eq HRE.out))
  have HEND := Lib.hid (show RunDeep q A w (.returned (.int .i64 12)) ((w2.alloc (.cells #[.int .i64 12] 69)).setCell ⟨r, 0, none⟩ (.int .i64 12)) from ⟨rfl, A2, G3⟩)
  refine (catch_12 r 0 w2 HR2.out).mono ?_
  rintro e u' w'' ⟨rfl, rfl, hw⟩
  rw [← hw] at HRR HEND
  clear hw
  have xr := cell_of HRR.out (j := 0) rfl
  simp [Leaves, settle, results, Try.results25, go_sem, xr]
  exact HEND.out
end Go.Proofs.Ytiagapibfdpfdaa
