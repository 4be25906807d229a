import Derived.Test.YtgcabidhpnaoiaaFgR3
import Derived.Test.YtgcabidhpnaoiaaFgW
import Derived.Test.YtgcabidhpnaoiaaStaged
import Derived.Deep.RegionLaw
import Derived.OwnWalkIn
import Derived.RangeFuncOwn
import Derived.RangeFuncFrom
namespace Go.Proofs.Ytgcabidhpnaoiaa
open Go Go.RowKit Fg
set_option linter.unusedVariables false
/-! Of no program: append within walks; blocks that are no cells. -/
/-- 'append' within a region that draws. -/
theorem step_appB {P : Program} {ops : Array Oper} {o : Oper} {a : Act} {w : World} {K : Act → World → Prop} {Q : Exit → Act → World → Prop} {E : Prop} (hg : o.guard = none) (s x : Operand) (t e : TypeId) (z : Value) (sz bytes base : Nat) (hop : o.op = .call { callee := .builtin .append, args := #[s, x], argTypes := #[t, t] })
    (ht : P.underlying t = some (.slice e)) (hinfo : (P.info? e).map (fun i => (i.zero, i.size, i.bytes)) = some (some z, sz, bytes)) (hz : z.cells.size = sz) (hsz : 0 < sz)
    {A : Option Addr} {n c : Nat} {xs : List Value} (hs : a.eval s = .slice A n c) (hown : w.ownsRow base e sz (.slice A n c) n xs) {B : Option Addr} {m d : Nat} {news : List Value} (hx : a.eval x = .slice B m d) (hl : news.length = m * sz) (hc : Cells w B news) (h1 : ∀ u ∈ news, u.oneCell' = true)
    (h63 : n + m ≤ 9223372036854775807) (hbytes : (n + m) * bytes ≤ 140737488355328) (hb : base ≤ w.heap.size)
    (hK : ∀ A' c' w', Hid (w'.ownsRow base e sz (.slice A' (n + m) c') (n + m) (xs ++ news)) → Hid (Out (fun k => blk? A = some k) w w') → Hid (blk? A' = blk? A ∨ blk? A' = some w.heap.size) → K (a.put o.dst (.slice A' (n + m) c')) w') :
    if Region.wanted o (yielded ops a.tmps) = true then Oper.wp P o a w K Q else E := by
  have hw : Region.wanted o (yielded ops a.tmps) = true := by simp [Region.wanted, hg]
  rw [if_pos hw]
  obtain ⟨A', c', w', hr, h2, h3, h4⟩ := append_G (ty := o.type) ht hinfo hz hsz hown B m d news hl hc h1 h63 hbytes hb
  unfold Oper.wp
  rw [x_append s x t t hop hs hx hr]
  exact hK A' c' w' h3 h2 h4
/-- 'append' within a walk inside a fence. -/
theorem wpListIn_appG {F : Fence} {r : Nat} {P : Program} {w : World} {ops : Array Oper} {rest : List Oper} {o : Oper} {a : Act} {Q : Exit → Act → World → Prop} (hg : o.guard = none) (s x : Operand) (t e : TypeId) (z : Value) (sz bytes base : Nat) (hop : o.op = .call { callee := .builtin .append, args := #[s, x], argTypes := #[t, t] })
    (ht : P.underlying t = some (.slice e)) (hinfo : (P.info? e).map (fun i => (i.zero, i.size, i.bytes)) = some (some z, sz, bytes)) (hz : z.cells.size = sz) (hsz : 0 < sz)
    {A : Option Addr} {n c : Nat} {xs : List Value} (hs : a.eval s = .slice A n c) (hown : w.ownsRow base e sz (.slice A n c) n xs) {B : Option Addr} {m d : Nat} {news : List Value} (hx : a.eval x = .slice B m d) (hl : news.length = m * sz) (hc : Cells w B news) (h1 : ∀ u ∈ news, u.oneCell' = true)
    (h63 : n + m ≤ 9223372036854775807) (hbytes : (n + m) * bytes ≤ 140737488355328) (hb : base ≤ w.heap.size)
    (hK : ∀ A' c' w', Hid (w'.ownsRow base e sz (.slice A' (n + m) c') (n + m) (xs ++ news)) → Hid (Out (fun k => blk? A = some k) w w') → Hid (blk? A' = blk? A ∨ blk? A' = some w.heap.size) → wpListIn F r P ops Q rest (a.put o.dst (.slice A' (n + m) c')) w') :
    wpListIn F r P ops Q (o :: rest) a w := by
  refine wpListIn_plain hg fun K hK' => ?_
  obtain ⟨A', c', w', hr, h2, h3, h4⟩ := append_G (ty := o.type) ht hinfo hz hsz hown B m d news hl hc h1 h63 hbytes hb
  unfold Oper.wpIn
  refine ⟨?_, ?_⟩
  · simp [Oper.about, hop, resolve, Target.leads, Sem.run_pure]
  · rw [Oper.semAt_plain F _ _ (by rw [hop]; intro c hc'; cases hc')]
    rw [x_append s x t t hop hs hx hr]
    exact hK' _ _ (hK A' c' w' h3 h2 h4)
theorem keeps_of {S : Nat → Prop} {W W' : World} (h : Out S W W') (hs : ∀ k o, S k → W.heap[k]? = some o → o.isCells = true) : KeepsOthers W W' :=
  ⟨h.size, fun k o hk ho => (h.block k (lt_of_blk hk) (fun hS => by rw [hs k o hS hk] at ho; cases ho)).trans hk⟩
theorem row_isCells {w : World} {base e s n c : Nat} {A : Option Addr} {xs : List Value} (h : w.ownsRow base e s (.slice A n c) n xs) {k : Nat} {o : Obj} (hk : blk? A = some k) (ho : w.heap[k]? = some o) : o.isCells = true := by
  rcases h.2 with ⟨h2, _⟩ | ⟨g, cap, cur, hv, _, hh, _⟩
  · injection h2 with h2; rw [h2] at hk; cases hk
  · injection hv with hv
    rw [hv] at hk
    have : g = k := by simpa [blk?] using hk
    subst this
    rw [hh] at ho
    injection ho with ho
    rw [← ho]; rfl
/-- What turns one block that is no cells. -/
theorem grown_out {W W' : World} {row : Option Nat} (h : W.grownBy W' row) : Out (fun k => row = some k) W W' := ⟨h.os, h.tape, h.output, h.size, fun k hk hn => h.block k hk (fun e => hn e.symm)⟩
theorem row_mono {w : World} {base base' e s n : Nat} {v : Value} {xs : List Value} (h : w.ownsRow base e s v n xs) (hb : base' ≤ base) : w.ownsRow base' e s v n xs := by
  refine ⟨h.1, ?_⟩
  rcases h.2 with h2 | ⟨g, cap, cur, h1, h2, h3⟩
  · exact .inl h2
  · exact .inr ⟨g, cap, cur, h1, Nat.le_trans hb h2, h3⟩
theorem row_keep {W W' : World} {base e s n c : Nat} {A : Option Addr} {xs : List Value} (h : W.ownsRow base e s (.slice A n c) n xs) {row : Option Nat} (hg : W.grownBy W' row) (hr : ∀ r, row = some r → ∃ o : Obj, W.heap[r]? = some o ∧ o.isCells = false) : W'.ownsRow base e s (.slice A n c) n xs :=
  Out.own (grown_out hg) h (fun g hg' e => by
    obtain ⟨o, h1, h2⟩ := hr g e
    have := row_isCells h (by rw [ownBlock_slice] at hg'; exact hg') h1
    rw [this] at h2; cases h2)
theorem cells_keep {W W' : World} {q : Nat} {cs : Array Value} {t : TypeId} {fr : Nat × Nat} (h : W.heap[q]? = some (.cells cs t fr)) {row : Option Nat} (hg : W.grownBy W' row) (hr : ∀ r, row = some r → ∃ o : Obj, W.heap[r]? = some o ∧ o.isCells = false) : W'.heap[q]? = some (.cells cs t fr) :=
  (hg.block q (lt_of_blk h) (fun e => by
    obtain ⟨o, h1, h2⟩ := hr q e.symm
    rw [h] at h1
    injection h1 with h1
    rw [← h1] at h2; cases h2)).trans h
/-- A part of it. -/
theorem InB.part {w : World} {ab ao n c : Nat} {bs : List Int} (h : InB w (some ⟨ab, ao, none⟩) n c bs) {o l : Nat} (hl : o + l ≤ n) : InB w (some ⟨ab, ao + o, none⟩) l l ((bs.drop o).take l) := by
  refine ⟨fun hne => ?_, (h.byt.drop o).take l, Nat.le_refl _, by rw [List.length_take, List.length_drop, h.len]; omega⟩
  have hb : bs ≠ [] := fun e => hne (by rw [e]; simp [ints])
  obtain ⟨b', o', e, hlt, hc⟩ := h.cells (fun e => hb (by rw [ints, List.map_eq_nil_iff] at e; exact e))
  injection e with e
  injection e with e1 e2
  subst e1; subst e2
  refine ⟨ab, ao + o, rfl, hlt, fun j u hu => ?_⟩
  rw [Nat.add_assoc]
  refine hc (o + j) u ?_
  unfold ints at hu ⊢
  rw [List.getElem?_map] at hu ⊢
  rw [List.getElem?_take] at hu
  split at hu
  · rw [List.getElem?_drop] at hu; exact hu
  · cases hu
/-- Rows of two sorts lie apart. -/
theorem rows_ne {w : World} {b1 b2 s1 s2 n1 n2 : Nat} {e1 e2 : TypeId} {v1 v2 : Value} {xs1 xs2 : List Value} (h1 : w.ownsRow b1 e1 s1 v1 n1 xs1) (h2 : w.ownsRow b2 e2 s2 v2 n2 xs2) (hne : e1 ≠ e2) : ∀ g, v1.ownBlock = some g → v2.ownBlock ≠ some g := by
  intro g hg e
  rcases h2.2 with ⟨h3, _⟩ | ⟨g', cap, cur, hv, _, hh, _⟩
  · rw [h3] at e; cases e
  · rw [hv] at e
    have : g' = g := by simpa [Value.ownBlock] using e
    subst this
    exact own_ne h1 hh hne g' hg rfl
end Go.Proofs.Ytgcabidhpnaoiaa
