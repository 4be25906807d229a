import Derived.Test.YtgcabidhpnaoiaaBx1
import Derived.Test.YtgcabidhpnaoiaaPg1
import Derived.Test.YtgcabidhpnaoiaaFgG
import Derived.Test.YtgcabidhpnaoiaaFgR5
namespace Go.Proofs.Ytgcabidhpnaoiaa
open Go Go.RowKit Fg
set_option linter.unusedVariables false
set_option linter.unusedSimpArgs false
/-! The program's Box: its object; NewBox, Held. -/
namespace Fg
def bxBlk (q1 q2 q3 : Option Nat) (nx : Nat → Nat) : Array Value := #[.map q1, .map q2, .map q3, .int .u16 (nx 0), .int .u16 (nx 1), .int .u16 (nx 2), .int .u16 (nx 3), .int .u16 (nx 4), .int .u16 (nx 5), .int .u16 (nx 6), .int .u16 (nx 7)]
structure Maps (w : World) (m1 m2 m3 : Nat) (l : List PcB) (m : List LtB) : Prop where
  P : MapS plV pcV PlOk w m1 (l.map plE)
  T : ∃ E, MapU w m2 E ∧ E.map (·.1) = l.map tnE
  W : MapS kdV wtV KdOk w m3 (m.map wtE)
  n12 : m1 ≠ m2
  n13 : m1 ≠ m3
  n23 : m2 ≠ m3
structure BX (base : Nat) (w : World) (b : Nat) (q1 q2 q3 : Option Nat) (l : List PcB) (m : List LtB) (nx : Nat → Nat) : Prop where
  top : w.heap[b]? = some (.cells (bxBlk q1 q2 q3 nx) 77 (0, 0))
  maps : (q1 = none ∧ q2 = none ∧ q3 = none ∧ l = [] ∧ m = []) ∨ ∃ m1 m2 m3, q1 = some m1 ∧ q2 = some m2 ∧ q3 = some m3 ∧ Maps w m1 m2 m3 l m
  by_ : ∀ x ∈ l, OwnI .u8 5 base w x.A x.p.bs.length x.c x.p.bs ∧ Byt x.p.bs ∧ x.p.bs.length ≤ 256
  byW : ∀ x ∈ m, OwnI .u8 5 base w x.A x.x.2.2.length x.c x.x.2.2 ∧ Byt x.x.2.2 ∧ x.x.2.2.length ≤ 131072
/-- The blocks that are written. -/
def BS (b : Nat) (q1 q2 q3 : Option Nat) : Nat → Prop := fun k => k = b ∨ q1 = some k ∨ q2 = some k ∨ q3 = some k
theorem mapU_blk {w : World} {m : Nat} {E : List EnU} (h : MapU w m E) : ∃ o : Obj, w.heap[m]? = some o ∧ o.isCells = false := by
  obtain ⟨c, h1, _⟩ := h
  exact ⟨_, h1, rfl⟩
theorem mapS_blk {α β : Type} {kv : α → Value} {vv : β → Value} {okk : α → Prop} {w : World} {m : Nat} {E : List (α × β)} (h : MapS kv vv okk w m E) : ∃ o : Obj, w.heap[m]? = some o ∧ o.isCells = false := by
  obtain ⟨es, c, h1, _⟩ := h
  exact ⟨_, h1, rfl⟩
theorem not_cells {w : World} {m k : Nat} {cs : Array Value} {T : TypeId} {f : Nat × Nat} (h : ∃ o : Obj, w.heap[m]? = some o ∧ o.isCells = false) (hk : w.heap[k]? = some (.cells cs T f)) : k ≠ m := by
  rintro rfl
  obtain ⟨o, h1, h2⟩ := h
  rw [hk] at h1
  rw [← Option.some.inj h1] at h2
  cases h2
/-- A row is none of the box's own blocks. -/
theorem BX.off {base : Nat} {w : World} {b : Nat} {q1 q2 q3 : Option Nat} {l : List PcB} {m : List LtB} {nx : Nat → Nat} (h : BX base w b q1 q2 q3 l m nx) {B e s n c : Nat} {A : Option Addr} {xs : List Value} (hr : w.ownsRow B e s (.slice A n c) n xs) (he : e ≠ 77) : ∀ g, (Value.slice A n c).ownBlock = some g → ¬ BS b q1 q2 q3 g := by
  intro g hg hS
  rcases hS with rfl | hS
  · exact own_ne hr h.top he g hg rfl
  · have hc : ∃ o : Obj, w.heap[g]? = some o ∧ o.isCells = false := by
      rcases h.maps with ⟨e1, e2, e3, _⟩ | ⟨m1, m2, m3, e1, e2, e3, hm⟩
      · rw [e1, e2, e3] at hS
        rcases hS with hS | hS | hS <;> cases hS
      · rw [e1, e2, e3] at hS
        rcases hS with hS | hS | hS <;> cases hS
        · exact mapS_blk hm.P
        · obtain ⟨E, hE, _⟩ := hm.T
          exact mapU_blk hE
        · exact mapS_blk hm.W
    obtain ⟨o, h1, h2⟩ := hc
    have h3 := row_isCells hr (k := g) (by rw [ownBlock_slice] at hg; exact hg) h1
    rw [h3] at h2; cases h2
/-- A block of cells of another sort is none of them. -/
theorem BX.offC {base : Nat} {w : World} {b : Nat} {q1 q2 q3 : Option Nat} {l : List PcB} {m : List LtB} {nx : Nat → Nat} (h : BX base w b q1 q2 q3 l m nx) {g T : Nat} {cs : Array Value} {f : Nat × Nat} (hg : w.heap[g]? = some (.cells cs T f)) (he : T ≠ 77) : ¬ BS b q1 q2 q3 g := by
  intro hS
  rcases hS with rfl | hS
  · rw [h.top] at hg
    injection hg with hg
    injection hg with _ hg
    exact he hg.symm
  · have hc : ∃ o : Obj, w.heap[g]? = some o ∧ o.isCells = false := by
      rcases h.maps with ⟨e1, e2, e3, _⟩ | ⟨m1, m2, m3, e1, e2, e3, hm⟩
      · rw [e1, e2, e3] at hS
        rcases hS with hS | hS | hS <;> cases hS
      · rw [e1, e2, e3] at hS
        rcases hS with hS | hS | hS <;> cases hS
        · exact mapS_blk hm.P
        · obtain ⟨E, hE, _⟩ := hm.T
          exact mapU_blk hE
        · exact mapS_blk hm.W
    exact not_cells hc hg rfl
theorem Maps.keep {w w' : World} {m1 m2 m3 : Nat} {l : List PcB} {m : List LtB} (h : Maps w m1 m2 m3 l m) (h1 : w'.heap[m1]? = w.heap[m1]?) (h2 : w'.heap[m2]? = w.heap[m2]?) (h3 : w'.heap[m3]? = w.heap[m3]?) : Maps w' m1 m2 m3 l m := by
  obtain ⟨a, ⟨E, b1, b2⟩, c, d⟩ := h
  exact ⟨a.keep h1, ⟨E, b1.keep h2, b2⟩, c.keep h3, d, by assumption, by assumption⟩
theorem Maps.lt {w : World} {m1 m2 m3 : Nat} {l : List PcB} {m : List LtB} (h : Maps w m1 m2 m3 l m) : m1 < w.heap.size ∧ m2 < w.heap.size ∧ m3 < w.heap.size := by
  obtain ⟨E, b1, b2⟩ := h.T
  exact ⟨h.P.lt, b1.lt, h.W.lt⟩
/-- What leaves these blocks leaves the box. -/
theorem BX.out {S : Nat → Prop} {base : Nat} {w w' : World} {b : Nat} {q1 q2 q3 : Option Nat} {l : List PcB} {m : List LtB} {nx : Nat → Nat} (h : BX base w b q1 q2 q3 l m nx) (ho : Out S w w') (h1 : ∀ k, BS b q1 q2 q3 k → ¬ S k)
    (h2 : ∀ k, base ≤ k → (∃ cs f, w.heap[k]? = some (.cells cs 5 f)) → ¬ S k) : BX base w' b q1 q2 q3 l m nx := by
  have key : ∀ {A : Option Addr} {N c : Nat} {xs : List Int}, OwnI .u8 5 base w A N c xs → OwnI .u8 5 base w' A N c xs := fun {A N c xs} hx => by
    refine Out.own ho hx (fun g hg hS => ?_)
    rcases hx.2 with ⟨h3, _⟩ | ⟨g', cap, cur, hv, hb, hh, _⟩
    · rw [h3] at hg; cases hg
    · rw [hv] at hg
      have : g' = g := by simpa [Value.ownBlock] using hg
      subst this
      exact h2 g' hb ⟨_, _, hh⟩ hS
  refine ⟨ho.blk h.top (h1 b (.inl rfl)), ?_, fun x hx => ⟨key (h.by_ x hx).1, (h.by_ x hx).2⟩, fun x hx => ⟨key (h.byW x hx).1, (h.byW x hx).2⟩⟩
  rcases h.maps with h3 | ⟨m1, m2, m3, e1, e2, e3, hm⟩
  · exact .inl h3
  · have hl := hm.lt
    refine .inr ⟨m1, m2, m3, e1, e2, e3, hm.keep (ho.block _ hl.1 (h1 _ ?_)) (ho.block _ hl.2.1 (h1 _ ?_)) (ho.block _ hl.2.2 (h1 _ ?_))⟩
    · exact .inr (.inl e1)
    · exact .inr (.inr (.inl e2))
    · exact .inr (.inr (.inr e3))
theorem BX.up {base : Nat} {w w' : World} {b : Nat} {q1 q2 q3 : Option Nat} {l : List PcB} {m : List LtB} {nx : Nat → Nat} (h : BX base w b q1 q2 q3 l m nx) (hu : Up w w') : BX base w' b q1 q2 q3 l m nx := h.out (hu.out No) (fun _ _ h => h) (fun _ _ _ h => h)
end Fg
set_option maxRecDepth 100000 in
theorem newbox_any (base : Nat) (w : World) : Calls Try.prog 15 #[] w fun e w' => e = .returned (.pointer (some ⟨w.heap.size, 0, none⟩)) ∧ Hid (BX base w' w.heap.size none none none [] [] (fun _ => 0)) ∧ Hid (Up w w') := by
  go_enter Try.func15, Try.ntmps15
  go_wp2_with fail
  go_ret
  exact ⟨rfl, Lib.hid ⟨new_at w _, .inl ⟨rfl, rfl, rfl, rfl, rfl⟩, by simp, by simp⟩, Lib.hid (up_alloc w _)⟩
set_option maxRecDepth 100000 in
theorem held_nil (w : World) : Calls Try.prog 19 #[.pointer none] w fun e w' => e = .returned (.int .i64 0) ∧ w' = w := by
  go_enter Try.func19, Try.ntmps19
  go_wp2_with fail
  go_ret
  exact ⟨rfl, rfl⟩
theorem run_len_mapS {P : Program} {T K V : TypeId} (hT : P.underlying T = some (.map K V)) {α β : Type} {kv : α → Value} {vv : β → Value} {okk : α → Prop} {w : World} {m : Nat} {E : List (α × β)} (h : MapS kv vv okk w m E) (ty : TypeId) : (Builtin.len_ #[T] ty #[.map (some m)]).run P w = .ok (.int .i64 (E.length : Int)) w := by
  obtain ⟨es, c, hb, he, _⟩ := h
  have hl : es.size = E.length := by have := congrArg List.length he; simpa using this
  unfold Builtin.len_
  simp [run_underlying hT, Result.andThen, MapKept.run_getObj_map hb, hl, goInt]
theorem run_len_mapN {P : Program} {T K V : TypeId} (hT : P.underlying T = some (.map K V)) {w : World} (ty : TypeId) : (Builtin.len_ #[T] ty #[.map none]).run P w = .ok (.int .i64 0) w := by
  unfold Builtin.len_
  simp [run_underlying hT, Result.andThen, goInt]
set_option maxRecDepth 100000 in
theorem held_any {base : Nat} {w : World} {b : Nat} {q1 q2 q3 : Option Nat} {l : List PcB} {m : List LtB} {nx : Nat → Nat} (h : BX base w b q1 q2 q3 l m nx) : Calls Try.prog 19 #[.pointer (some ⟨b, 0, none⟩)] w fun e w' => e = .returned (.int .i64 (l.length : Int)) ∧ w' = w := by
  have k0 : w.cell? ⟨b, 0, none⟩ = some (.map q1) := cell_of h.top rfl
  have hlen : (Builtin.len_ #[73] 3 #[.map q1]).run Try.prog w = .ok (.int .i64 (l.length : Int)) w := by
    rcases h.maps with ⟨e1, e2, e3, e4, e5⟩ | ⟨m1, m2, m3, e1, e2, e3, hm⟩
    · rw [e1, e4]; exact run_len_mapN und73 3
    · rw [e1]
      have := run_len_mapS (P := Try.prog) und73 hm.P 3
      rwa [List.length_map] at this
  clear h
  go_enter Try.func19, Try.ntmps19
  go_wp2_with fail
  go_ret
  exact ⟨rfl, rfl⟩
end Go.Proofs.Ytgcabidhpnaoiaa
