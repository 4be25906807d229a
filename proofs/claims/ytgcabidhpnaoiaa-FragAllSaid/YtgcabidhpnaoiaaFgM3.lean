import Derived.Test.YtgcabidhpnaoiaaFgR6
namespace Go.Proofs.Ytgcabidhpnaoiaa
set_option linter.unusedVariables false
namespace Fg
/-- TSN x, and k before it. -/
def sub (x k : Nat) : Nat := (x + 4294967296 - k) % 4294967296
theorem off_sub {x k : Nat} (hx : x < 4294967296) (hk : k < 4294967296) : off (sub x k) x = k := by unfold off sub; omega
theorem sub_off {x t : Nat} (hx : x < 4294967296) (ht : t < 4294967296) : sub x (off t x) = t := by unfold off sub; omega
theorem sub_lt (x k : Nat) : sub x k < 4294967296 := by unfold sub; omega
theorem mine_of_from {H : List Pc} {x k n : Nat} (hx : x < 4294967296) (hk : k < 512) (hf : FromR H (sub x k) n) (hn : k < n) : Mine H x (sub x k) n := by
  rcases hf with h | h
  · exact ⟨h, by rw [off_sub hx (by omega)]; exact hn⟩
  · omega
theorem Whole.uniq {H : List Pc} (ha : Apart H) {t n n' : Nat} (h : Whole H t n) (h' : Whole H t n') : n = n' := by
  have e : off t t = 0 := by have := h.lt; unfold off; omega
  exact (Mine.uniq ha h.lt (x := t) ⟨h, by rw [e]; exact h.pos⟩ ⟨h', by rw [e]; exact h'.pos⟩).2
theorem none_mine {H : List Pc} (ha : Apart H) {x : Nat} (hx : x < 4294967296) (h : ∀ k, k < 512 → ∃ n, FromR H (sub x k) n ∧ n ≤ k) (t n : Nat) : ¬ Mine H x t n := by
  rintro ⟨h1, h2⟩
  have hn := h1.le
  obtain ⟨n', h3, h4⟩ := h (off t x) (by omega)
  rw [sub_off hx h1.lt] at h3
  rcases h3 with h3 | h3
  · have := Whole.uniq ha h1 h3; omega
  · exact h3.2 n h1
theorem not_dec (a n : Nat) : (!decide (a < n)) = decide (n ≤ a) := by
  by_cases h : a < n
  · rw [decide_eq_true h, decide_eq_false (by omega)]; rfl
  · rw [decide_eq_false h, decide_eq_true (by omega)]; rfl
theorem filter_ps (g : Nat → Nat) (n : Nat) (l : List PcB) : (l.map (·.p)).filter (fun q => !decide (g q.tsn < n)) = (l.filter fun x => decide (n ≤ g x.p.tsn)).map (·.p) := by
  induction l with
  | nil => rfl
  | cons x l ih =>
    rw [List.map_cons, List.filter_cons, List.filter_cons, not_dec, ih]
    split <;> rfl
theorem rest_left (l : List PcB) (t n : Nat) : rest (ps l) t n = ps (left l t n) := filter_ps (off t) n l
theorem Turns.perm {s : Nat} {W W2 W' : List Lt} {nx nx' : Nat → Nat} {ms : List (Nat × List Int)} (h : Turns s W nx ms W' nx') (hp : W.Perm W2) : Turns s W2 nx ms W' nx' := by
  induction h generalizing W2 with
  | stop h hw => exact .stop (fun x hx => h x (hp.mem_iff.2 hx)) (hw.trans hp)
  | go x hx h1 h2 h ih => exact .go x (hp.mem_iff.1 hx) h1 h2 (ih (hp.filter _))
/-- What turns has done, as a whole. -/
theorem TSt.all {w0 : Go.World} {b s : Nat} {H : Option Go.Addr} {n c : Nat} {m0 : List LtB} {nx0 : Nat → Nat} {W0 : Option Go.Addr} {w : Go.World} {A : Option Go.Addr} {N cA : Nat} {m o : List LtB} {W : Option Go.Addr} {d : Nat} {nx : Nat → Nat} (h : TSt w0 b s H n c m0 nx0 W0 w A N cA m o W d nx) (hno : ∀ y ∈ m, ¬ hit s nx y) :
    Turns s (ts m0) nx0 (o.map fun y => (s, y.x.2.2)) (ts m) nx := by
  have := h.go [] (ts m) nx (.stop (fun x hx => by
    obtain ⟨y, hy, rfl⟩ := List.mem_map.1 hx
    exact hno y hy) (List.Perm.refl _))
  simpa using this
/-- One that comes behind those that wait. -/
theorem addW_end (W : List Lt) (x : Lt) : (if W.any (fun y => decide (y.1 = x.1) && decide (y.2.1 = x.2.1)) then W else W ++ [x]).Perm (addW W x) := by
  unfold addW
  split
  · exact List.Perm.refl _
  · exact List.perm_append_singleton x W
end Fg
end Go.Proofs.Ytgcabidhpnaoiaa
