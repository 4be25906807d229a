import Derived.Test.YtccilbgbjikmpaaTsTl
namespace Go.Proofs.Ytccilbgbjikmpaa
open Go Go.RowKit
set_option linter.unusedVariables false
set_option linter.unusedSimpArgs false
/-! What the laws use of a track; the mathematics of what came. -/
/-- The track behind pb, all of it from block B on. -/
def IsT (B : Nat) (w : World) (pb C : Nat) (A : List Nat) (d : List Int) : Prop := ∃ mo D c, TAt w pb mo D c C A d ∧ Ts.Ok C A ∧ ∀ k, TS pb mo D k → B ≤ k
theorem IsT.ok {B : Nat} {w : World} {pb C : Nat} {A : List Nat} {d : List Int} (h : IsT B w pb C A d) : Ts.Ok C A := by obtain ⟨_, _, _, _, h1, _⟩ := h; exact h1
theorem IsT.up {B : Nat} {w w' : World} {pb C : Nat} {A : List Nat} {d : List Int} (h : IsT B w pb C A d) (hu : Up w w') : IsT B w' pb C A d := by
  obtain ⟨mo, D, c, h1, h2, h3⟩ := h
  exact ⟨mo, D, c, h1.up hu, h2, h3⟩
theorem Ts.Ok.near {C : Nat} {A : List Nat} (h : Ts.Ok C A) : ∀ x ∈ A, C < x ∧ x ≤ C + 512 := fun x hx => ⟨by have := h.lo x hx; omega, h.hi x hx⟩
/-- What Got does. -/
def GotR (C : Nat) (A : List Nat) (d : List Int) (x : Int) (r : Int) (C1 : Nat) (A1 : List Nat) (d1 : List Int) : Prop :=
  ((dist C x = 0 ∨ 2147483648 ≤ dist C x ∨ C + dist C x ∈ A) ∧ r = 9 ∧ C1 = C ∧ A1 = A ∧ d1 = dupAdd d x) ∨
  ((512 < dist C x ∧ dist C x < 2147483648) ∧ r = 10 ∧ C1 = C ∧ A1 = A ∧ d1 = d) ∨
  ((dist C x ≠ 0 ∧ dist C x ≤ 512 ∧ C + dist C x ∉ A) ∧ r = 0 ∧ Ts.Run C (A ++ [C + dist C x]) C1 A1 ∧ C1 + 1 ∉ A1 ∧ d1 = d)
def GotPost (B : Nat) (w : World) (pb C : Nat) (A : List Nat) (d : List Int) (x : Int) (e : Ending) (w' : World) : Prop :=
  ∃ r C1 A1 d1, e = .returned (.int .i64 r) ∧ GotR C A d x r C1 A1 d1 ∧ IsT B w' pb C1 A1 d1 ∧ Below B w w'
theorem new_t (f : Int) (w : World) (h0 : 0 ≤ f) (h1 : f < 4294967296) :
    Calls Try.prog 7 #[.int .u32 f] w fun e w' => ∃ pb, e = .returned (.pointer (some ⟨pb, 0, none⟩)) ∧ IsT w.heap.size w' pb (f.toNat + 4294967295) [] [] ∧ Up w w' :=
  (new_any f w h0 h1).mono fun e w' ⟨h2, h3, h4⟩ => ⟨w.heap.size, h2, ⟨none, none, 0, h3, ⟨List.nodup_nil, fun x hx => absurd hx (by simp), fun x hx => absurd hx (by simp)⟩, fun k hk => by
    rcases hk with hk | hk | hk
    · omega
    · cases hk
    · cases hk⟩, h4⟩
theorem got_t (B pb C : Nat) (A : List Nat) (d : List Int) (x : Int) (w : World) (h : IsT B w pb C A d) (hx : 0 ≤ x ∧ x < 4294967296) (hB : B ≤ w.heap.size) :
    Calls Try.prog 9 #[.pointer (some ⟨pb, 0, none⟩), .int .u32 x] w (GotPost B w pb C A d x) := by
  obtain ⟨mo, D, c, h1, h2, h3⟩ := h
  have hout : ∀ {w' : World}, Out (TS pb mo D) w w' → Below B w w' := fun ho => Below.out (Below.refl B w) ho h3 hB
  have hsub : ∀ {mo' : Option Nat} {D' : Option Addr}, Sub (TS pb mo' D') (TS pb mo D) w → ∀ k, TS pb mo' D' k → B ≤ k := fun hs k hk => by
    rcases hs k hk with h | h
    · exact h3 k h
    · omega
  by_cases ha : dist C x = 0 ∨ 2147483648 ≤ dist C x
  · exact (got_there0 pb mo D c C A d x w h1 hx ha).mono fun e w' ⟨mo', D', c', q1, q2, q3, q4⟩ =>
      ⟨9, C, A, _, q1, .inl ⟨by rcases ha with ha | ha; exact .inl ha; exact .inr (.inl ha), rfl, rfl, rfl, rfl⟩, ⟨mo', D', c', q2, h2, hsub q4⟩, hout q3⟩
  · have ha1 : dist C x ≠ 0 := fun e => ha (.inl e)
    have ha2 : dist C x < 2147483648 := by
      rcases Nat.lt_or_ge (dist C x) 2147483648 with q | q
      · exact q
      · exact absurd (.inr q) ha
    by_cases hb : C + dist C x ∈ A
    · exact (got_there1 pb mo D c C A d x w h1 hx ha1 ha2 h2.near hb).mono fun e w' ⟨mo', D', c', q1, q2, q3, q4⟩ =>
        ⟨9, C, A, _, q1, .inl ⟨.inr (.inr hb), rfl, rfl, rfl, rfl⟩, ⟨mo', D', c', q2, h2, hsub q4⟩, hout q3⟩
    · by_cases hc : 512 < dist C x
      · exact (got_full pb mo D c C A d x w h1 hx hc ha2 h2.near).mono fun e w' ⟨mo', D', c', q1, q2, q3, q4⟩ =>
          ⟨10, C, A, _, q1, .inr (.inl ⟨⟨hc, ha2⟩, rfl, rfl, rfl, rfl⟩), ⟨mo', D', c', q2, h2, hsub q4⟩, hout q3⟩
      · refine (got_new pb mo D c C A d x w h1 hx ha1 (by omega) h2.near h2.nd hb).mono fun e w' ⟨C1, A1, r1, r2, mo', D', c', q1, q2, q3, q4⟩ =>
          ⟨0, C1, A1, _, q1, .inr (.inr ⟨⟨ha1, by omega, hb⟩, rfl, r1, r2, rfl⟩), ⟨mo', D', c', q2, r1.ok r2 (fun y hy => ?_), hsub q4⟩, hout q3⟩
        rcases List.mem_append.1 hy with hy | hy
        · exact h2.hi y hy
        · simp at hy; omega
theorem cum_t (B pb C : Nat) (A : List Nat) (d : List Int) (w : World) (h : IsT B w pb C A d) : Calls Try.prog 10 #[.pointer (some ⟨pb, 0, none⟩)] w fun e w' => e = .returned (.int .u32 (key C)) ∧ w = w' := by
  obtain ⟨mo, D, c, h1, _⟩ := h
  exact cum_any pb mo D c C A d w h1
theorem ahead_t (B pb C : Nat) (A : List Nat) (d : List Int) (w : World) (h : IsT B w pb C A d) : Calls Try.prog 11 #[.pointer (some ⟨pb, 0, none⟩)] w (AhPost A w) := by
  obtain ⟨mo, D, c, h1, h2, _⟩ := h
  exact ahead_any pb mo D c C A d w h1 h2.near h2.nd
/-- Only Tell's own block may have turned. -/
def TellP (B : Nat) (C : Nat) (A : List Nat) (d : List Int) (win : Int) (pb : Nat) (w : World) (e : Ending) (w' : World) : Prop :=
  ∃ (L : List Nat) (G : List (Int × Int)) (n m : Nat) (P : Option Addr) (cP : Nat) (D : Option Addr) (c : Nat), e = .returned (heV ⟨key C, win, G, d⟩ (.slice P n cP) (.slice D m c)) ∧ n = G.length ∧ m = d.length ∧ Ts.Good G (L.map (dI C)) ∧ (L.Perm A ∧ L.Pairwise (· < ·)) ∧
    w'.ownsRow w.heap.size 43 2 (.slice P n cP) n (gapc G) ∧ OwnI .u32 22 B w' D m c d ∧ IsT B w' pb C A [] ∧ Out (fun k => k = pb) w w' ∧ pb < w.heap.size ∧ B ≤ pb ∧ m ≤ 64 ∧ DupOk d ∧ blk? D ≠ some pb ∧ (∀ k, blk? D = some k → k < w.heap.size)
theorem tell_t (B pb C : Nat) (A : List Nat) (d : List Int) (win : Int) (w : World) (h : IsT B w pb C A d) (h64 : A.length ≤ 64) : Calls Try.prog 12 #[.pointer (some ⟨pb, 0, none⟩), .int .u32 win] w (TellP B C A d win pb w) := by
  obtain ⟨mo, D, c, h1, h2, h3⟩ := h
  exact (tell_any pb mo D c C A d win w h1 h2 h64).mono fun e w' ⟨L, G, n, m, P, cP, q1, q2, q3, q4, q5, q6, q7, q8, q9⟩ =>
    ⟨L, G, n, m, P, cP, D, c, q1, q2, q3, q4, q5, q6, OwnI.rebase q7 (fun k hk => h3 k (.inr (.inr hk))), ⟨mo, none, 0, q8, h2, fun k hk => by
      rcases hk with hk | hk | hk
      · exact h3 k (.inl hk)
      · exact h3 k (.inr (.inl hk))
      · cases hk⟩, q9, lt_of_blk h1.top, h3 pb (.inl rfl), by rw [q3]; exact h1.bd, h1.ok, h1.not_row, fun k hk => h1.lt k (.inr (.inr hk))⟩
namespace Ts
/-- Which came, and where that leaves the track. -/
structure Inv (F : Nat) (R : List Nat) (C : Nat) (A : List Nat) : Prop where
  lo : F ≤ C + 1
  dn : ∀ x, F ≤ x → x ≤ C → x ∈ R
  up : ∀ x, x ∈ A ↔ x ∈ R ∧ C < x
  nx : C + 1 ∉ R
  ge : ∀ x ∈ R, F ≤ x
theorem Inv.start {C : Nat} : Inv (C + 1) [] C [] := ⟨Nat.le_refl _, fun x h1 h2 => by omega, fun x => by simp, by simp, fun x hx => absurd hx (by simp)⟩
theorem Inv.got {F : Nat} {R : List Nat} {C : Nat} {A : List Nat} {X C1 : Nat} {A1 : List Nat} (h : Inv F R C A) (hr : Run C (A ++ [X]) C1 A1) (hn : C1 + 1 ∉ A1) (hX : X ∉ R) (hF : F ≤ X) : Inv F (X :: R) C1 A1 := by
  have hCX : C < X := by
    rcases Nat.lt_or_ge C X with q | q
    · exact q
    · exact absurd (h.dn X hF q) hX
  have hup : ∀ x, x ∈ A1 ↔ x ∈ X :: R ∧ C1 < x := fun x => by
    rw [hr.mem, List.mem_append, List.mem_singleton, h.up, List.mem_cons]
    have := hr.le
    constructor
    · rintro ⟨(⟨h1, h2⟩ | h1), h3⟩
      · exact ⟨.inr h1, h3⟩
      · exact ⟨.inl h1, h3⟩
    · rintro ⟨(h1 | h1), h3⟩
      · exact ⟨.inr h1, h3⟩
      · exact ⟨.inl ⟨h1, by omega⟩, h3⟩
  refine ⟨by have := h.lo; have := hr.le; omega, fun x h1 h2 => ?_, hup, fun hx => hn ((hup _).2 ⟨hx, by omega⟩), fun x hx => ?_⟩
  · rcases Nat.lt_or_ge C x with q | q
    · have := hr.all x q h2
      rw [List.mem_append, List.mem_singleton, h.up] at this
      rcases this with h3 | h3
      · exact List.mem_cons_of_mem _ h3.1
      · rw [h3]; exact List.mem_cons_self ..
    · exact List.mem_cons_of_mem _ (h.dn x h1 q)
  · rcases List.mem_cons.1 hx with e | hx
    · omega
    · exact h.ge x hx
/-- The first that did not come. -/
theorem Inv.fix {F : Nat} {R : List Nat} {C : Nat} {A : List Nat} (h : Inv F R C A) {Y : Nat} (hF : F ≤ Y) (hall : ∀ x, F ≤ x → x < Y → x ∈ R) (hY : Y ∉ R) : C + 1 = Y := by
  rcases Nat.lt_trichotomy (C + 1) Y with q | q | q
  · exact absurd (hall _ h.lo q) h.nx
  · exact q
  · exact absurd (h.dn Y hF (by omega)) hY
end Ts
/-- One that did not come, and is near, comes. -/
theorem GotR.fresh {C : Nat} {A : List Nat} {d : List Int} {F : Nat} {R : List Nat} (hi : Ts.Inv F R C A) {X : Nat} (hX : X ∉ R) (hF : F ≤ X) (hn : X ≤ C + 512) {r : Int} {C1 : Nat} {A1 : List Nat} {d1 : List Int} (h : GotR C A d (key X) r C1 A1 d1) :
    r = 0 ∧ Ts.Inv F (X :: R) C1 A1 ∧ d1 = d := by
  have hCX : C < X := by
    rcases Nat.lt_or_ge C X with q | q
    · exact q
    · exact absurd (hi.dn X hF q) hX
  have hd : dist C (key X) = X - C := by unfold dist key; omega
  have hCd : C + dist C (key X) = X := by omega
  rcases h with ⟨h1, _⟩ | ⟨h1, _⟩ | ⟨h1, h2, h3, h4, h5⟩
  · rcases h1 with h1 | h1 | h1
    · omega
    · omega
    · rw [hCd, hi.up] at h1; exact absurd h1.1 hX
  · omega
  · rw [hCd] at h3
    exact ⟨h2, hi.got h3 h4 hX hF, h5⟩
/-- One that came comes again. -/
theorem GotR.again {C : Nat} {A : List Nat} {d : List Int} {F : Nat} {R : List Nat} (hi : Ts.Inv F R C A) (ho : Ts.Ok C A) {X : Nat} (hX : X ∈ R) (hb : C ≤ X + 1000) {r : Int} {C1 : Nat} {A1 : List Nat} {d1 : List Int} (h : GotR C A d (key X) r C1 A1 d1) :
    r = 9 ∧ C1 = C ∧ A1 = A ∧ d1 = dupAdd d (key X) := by
  rcases Nat.lt_or_ge C X with q | q
  · have hA := (hi.up X).2 ⟨hX, q⟩
    have h5 := ho.hi X hA
    have hd : dist C (key X) = X - C := by unfold dist key; omega
    have hCd : C + dist C (key X) = X := by omega
    rcases h with ⟨h1, h2⟩ | ⟨h1, _⟩ | ⟨h1, _⟩
    · exact h2
    · omega
    · rw [hCd] at h1; exact absurd hA h1.2.2
  · have hd : dist C (key X) = 0 ∨ 2147483648 ≤ dist C (key X) := by unfold dist key; omega
    rcases h with ⟨h1, h2⟩ | ⟨h1, _⟩ | ⟨h1, _⟩
    · exact h2
    · omega
    · omega
end Go.Proofs.Ytccilbgbjikmpaa
