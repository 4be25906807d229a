import Derived.Test.YtccilbgbjikmpaaTsS
namespace Go.Proofs.Ytccilbgbjikmpaa
open Go Go.RowKit Go.Shelf
set_option linter.unusedVariables false
set_option linter.unusedSimpArgs false
/-! Ahead. -/
theorem keys_any (mo : Option Nat) (w : World) : Calls Try.prog 19 #[.map mo] w fun e w' => e = .returned (.func (.func 27) #[] #[.pointer (some ⟨w.heap.size, 0, none⟩)]) ∧ w' = w.alloc (.cells #[.map mo] 48) := by
  have hmf : ∀ (fn : Fn) (first cap : Array Value) (w : World), (Instr.makeFunc fn first cap).run Try.prog w = .ok (.func fn first cap) w := fun _ _ _ _ => rfl
  go_enter Try.func19, Try.ntmps19
  go_wp2_with fail
  go_ret
  exact ⟨rfl, rfl⟩
theorem collect_any (Bm : Nat) (mo : Option Nat) (A : List Nat) (hA : A.length ≤ 1000) (w : World) (hBm : w.cell? ⟨Bm, 0, none⟩ = some (.map mo)) (hown : MapO w mo A) :
    Calls Try.prog 25 #[.func (.func 27) #[] #[.pointer (some ⟨Bm, 0, none⟩)]] w (ColPost A w) := by
  have HC := Lib.hid (appseq Bm mo A hA w hBm hown)
  clear hBm hown
  go_enter Try.func25, Try.ntmps25
  go_wp2_with fail
  refine HC.out.mono ?_
  rintro e w1 ⟨B, c, ss, rfl, h1, h2, h3⟩
  have H1 := Lib.hid h1
  have H2 := Lib.hid h2
  have H3 := Lib.hid h3
  clear h1 h2 h3
  obtain ⟨n, hn⟩ : ∃ n, n = ss.length := ⟨_, rfl⟩
  rw [← hn] at H2 ⊢
  have HN := Lib.hid hn
  clear hn
  go_wp2_with fail
  go_ret
  exact ⟨B, c, ss, by rw [← HN.out]; rfl, H1.out, by rw [← HN.out]; exact H2.out, H3.out⟩
/-- Those beyond, ascending. -/
def AhPost (A : List Nat) (w : World) (e : Ending) (w' : World) : Prop := ∃ (L : List Nat) (n : Nat) (B : Option Addr) (c : Nat), e = .returned (.slice B n c) ∧ n = L.length ∧ (L.Perm A ∧ L.Pairwise (· < ·)) ∧ OwnI .u32 22 w.heap.size w' B n c (L.map key) ∧ Up w w'
theorem own_bd {k : IntKind} {E : TypeId} {base : Nat} {w : World} {B : Option Addr} {n c : Nat} {xs : List Int} (h : OwnI k E base w B n c xs) {g : Nat} (hg : blk? B = some g) : base ≤ g := (row_lt h hg).1
set_option maxRecDepth 100000 in
set_option maxHeartbeats 1000000 in
theorem sorted_any (C : Nat) (A : List Nat) (hA : ∀ x ∈ A, C < x ∧ x ≤ C + 512) (hnd : A.Nodup) (Bm : Nat) (mo : Option Nat) (w : World) (hBm : w.cell? ⟨Bm, 0, none⟩ = some (.map mo)) (hown : MapO w mo A) :
    Calls Try.prog 18 #[.func (.func 27) #[] #[.pointer (some ⟨Bm, 0, none⟩)], .func (.func 20) #[] #[]] w (AhPost A w) := by
  have hl : A.length ≤ 1000 := Nat.le_trans (Ts.nodup_le 512 hnd hA) (by omega)
  have HC := Lib.hid (collect_any Bm mo A hl w hBm hown)
  have HA := Lib.hid hA
  have HND := Lib.hid hnd
  have HL := Lib.hid hl
  clear hBm hown hA hnd hl
  go_enter Try.func18, Try.ntmps18
  go_wp2_with fail
  refine HC.out.mono ?_
  rintro e w1 ⟨B, c, ss, rfl, h1, h2, h3⟩
  obtain ⟨n, hn⟩ : ∃ n, n = ss.length := ⟨_, rfl⟩
  have hnA : n = A.length := by have := h1.length_eq; simp at this; omega
  have HS := Lib.hid (sort_w C A HA.out HND.out B c w.heap.size ss w1 h2 h1 (by have := HL.out; omega))
  rw [← hn] at HS ⊢
  rw [← hn] at h2
  have H2 := Lib.hid h2
  have H3 := Lib.hid h3
  have HN := Lib.hid hnA
  clear h1 h2 h3 hn hnA HC
  go_wp2_with fail
  refine HS.out.mono ?_
  rintro e w2 ⟨L, rfl, h4, h5, h6⟩
  have H4 := Lib.hid h4
  have H5 := Lib.hid h5
  have H6 := Lib.hid h6
  clear h4 h5 h6 HS
  go_wp2_with fail
  go_ret
  exact ⟨L, n, B, c, rfl, by rw [HN.out, H4.out.1.length_eq], H4.out, H5.out, (Below.out (H3.out) H6.out (fun k hk => own_bd H2.out hk) H3.out.size)⟩
theorem ahead_nil (w : World) : Calls Try.prog 11 #[.pointer none] w fun e w' => e = .returned (.slice none 0 0) ∧ w = w' := by
  go_enter Try.func11, Try.ntmps11
  go_wp2_with fail
  go_ret
  exact ⟨rfl, rfl⟩
set_option maxRecDepth 100000 in
set_option maxHeartbeats 1000000 in
theorem ahead_any (pb : Nat) (mo : Option Nat) (D : Option Addr) (c C : Nat) (A : List Nat) (d : List Int) (w : World) (h : TAt w pb mo D c C A d) (hA : ∀ x ∈ A, C < x ∧ x ≤ C + 512) (hnd : A.Nodup) :
    Calls Try.prog 11 #[.pointer (some ⟨pb, 0, none⟩)] w (AhPost A w) := by
  have HT := Lib.hid (h.up (up_alloc w (.cells #[.map mo] 48)))
  have HA := Lib.hid hA
  have HND := Lib.hid hnd
  have c1 := h.cells.2.1
  have HU := Lib.hid (up_alloc w (.cells #[.map mo] 48))
  have HB := Lib.hid (cell_of (new_at w (.cells #[.map mo] 48)) (j := 0) rfl)
  have HZ := Lib.hid (show w.heap.size ≤ (w.alloc (.cells #[.map mo] 48)).heap.size by simp)
  clear h hA hnd
  go_enter Try.func11, Try.ntmps11
  go_wp2_with (go_at_call 19; refine (keys_any _ _).mono ?_; rintro e w1 ⟨rfl, rfl⟩)
  refine (sorted_any C A HA.out HND.out w.heap.size mo _ HB.out HT.out.map).mono ?_
  rintro e w2 ⟨L, n, B, c', rfl, h1, h2, h3, h4⟩
  have H1 := Lib.hid h1
  have H2 := Lib.hid h2
  have H3 := Lib.hid h3
  have H4 := Lib.hid h4
  clear h1 h2 h3 h4
  go_wp2_with fail
  go_ret
  exact ⟨L, n, B, c', rfl, H1.out, H2.out, OwnI.base H3.out HZ.out, HU.out.trans H4.out⟩
end Go.Proofs.Ytccilbgbjikmpaa
