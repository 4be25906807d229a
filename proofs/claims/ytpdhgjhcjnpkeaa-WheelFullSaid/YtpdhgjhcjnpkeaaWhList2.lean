import Derived.Test.YtpdhgjhcjnpkeaaWhList
namespace Go.Proofs.Ytpdhgjhcjnpkeaa
open Go Go.RowKit Go.Shelf Go.Sort
set_option linter.unusedVariables false
theorem nilSl (A : Addr) (n c : Nat) (W : World) : (binOp .eql 30 (.slice (some A) n c) (.slice none 0 0)).run Try.prog W = .ok (.bool false) W := by kernel_rfl
theorem nilSl0 (W : World) : (binOp .eql 30 (.slice none 0 0) (.slice none 0 0)).run Try.prog W = .ok (.bool true) W := by kernel_rfl
theorem own_cells {w : World} {base g n c : Nat} {xs : List Value} (h : w.ownsRow base 33 2 (.slice (some ⟨g, 0, none⟩) n c) n xs) : ∀ j u, xs[j]? = some u → w.cell? ((⟨g, 0, none⟩ : Addr).add j) = some u := by
  intro j u hj
  rw [Addr.add_lit, Nat.zero_add]
  rcases h.2 with h2 | ⟨g', cap, cur, hv, hg, hh, r1, r2, r3, r4⟩
  · injection h2.1 with e1; cases e1
  · injection hv with e1 e2 e3
    injection e1 with e1
    injection e1 with e1
    subst e1
    rw [← r4, List.getElem?_take] at hj
    split at hj
    · exact cell_of hh (by simpa using hj)
    · cases hj
theorem oneCell_t (a : List Tm.T) : ∀ u ∈ tcells a, u.oneCell' = true := by
  intro u hu
  unfold tcells at hu
  rw [List.mem_flatMap] at hu
  obtain ⟨x, _, h⟩ := hu
  simp at h
  rcases h with rfl | rfl <;> rfl
set_option maxRecDepth 100000 in
set_option maxHeartbeats 1000000 in
theorem clone_w (A : Option Addr) (n c : Nat) (a : List Tm.T) (w : World) (h : w.ownsRow 0 33 2 (.slice A n c) n (tcells a)) (hn : n ≤ 4096) :
    Calls Try.prog 17 #[.slice A n c] w fun e w' => ∃ A' c', e = .returned (.slice A' n c') ∧ w'.ownsRow w.heap.size 33 2 (.slice A' n c') n (tcells a) ∧ Up w w' := by
  rcases h.2 with ⟨h1, h2⟩ | ⟨g, cap, cur, hv, hg, hh, r1, r2, r3, r4⟩
  · injection h1 with e1 e2 e3
    subst e1; subst e2; subst e3
    have H := Lib.hid h
    have hnil := nilSl0
    clear h
    go_enter Try.func17, Try.ntmps17
    go_wp2_with fail
    go_ret
    exact ⟨none, 0, rfl, ⟨H.out.1, .inl ⟨rfl, rfl⟩⟩, Up.refl _⟩
  · injection hv with e1 e2 e3
    subst e1; subst e3
    have H := Lib.hid h
    have hlt := lt_of_blk hh
    clear h hg hh r1 r2 r3 r4
    have hnil := nilSl ⟨g, 0, none⟩ n c
    obtain ⟨i0, hi, hz0, hz1, hz2⟩ := info_parts info33
    go_enter Try.func17, Try.ntmps17
    go_wp2_with (at_builtin; refine wpList_append_own_at _ rfl (.tmp 5) (.tmp 6) 30 rfl w.heap.size 33 i0 _ 2 16 Try.underlying30 hi hz0 hz1 hz2 rfl (by decide) (.slice (some ⟨w.heap.size, 0, none⟩) 0 0) 0 [] rfl ?hrow ⟨g, 0, none⟩ n c (tcells a) rfl H.out.1 ?hcells (oneCell_t a) (by unfold maxLen; omega) (by omega) (by simp) ?_; rotate_left 2; intro v' w3 hown3 hgrow3 hnil3 hloc3)
    case hrow => exact ⟨rfl, .inr ⟨w.heap.size, 0, #[], rfl, Nat.le_refl _, (MapKept.heap_alloc w _).1, Nat.le_refl _, Nat.zero_le _, rfl, rfl⟩⟩
    case hcells =>
      intro j u hj
      have := own_cells H.out j u hj
      rwa [Addr.add_lit, Nat.zero_add] at this
    rw [Nat.zero_add, List.nil_append] at hown3
    obtain ⟨A', c', rfl⟩ := own_slice hown3
    go_ret
    refine ⟨A', c', rfl, hown3, ⟨hgrow3.os, hgrow3.tape, hgrow3.output, Nat.le_trans (up_alloc w (.cells #[] 33)).size hgrow3.size, fun k hk => ?_⟩⟩
    refine (hgrow3.block k (Nat.lt_of_lt_of_le hk (up_alloc w (.cells #[] 33)).size) ?_).trans ((up_alloc w (.cells #[] 33)).block k hk)
    rw [ownBlock_slice]
    intro e
    injection e with e
    simp only at e
    omega
theorem enter19 : ∀ args w, (callFunc 19 args).run Try.prog w = .ok (.enter 19 args) w := enters_of Try.func19 (by kernel_rfl) rfl
/-- The sort of a row of the call's own. -/
theorem sort_w (A : Option Addr) (n c base : Nat) (a L : List Tm.T) (w : World) (h : w.ownsRow base 33 2 (.slice A n c) n (tcells a)) (hn : n = a.length) (hn4 : n ≤ 4096) (hperm : a.Perm L) (hsrt : Tm.Srt L) (hids : Tm.Ids L) :
    Calls Try.prog 18 #[.slice A n c, .func (.func 19) #[] #[]] w fun e w' => e = .returned (.tuple #[]) ∧ w'.ownsRow base 33 2 (.slice A n c) n (tcells L) ∧ Out (fun k => A.map (·.block) = some k) w w' := by
  rcases Nat.eq_zero_or_pos n with h0 | h0
  · have e : a = [] := List.eq_nil_of_length_eq_zero (by omega)
    subst e
    have e2 : L = [] := hperm.nil_eq.symm
    subst e2
    subst h0
    exact (AnyF.slices_SortFunc_none sortL A c _ w).mono fun e w' ⟨he, hw⟩ => ⟨he, by rw [hw]; exact h, by rw [hw]; exact Out.refl _ _⟩
  · rcases h.2 with h2 | ⟨g, cap, cur, hv, hg, hh, r1, r2, r3, r4⟩
    · omega
    · injection hv with e1 e2 e3
      subst e1; subst e3
      have hrow : RowB w g c a := ⟨⟨cur, hh, r3, by rw [← hn]; exact r4⟩, by omega, r2⟩
      have hlt := lt_of_blk hh
      have hz : a.toArray.size = n := by simp [hn]
      have hcon := AnyQ.slices_SortFunc sortL 2 (fun w => by kernel_rfl) (fun w => by kernel_rfl) encT (fun _ => rfl) (fun x v hv => by simp [encT] at hv; rcases hv with rfl | rfl <;> rfl) cmpT swoT 19 #[] g 0 c a.toArray w enter19 (cmp_lays g 0 _ w) (holds_of_row hrow) hlt (by omega)
      rw [hz] at hcon
      refine Calls.mono (show Calls Try.prog 18 _ _ _ from hcon) fun e w' ⟨he, d', q, os, hp, hs, hw⟩ => ⟨he, ?_, ?_⟩
      · have hd : d'.size = a.length := by rw [hp.1, hz, hn]
        obtain ⟨q1, q2⟩ := row_sorted hrow hlt hd q os
        have hs2 := sorted_is (a := a) (L := L) (d' := d') (by rw [hz]; exact hp) (by rw [hz]; exact hs) hperm hsrt hids
        rw [hs2] at q1
        obtain ⟨⟨cur2, x1, x2, x3⟩, x4, x5⟩ := q1
        have hl : L.length = n := by rw [← hperm.length_eq, hn]
        rw [hw]
        exact ⟨by rw [tcells_length, hl], .inr ⟨g, c, cur2, rfl, hg, x1, r1, x5, x2, by rw [← hl]; exact x3⟩⟩
      · have hd : d'.size = a.length := by rw [hp.1, hz, hn]
        rw [hw]
        exact (row_sorted hrow hlt hd q os).2.mono (fun k hk => by rw [hk]; rfl)
set_option maxRecDepth 100000 in
set_option maxHeartbeats 1000000 in
theorem list_w (S : Nat → Prop) (p : Addr) (L : List Tm.T) (w : World) (h : IsW S w p L) :
    Calls Try.prog 10 #[.pointer (some p)] w fun e w' => ∃ S' A n c, e = .returned (.slice A n c) ∧ n = L.length ∧ w'.ownsRow w.heap.size 33 2 (.slice A n c) n (tcells L) ∧ IsW S' w' p L ∧ Sub S' S w ∧ Out S w w' ∧ (∀ g, (Value.slice A n c).ownBlock = some g → ¬ S' g) := by
  have HW := Lib.hid h
  obtain ⟨a, ⟨pb, A, c, M, rfl, rfl, hA⟩, hheap, hperm, hsrt, hids⟩ := h
  obtain ⟨n, hn⟩ : ∃ n, n = a.length := ⟨_, rfl⟩
  have hn4 : n ≤ 4096 := by rw [hn]; exact hA.bd
  have HCl := Lib.hid (clone_w A n c a w (by rw [hn]; exact hA.row) hn4)
  have c0 : w.cell? ⟨pb, 0, none⟩ = some (.slice A n c) := by rw [hn]; exact cell_of hA.top rfl
  have HN := Lib.hid hn
  have HP := Lib.hid hperm
  have HS := Lib.hid hsrt
  have HI := Lib.hid hids
  clear hA hheap hperm hsrt hids hn
  go_enter Try.func10, Try.ntmps10
  go_wp2_with fail
  refine HCl.out.mono ?_
  rintro e w1 ⟨A', c', rfl, hr, hu⟩
  have HR := Lib.hid hr
  have HU := Lib.hid hu
  clear hr hu HCl c0
  go_wp2_with fail
  refine (sort_w A' n c' w.heap.size a L _ HR.out HN.out hn4 HP.out HS.out HI.out).mono ?_
  rintro e w2 ⟨rfl, hr2, ho2⟩
  have HR2 := Lib.hid hr2
  have HO2 := Lib.hid ho2
  clear hr2 ho2
  go_wp2_with fail
  go_ret
  have hnew : ∀ g, A'.map (·.block) = some g → w.heap.size ≤ g := fun g hg => by
    rcases HR.out.2 with h2 | ⟨g', cap, cur, hv, hg', hh, r⟩
    · injection h2.1 with e1 e2 e3
      rw [e1] at hg; cases hg
    · injection hv with e1 e2 e3
      rw [e1] at hg; simp at hg; subst hg
      exact hg'
  refine ⟨_, A', n, c', rfl, by rw [HN.out, HP.out.length_eq], HR2.out, ?_, Sub.refl _ _, ?_, fun g hg hs => ?_⟩
  · refine isW_keep HW.out (fun k hk => ?_)
    have hlt := isW_lt HW.out k hk
    exact (HO2.out.block k (Nat.lt_of_lt_of_le hlt HU.out.size) (fun e => by have := hnew k e; omega)).trans (HU.out.block k hlt)
  · exact (HU.out.out _).trans HO2.out (fun k hk => .inr (hnew k hk))
  · have := isW_lt HW.out g hs
    rw [ownBlock_slice] at hg
    have := hnew g hg
    omega
theorem wc : WC IsW where
  lt := isW_lt
  keep := isW_keep
  srt := fun ⟨_, _, _, _, h1, h2⟩ => ⟨h1, h2⟩
  new := new_w
  set := fun S p L id at_ w h hi h0 h1 hor => by
    cases hb : Tm.has L id with
    | true => exact set_old S p L id at_ w h h0 h1 hb
    | false => exact set_new S p L id at_ w h hi h0 h1 hb (hor.resolve_left (by rw [hb]; simp))
  full := fun S p L id at_ w h _ h0 h1 hh hl => set_full S p L id at_ w h h0 h1 hh hl
  cancel := fun S p L id w h _ hh => cancel_w S p L id w h hh
  gone := fun S p L id w h _ hh => gone_w S p L id w h hh
  due := fun S p L now w h _ => due_w S p L now w h
  list := list_w
end Go.Proofs.Ytpdhgjhcjnpkeaa
