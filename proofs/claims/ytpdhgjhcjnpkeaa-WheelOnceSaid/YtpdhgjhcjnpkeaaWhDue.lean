import Derived.Test.YtpdhgjhcjnpkeaaWhSet
import Derived.Laws.ResultCell
import Derived.Laws.NewBlocks
namespace Go.Proofs.Ytpdhgjhcjnpkeaa
open Go Go.RowKit
set_option linter.unusedVariables false
theorem res15 {tmps : Array Value} {w : World} {b : Nat} {x : Tm.T} {v : Value} (h2 : tmps.getD 2 undef = .pointer (some ⟨b, 0, none⟩)) (h3 : tmps.getD 3 undef = v) (h0 : w.cell? ⟨b, 0, none⟩ = some (.int .i64 x.1)) (h1 : w.cell? ⟨b, 1, none⟩ = some (.int .i64 x.2)) :
    (results Try.f15 tmps).run Try.prog w = .ok (.tuple #[.agg #[.int .i64 x.1, .int .i64 x.2], v]) w := by
  have hl := run_load33t h0 h1
  simp only [Instr.loadAt, Instr.sureAddr, Sem.run_bind, Sem.run_pure, Result.andThen] at hl
  have hr : Try.f15.results = #[.cell 2 33, .tmp 3] := rfl
  rw [results_cell_tmp hr]
  simp [h2, h3, asAddr, hl, Result.andThen]
set_option maxRecDepth 100000 in
set_option maxHeartbeats 1000000 in
theorem next_none (S : Nat → Prop) (p : Addr) (w : World) (h : IsH S w p []) :
    Calls Try.prog 15 #[.pointer (some p)] w fun e w' => e = .returned (.tuple #[.agg #[.int .i64 0, .int .i64 0], .bool false]) ∧ Up w w' := by
  obtain ⟨pb, A, c, M, rfl, rfl, h⟩ := h
  have c0 : ∀ o, (w.alloc o).cell? ⟨pb, 0, none⟩ = some (.slice A 0 c) := cell_alloc (cell_of h.top rfl) (h.lt pb (.inl rfl))
  clear h
  go_enter Try.func15, Try.ntmps15
  go_wp2_with fail
  exact bodyPost_ret_by (res15 (x := (0, 0)) rfl rfl (cell_of (MapKept.heap_alloc w _).1 rfl) (cell_of (MapKept.heap_alloc w _).1 rfl)) rfl ⟨rfl, up_alloc _ _⟩
set_option maxRecDepth 100000 in
set_option maxHeartbeats 1000000 in
theorem next_some (S : Nat → Prop) (p : Addr) (a : List Tm.T) (x : Tm.T) (w : World) (h : IsH S w p a) (h0 : 0 < a.length) (hx : Hp.at_ a 0 = x) :
    Calls Try.prog 15 #[.pointer (some p)] w fun e w' => e = .returned (.tuple #[.agg #[.int .i64 x.1, .int .i64 x.2], .bool true]) ∧ Up w w' := by
  obtain ⟨pb, A, c, M, rfl, rfl, h⟩ := h
  obtain ⟨g, rfl, hgp, hrow⟩ := rowB_of h h0
  obtain ⟨n, hn⟩ : ∃ n, n = a.length := ⟨_, rfl⟩
  have c0 : ∀ o, (w.alloc o).cell? ⟨pb, 0, none⟩ = some (.slice (some ⟨g, 0, none⟩) n c) := by rw [hn]; exact cell_alloc (cell_of h.top rfl) (h.lt pb (.inl rfl))
  have hg := h.lt g (.inr (.inl rfl))
  have hc := hrow.cell h0
  rw [hx, Nat.zero_mul, Nat.zero_add] at hc
  have c1 : ∀ o, (w.alloc o).cell? ⟨g, 0, none⟩ = some (.int .i64 x.1) := cell_alloc hc.1 hg
  have c2 : ∀ o, (w.alloc o).cell? ⟨g, 1, none⟩ = some (.int .i64 x.2) := cell_alloc hc.2 hg
  have h0n : (0 : Int) < n := by omega
  have hne : ((n : Int) == 0) = false := by rw [beq_eq_false_iff_ne]; omega
  clear h hrow hc h0 hn hx
  go_enter Try.func15, Try.ntmps15
  go_wp2_with fail
  exact bodyPost_ret_by (res15 (x := x) rfl rfl (cell_of (MapKept.heap_alloc w _).1 rfl) (cell_of (MapKept.heap_alloc w _).1 rfl)) rfl ⟨rfl, up_alloc _ _⟩
/-- Due on its way: D has been told, R is there still. -/
structure DueAt (w0 : World) (S0 : Nat → Prop) (p : Addr) (L D R : List Tm.T) (now : Int) (A : Option Addr) (n c : Nat) (S' : Nat → Prop) (w : World) : Prop where
  split : D ++ R = L
  due : ∀ x ∈ D, x.2 ≤ now
  isW : IsW S' w p R
  row : w.ownsRow w0.heap.size 33 2 (.slice A n c) n (tcells D)
  len : n = D.length
  sub : Sub S' S0 w0
  out : Out S0 w0 w
  not : ∀ g, A.map (·.block) = some g → ¬ S' g
theorem due_all {L D R : List Tm.T} {now : Int} (h : D ++ R = L) (hd : ∀ x ∈ D, x.2 ≤ now) (hr : ∀ x ∈ R, now < x.2) : Tm.due now L = D ∧ Tm.rest now L = R := by
  subst h
  unfold Tm.due Tm.rest
  rw [List.filter_append, List.filter_append]
  refine ⟨?_, ?_⟩
  · rw [List.filter_eq_self.2 (fun x hx => by simpa using hd x hx), List.filter_eq_nil_iff.2 (fun x hx => by have := hr x hx; simp; omega), List.append_nil]
  · rw [List.filter_eq_nil_iff.2 (fun x hx => by have := hd x hx; simp; omega), List.filter_eq_self.2 (fun x hx => by simpa using hr x hx), List.nil_append]
theorem srt_head {x : Tm.T} {R : List Tm.T} {now : Int} (h : Tm.Srt (x :: R)) (hx : now < x.2) : ∀ y ∈ x :: R, now < y.2 := by
  intro y hy
  rcases List.mem_cons.1 hy with rfl | hy
  · exact hx
  · have := (List.pairwise_cons.1 h).1 y hy
    unfold Tm.Bef at this
    omega
theorem isW_up {S : Nat → Prop} {w w' : World} {p : Addr} {L : List Tm.T} (h : IsW S w p L) (hu : Up w w') : IsW S w' p L := by
  obtain ⟨a, h1, h2⟩ := h
  exact ⟨a, isH_keep h1 (fun k hk => hu.block k (isH_lt h1 k hk)), h2⟩
theorem isW_keep {S : Nat → Prop} {w w' : World} {p : Addr} {L : List Tm.T} (h : IsW S w p L) (hk : ∀ k, S k → w'.heap[k]? = w.heap[k]?) : IsW S w' p L := by
  obtain ⟨a, h1, h2⟩ := h
  exact ⟨a, isH_keep h1 hk, h2⟩
theorem isW_lt {S : Nat → Prop} {w : World} {p : Addr} {L : List Tm.T} (h : IsW S w p L) : ∀ k, S k → k < w.heap.size := by
  obtain ⟨a, h1, h2⟩ := h
  exact isH_lt h1
/-- Pop of a wheel. -/
theorem popW (S : Nat → Prop) (p : Addr) (x : Tm.T) (R : List Tm.T) (w : World) (h : IsW S w p (x :: R)) :
    Calls Try.prog 16 #[.iface 50 (.agg #[.pointer (some p)])] w fun e w' => e = .returned (boxT x) ∧ ∃ S', IsW S' w' p R ∧ Sub S' S w ∧ Out S w w' := by
  obtain ⟨a, hA, hheap, hperm, hsrt, hids⟩ := h
  obtain ⟨n, hn⟩ : ∃ n, a.length = n + 1 := ⟨R.length, by rw [hperm.length_eq]; rfl⟩
  obtain ⟨M, hM⟩ := Hp.head_of hheap hperm hsrt (by omega)
  injection hM with e1 e2
  obtain ⟨q1, q2, q3⟩ := Hp.pop_all hn hheap
  refine (pop_w hc hc2 S p a n w hA hn hheap).mono fun e w' ⟨he, S', k1, k2, k3⟩ => ⟨by rw [he, ← e1], S', ⟨_, k1, ?_, ?_, ?_, ?_⟩, k2, k3⟩
  · rw [List.length_dropLast, Hp.down_length, Hp.swp_length, hn, Nat.add_sub_cancel]; exact q2
  · have := perm_del q3 ((Hp.ids_perm hperm).2 hids)
    refine this.trans ((Hp.del_perm hperm _).trans ?_)
    rw [← e1]
    exact (perm_del (.refl (x :: R)) hids).symm
  · exact (List.pairwise_cons.1 hsrt).2
  · unfold Tm.Ids at *
    rw [List.map_cons, List.nodup_cons] at hids
    exact hids.2
theorem two_cells (x : Tm.T) (w : World) : ∀ j u, [Value.int .i64 x.1, Value.int .i64 x.2][j]? = some u → (w.alloc (.cells #[.int .i64 x.1, .int .i64 x.2] 33)).cell? ((⟨w.heap.size, 0, none⟩ : Addr).add j) = some u := by
  intro j u hj
  rw [Addr.add_lit]
  match j, hj with
  | 0, hj => cases hj; exact cell_of (MapKept.heap_alloc w _).1 rfl
  | 1, hj => cases hj; exact cell_of (MapKept.heap_alloc w _).1 rfl
def slLen : Value → Nat | .slice _ n _ => n | _ => 0
set_option maxRecDepth 100000 in
set_option maxHeartbeats 2000000 in
theorem due_w (S : Nat → Prop) (p : Addr) (L : List Tm.T) (now : Int) (w : World) (h : IsW S w p L) :
    Calls Try.prog 9 #[.pointer (some p), .int .i64 now] w fun e w' => ∃ S' A n c, e = .returned (.slice A n c) ∧ n = (Tm.due now L).length ∧ w'.ownsRow w.heap.size 33 2 (.slice A n c) n (tcells (Tm.due now L)) ∧ IsW S' w' p (Tm.rest now L) ∧ Sub S' S w ∧ Out S w w' ∧ (∀ g, (Value.slice A n c).ownBlock = some g → ¬ S' g) := by
  have HL4 := Lib.hid (show L.length ≤ 4096 by
    obtain ⟨a, hA, _, hperm, _⟩ := h
    rw [← hperm.length_eq]; exact isH_bd hA)
  have HW := Lib.hid h
  clear h
  go_enter Try.func9, Try.ntmps9
  go_wp2_with fail
  go_loopw [5] (fun s wx => ∃ (D R : List Tm.T) (A : Option Addr) (n c : Nat) (S' : Nat → Prop), s = .slice A n c ∧ Hid (DueAt w S p L D R now A n c S' wx)) (fun s _ => L.length - slLen s)
  case atStart => exact ⟨[], L, none, 0, 0, S, rfl, Lib.hid ⟨rfl, fun x hx => by simp at hx, HW.out, ⟨rfl, .inl ⟨rfl, rfl⟩⟩, rfl, Sub.refl _ _, Out.refl _ _, fun g hg => by simp at hg⟩⟩
  case round =>
    obtain ⟨D, R, A, n, c, S1, rfl, HD⟩ := hrel
    clear HW
    have hta := fun v W => assertT v W
    cases R with
    | nil =>
      have hnx := Lib.hid (show Calls Try.prog 15 #[.pointer (some p)] wr fun e w' => e = .returned (.tuple #[.agg #[.int .i64 0, .int .i64 0], .bool false]) ∧ Up wr w' by
        obtain ⟨a, hA, _, hperm, _⟩ := HD.out.isW
        have : a = [] := hperm.eq_nil
        subst this
        exact next_none S1 p wr hA)
      go_wp2_with fail
      refine hnx.out.mono ?_
      rintro e w1 ⟨rfl, hu⟩
      have HU := Lib.hid hu
      clear hu hnx
      go_wp2_with fail
      go_ret
      obtain ⟨q1, q2⟩ := due_all HD.out.split HD.out.due (fun x hx => by simp at hx)
      refine ⟨S1, A, n, c, rfl, by rw [q1]; exact HD.out.len, ?_, ?_, HD.out.sub, ?_, fun g hg => HD.out.not g (by rw [← ownBlock_slice A n c]; exact hg)⟩
      · rw [q1]; exact own_up HD.out.row (HU.out.trans (up_alloc _ _))
      · rw [q2]; exact isW_up HD.out.isW (HU.out.trans (up_alloc _ _))
      · exact HD.out.out.trans ((HU.out.trans (up_alloc _ _)).out No) (fun _ h => h.elim)
    | cons x R =>
      have hnx := Lib.hid (show Calls Try.prog 15 #[.pointer (some p)] wr fun e w' => e = .returned (.tuple #[.agg #[.int .i64 x.1, .int .i64 x.2], .bool true]) ∧ Up wr w' by
        obtain ⟨a, hA, hheap, hperm, hsrt, _⟩ := HD.out.isW
        have h0 : 0 < a.length := by rw [hperm.length_eq]; simp
        obtain ⟨M, hM⟩ := Hp.head_of hheap hperm hsrt h0
        injection hM with e1 e2
        exact next_some S1 p a x wr hA h0 e1.symm)
      by_cases hx : now < x.2
      · go_wp2_with fail
        refine hnx.out.mono ?_
        rintro e w1 ⟨rfl, hu⟩
        have HU := Lib.hid hu
        clear hu hnx
        go_wp2_with fail
        go_ret
        obtain ⟨q1, q2⟩ := due_all HD.out.split HD.out.due (by obtain ⟨a, _, _, _, hs, _⟩ := HD.out.isW; exact srt_head hs hx)
        refine ⟨S1, A, n, c, rfl, by rw [q1]; exact HD.out.len, ?_, ?_, HD.out.sub, ?_, fun g hg => HD.out.not g (by rw [← ownBlock_slice A n c]; exact hg)⟩
        · rw [q1]; exact own_up HD.out.row (HU.out.trans (up_alloc _ _))
        · rw [q2]; exact isW_up HD.out.isW (HU.out.trans (up_alloc _ _))
        · exact HD.out.out.trans ((HU.out.trans (up_alloc _ _)).out No) (fun _ h => h.elim)
      · have hx2 : x.2 ≤ now := by omega
        clear hx
        go_wp2_with fail
        refine hnx.out.mono ?_
        rintro e w1 ⟨rfl, hu⟩
        have HU := Lib.hid hu
        clear hu hnx
        go_wp2_with fail
        have G1 := Lib.hid (HU.out.trans (up_alloc w1 (.cells #[.int .i64 x.1, .int .i64 x.2] 33)))
        generalize (w1.alloc (.cells #[.int .i64 x.1, .int .i64 x.2] 33)) = W1 at G1 ⊢
        refine (popW S1 p x R _ (isW_up HD.out.isW G1.out)).mono ?_
        rintro e w2 ⟨rfl, S2, k1, k2, k3⟩
        have K1 := Lib.hid k1
        have K2 := Lib.hid k2
        have K3 := Lib.hid k3
        have HR2 := Lib.hid (show w2.ownsRow w.heap.size 33 2 (.slice A n c) n (tcells D) from k3.own (own_up HD.out.row G1.out) (fun g hg => HD.out.not g (by rw [← ownBlock_slice A n c]; exact hg)))
        have HSZ := Lib.hid (show w.heap.size ≤ w2.heap.size from Nat.le_trans HD.out.out.size (Nat.le_trans G1.out.size k3.size))
        have HNL := Lib.hid (show n < L.length by have := HD.out.split; have h2 := HD.out.len; rw [← this, h2]; simp)
        clear k1 k2 k3 HU
        have hbx : boxT x = .iface 33 (.agg #[.int .i64 x.1, .int .i64 x.2]) := rfl
        rw [hbx]
        clear hbx
        obtain ⟨i0, hi, hz0, hz1, hz2⟩ := info_parts info33
        go_wp2_with (at_builtin; refine wpList_append_own_at _ rfl (.tmp 22) (.tmp 30) 30 rfl w.heap.size 33 i0 _ 2 16 Try.underlying30 hi hz0 hz1 hz2 rfl (by decide) (.slice A n c) n (tcells D) rfl (HR2.out.alloc _) ⟨w2.heap.size, 0, none⟩ 1 1 [.int .i64 x.1, .int .i64 x.2] rfl rfl (two_cells x w2) (by simp [Value.oneCell']) (by have := HNL.out; have := HL4.out; unfold maxLen; omega) (by have := HNL.out; have := HL4.out; omega) (by have := HSZ.out; simp; omega) ?_; intro v' w3 hown3 hgrow3 hnil3 hloc3)
        obtain ⟨A', c', rfl⟩ := own_slice hown3
        rw [ownBlock_slice] at hgrow3
        rw [ownBlock_slice, ownBlock_slice] at hloc3
        have Z1 := Lib.hid hown3
        have Z2 := Lib.hid hgrow3
        have Z3 := Lib.hid hloc3
        clear hown3 hgrow3 hnil3 hloc3 hi hz0 hz1 hz2
        go_wp2_with fail
        go_roundw
        case rel =>
          refine ⟨D ++ [x], R, A', n + 1, c', S2, rfl, Lib.hid ?_⟩
          have hg2 : Up w2 (w2.alloc (.cells #[.int .i64 x.1, .int .i64 x.2] 33)) := up_alloc _ _
          have hapart : ∀ g, A.map (·.block) = some g → ¬ S2 g := fun g hg => by
            have hlt : g < wr.heap.size := by
              rcases HD.out.row.2 with h2 | ⟨g', cap, cur, hv, hg', hh, r⟩
              · injection h2.1 with e1 e2 e3
                rw [e1] at hg; cases hg
              · injection hv with e1 e2 e3
                rw [e1] at hg; simp at hg; subst hg
                exact lt_of_blk hh
            exact Out.not K2.out (HD.out.not g hg) (Nat.lt_of_lt_of_le hlt G1.out.size)
          have hbase : ∀ g, A.map (·.block) = some g → w.heap.size ≤ g := fun g hg => by
            rcases HD.out.row.2 with h2 | ⟨g', cap, cur, hv, hg', hh, r⟩
            · injection h2.1 with e1 e2 e3
              rw [e1] at hg; cases hg
            · injection hv with e1 e2 e3
              rw [e1] at hg; simp at hg; subst hg
              exact hg'
          have ho3 : Out (fun k => A.map (·.block) = some k) (w2.alloc (.cells #[.int .i64 x.1, .int .i64 x.2] 33)) w3 := ⟨Z2.out.os, Z2.out.tape, Z2.out.output, Z2.out.size, fun k hk hn => Z2.out.block k hk (fun e => hn e.symm)⟩
          refine ⟨by rw [← HD.out.split]; simp, fun y hy => ?_, ?_, ?_, by rw [List.length_append, List.length_singleton, HD.out.len], ?_, ?_, fun g hg => ?_⟩
          · rcases List.mem_append.1 hy with hy | hy
            · exact HD.out.due y hy
            · simp at hy; subst hy; exact hx2
          · refine isW_keep K1.out (fun k hk => ?_)
            have hlt := isW_lt K1.out k hk
            exact (ho3.block k (Nat.lt_of_lt_of_le hlt hg2.size) (fun e => hapart k e hk)).trans (hg2.block k hlt)
          · rw [tcells_append]; exact Z1.out
          · exact HD.out.sub.trans K2.out (Nat.le_trans HD.out.out.size G1.out.size)
          · refine Out.trans (S' := fun k => A.map (·.block) = some k) ?_ ho3 (fun k hk => .inr (hbase k hk))
            exact ((HD.out.out.trans (G1.out.out No) (fun _ h => h.elim)).trans K3.out HD.out.sub).trans (hg2.out No) (fun _ h => h.elim)
          · rcases Z3.out with h3 | h3
            · exact hapart g (by rw [← h3]; exact hg)
            · rw [h3] at hg
              injection hg with hg
              intro hs
              have := isW_lt K1.out g hs
              simp at hg
              omega
        case measure =>
          have := HNL.out
          simp [slLen]
          omega
end Go.Proofs.Ytpdhgjhcjnpkeaa
