import Derived.Test.YtiagapibfdpfdaaAvD4
namespace Go.Proofs.Ytiagapibfdpfdaa
open Go Go.RowKit
set_option linter.unusedVariables false
set_option linter.unusedSimpArgs false
/-! The program's Open. -/
def OpnOk (ch : List (Nat × Av.Avp)) (w : World) (e : Ending) (w' : World) : Prop := ∃ A n c items, e = .returned (.tuple #[.slice A n c, .int .i64 0]) ∧ Hid (Cells w' A (rowi items)) ∧ Hid (items.length = n) ∧ Hid (items.map pureI = ch) ∧ Hid (∀ x ∈ items, AvIn w' x.2) ∧ Hid (Up w w')
def OpnDeep (w : World) (e : Ending) (w' : World) : Prop := e = .returned (.tuple #[.slice none 0 0, .int .i64 12]) ∧ Hid (Up w w')
theorem go2_up {q : Nat} {A' : Option Addr} {w0 w w' : World} (hu : Up w0 w) (hq : w0.heap.size ≤ q) (h : Go2 q none A' w w') : Up w0 w' :=
  Below.out hu h.out (fun k hk => by
    rcases hk with hk | hk
    · rw [hk]; exact hq
    · cases hk) hu.size
section
variable (c0 cd : Int) (data : List Int) (gb : Nat) (AB : Option Addr) (mb cb : Nat) (j : Nat) (w : World)
set_option maxRecDepth 100000 in
set_option maxHeartbeats 2000000 in
theorem opn_ok (h0 : 0 ≤ c0 ∧ c0 < 4294967296) (h1 : 0 ≤ cd ∧ cd < 4294967296) (hb : Byt data) (hdl : data.length ≤ 100) (hcc : c0 ≠ cd) (hj : j < 8) (hin : InB w AB mb cb (encAs [nest c0 cd data j])) (hm : mb ≤ 4096) (hg : w.cell? ⟨gb, 0, none⟩ = some (.int .u32 cd)) :
    Calls Try.prog 15 #[.slice AB mb cb, .slice (some ⟨gb, 0, none⟩) 1 1] w (OpnOk (chain c0 cd data 0 j) w) := by
  have HI := Lib.hid hin
  have HG := Lib.hid hg
  have HGET := Lib.hid (nest_get h0 h1 hb hdl (j := j) (by omega))
  have HALL := Lib.hid (fun B q => open_ok B q gb c0 cd data h0 h1 hb hdl hcc j 0 (by omega))
  clear hin hg
  go_enter Try.func15, Try.ntmps15
  go_wp2_with fail
  refine (get_any' AB mb cb _ w HI.out (by omega)).mono ?_
  rintro e w1 ⟨l1, p1, k1, A1, n1, c1, rfl, hr1, hL1, hn1, hu1⟩
  have he := getRes_inj hr1.out HGET.out
  injection he with he1 he2
  injection he2 with he2 he3
  subst he3
  obtain ⟨x, rfl⟩ : ∃ x, l1 = [x] := by
    have h1 := congrArg List.length he1
    rw [List.length_map] at h1
    match l1, h1 with
    | [y], _ => exact ⟨y, rfl⟩
  have HXP := Lib.hid (show x.pure = nest c0 cd data j by simpa using he1)
  have hn1' : n1 = 1 := hL1.out.len.symm
  subst hn1'
  clear hr1 he1 he2 hn1
  have HUq := Lib.hid (up_alloc w1 (.cells #[.slice (some ⟨gb, 0, none⟩) 1 1, .slice none 0 0] 58))
  have HQ := Lib.hid (new_at w1 (.cells #[.slice (some ⟨gb, 0, none⟩) 1 1, .slice none 0 0] 58))
  have HQL := Lib.hid (lt_of_blk HQ.out)
  go_upto_region 5 with (fail)
  generalize w1.alloc (.cells #[.slice (some ⟨gb, 0, none⟩) 1 1, .slice none 0 0] 58) = w2 at HUq HQ HQL ⊢
  obtain ⟨q, hq⟩ : ∃ q, w1.heap.size = q := ⟨_, rfl⟩
  simp only [hq] at HQ HQL ⊢
  have HQE := Lib.hid hq
  clear hq
  have U2 := Lib.hid (Up.trans hu1.out HUq.out)
  have HWQ := Lib.hid (show w.heap.size ≤ q by have h1 := hu1.out.size; have h2 := HQE.out; omega)
  have hrun := run_ok w.heap.size q (.slice (some ⟨gb, 0, none⟩) 1 1) none [] (chain c0 cd data 0 j) A1 c1 w2 HQL.out (fun k hk => by cases hk) (fun w3 hu3 => HALL.out w.heap.size q none 0 0 [] A1 c1 x w3
    ⟨blk_up HQ.out hu3, World.ownsRow_nil _ _ _ _, rfl, (by intro e; cases e), fun y hy => by cases hy⟩
    ⟨cell_up HG.out (Up.trans U2.out hu3), (by have h1 := cell_lt HG.out; simp only at h1; have h2 := HWQ.out; omega), (by intro e; cases e)⟩
    ((hL1.out.inL.up HUq.out).up hu3)
    ⟨(((hL1.out.av x (by simp)).1.avIn).up HUq.out).up hu3, fun _ k hk => ⟨by have h1 := (row_lt (hL1.out.av x (by simp)).1.own hk).2; have h2 := HQE.out; omega, by intro e; cases e⟩⟩
    (Nat.le_trans U2.out.size hu3.size) HXP.out (by omega))
  have HRUN := Lib.hid hrun
  clear hrun
  go_wp2_with fail
  refine HRUN.out.mono ?_
  rintro e w4 ⟨rfl, A4, n4, c4, more, K1, K2, K3⟩
  have q1 := cell_of K1.out.top (j := 1) rfl
  have U4 := Lib.hid (go2_up U2.out HWQ.out K3.out)
  go_wp2_with fail
  go_ret2
  exact ⟨A4, n4, c4, more, rfl, Lib.hid (row_cells K1.out.row), Lib.hid K1.out.len, K2, Lib.hid (fun y hy => (K1.out.it y hy).av), U4⟩
set_option maxRecDepth 100000 in
set_option maxHeartbeats 2000000 in
theorem opn_deep (h0 : 0 ≤ c0 ∧ c0 < 4294967296) (h1 : 0 ≤ cd ∧ cd < 4294967296) (hb : Byt data) (hdl : data.length ≤ 100) (hj : 8 ≤ j) (hj2 : j ≤ 14) (hin : InB w AB mb cb (encAs [nest c0 cd data j])) (hm : mb ≤ 4096) (hg : w.cell? ⟨gb, 0, none⟩ = some (.int .u32 cd)) :
    Calls Try.prog 15 #[.slice AB mb cb, .slice (some ⟨gb, 0, none⟩) 1 1] w (OpnDeep w) := by
  have HI := Lib.hid hin
  have HG := Lib.hid hg
  have HGET := Lib.hid (nest_get h0 h1 hb hdl (j := j) hj2)
  have HALL := Lib.hid (fun B q => open_deep B q gb c0 cd data h0 h1 hb hdl j 0 (by omega) (by omega) hj2)
  clear hin hg
  go_enter Try.func15, Try.ntmps15
  go_wp2_with fail
  refine (get_any' AB mb cb _ w HI.out (by omega)).mono ?_
  rintro e w1 ⟨l1, p1, k1, A1, n1, c1, rfl, hr1, hL1, hn1, hu1⟩
  have he := getRes_inj hr1.out HGET.out
  injection he with he1 he2
  injection he2 with he2 he3
  subst he3
  obtain ⟨x, rfl⟩ : ∃ x, l1 = [x] := by
    have h1 := congrArg List.length he1
    rw [List.length_map] at h1
    match l1, h1 with
    | [y], _ => exact ⟨y, rfl⟩
  have HXP := Lib.hid (show x.pure = nest c0 cd data j by simpa using he1)
  have hn1' : n1 = 1 := hL1.out.len.symm
  subst hn1'
  clear hr1 he1 he2 hn1
  have HUq := Lib.hid (up_alloc w1 (.cells #[.slice (some ⟨gb, 0, none⟩) 1 1, .slice none 0 0] 58))
  have HQ := Lib.hid (new_at w1 (.cells #[.slice (some ⟨gb, 0, none⟩) 1 1, .slice none 0 0] 58))
  have HQL := Lib.hid (lt_of_blk HQ.out)
  go_upto_region 5 with (fail)
  generalize w1.alloc (.cells #[.slice (some ⟨gb, 0, none⟩) 1 1, .slice none 0 0] 58) = w2 at HUq HQ HQL ⊢
  obtain ⟨q, hq⟩ : ∃ q, w1.heap.size = q := ⟨_, rfl⟩
  simp only [hq] at HQ HQL ⊢
  have HQE := Lib.hid hq
  clear hq
  have U2 := Lib.hid (Up.trans hu1.out HUq.out)
  have HWQ := Lib.hid (show w.heap.size ≤ q by have h1 := hu1.out.size; have h2 := HQE.out; omega)
  have hrun := run_12 q none A1 c1 w2 HQL.out (fun k hk => by cases hk) (fun w3 hu3 => HALL.out w.heap.size q none 0 0 [] A1 c1 x w3
    ⟨blk_up HQ.out hu3, World.ownsRow_nil _ _ _ _, rfl, (by intro e; cases e), fun y hy => by cases hy⟩
    ⟨cell_up HG.out (Up.trans U2.out hu3), (by have h1 := cell_lt HG.out; simp only at h1; have h2 := HWQ.out; omega), (by intro e; cases e)⟩
    ((hL1.out.inL.up HUq.out).up hu3)
    ⟨(((hL1.out.av x (by simp)).1.avIn).up HUq.out).up hu3, fun _ k hk => ⟨by have h1 := (row_lt (hL1.out.av x (by simp)).1.own hk).2; have h2 := HQE.out; omega, by intro e; cases e⟩⟩
    (Nat.le_trans U2.out.size hu3.size) HXP.out (by omega))
  have HRUN := Lib.hid hrun
  clear hrun
  go_wp2_with fail
  refine HRUN.out.mono ?_
  rintro e w4 ⟨rfl, A4, K3⟩
  have U4 := Lib.hid (go2_up U2.out HWQ.out K3.out)
  go_wp2_with fail
  go_ret2
  exact ⟨rfl, U4⟩
end
end Go.Proofs.Ytiagapibfdpfdaa
