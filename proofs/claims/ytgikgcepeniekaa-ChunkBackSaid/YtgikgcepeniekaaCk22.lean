import Derived.Test.YtgikgcepeniekaaCk21
import Derived.Deep.DeepCutAuto
namespace Go.Proofs.Ytgikgcepeniekaa
open Go Go.RowKit
set_option linter.unusedVariables false
set_option linter.unusedSimpArgs false
/-! The program's Put. -/
theorem pure_take (l : List ChB) (k : Nat) : (l.map ChB.pure).take k = (l.take k).map ChB.pure := by rw [List.map_take]
theorem encL_step {l : List ChB} {k : Nat} {x : ChB} (hx : l[k]? = some x) : encL ((l.map ChB.pure).take (k + 1)) = encL ((l.map ChB.pure).take k) ++ encC x.pure := by
  have h2 : (l.map ChB.pure)[k]? = some x.pure := by simp [hx]
  obtain ⟨hl, he⟩ := List.getElem?_eq_some_iff.1 h2
  rw [List.take_succ_eq_append_getElem hl, he, encL_snoc]
set_option maxRecDepth 100000 in
set_option maxHeartbeats 1000000 in
theorem put_large (A : Option Addr) (n cap : Nat) (l : List ChB) (w : World) (hl : l.length = n) (hn : 32 < n) (hn2 : n ≤ 140737488351232) : Calls Try.prog 10 #[.slice A n cap] w (PutPost (l.map ChB.pure) w) := by
  have HL := Lib.hid hl
  clear hl
  have d1 : decide (32 < (n : Int)) = true := by simp; omega
  go_enter Try.func10, Try.ntmps10
  go_wp2_with fail
  go_ret2
  exact ⟨[], 4, none, 0, 0, rfl, Lib.hid (.inr ⟨rfl, rfl, fun h => by have h1 := h.1; rw [List.length_map, HL.out] at h1; omega⟩), Lib.hid rfl, Lib.hid (ownI_nil _ _ _ _), Lib.hid (Up.refl _)⟩
set_option maxRecDepth 100000 in
set_option maxHeartbeats 2000000 in
theorem put_small (A : Option Addr) (n cap : Nat) (l : List ChB) (w : World) (h : InL w A n cap l) (hn : n ≤ 32) : Calls Try.prog 10 #[.slice A n cap] w (PutPost (l.map ChB.pure) w) := by
  have H := Lib.hid h
  have hcap := h.cap
  clear h
  have d1 : decide (32 < (n : Int)) = false := by simp; omega
  go_enter Try.func10, Try.ntmps10
  go_wp2_with fail
  go_loopw [4, 15] (fun v i wr => ∃ k sz : Nat, k ≤ n ∧ i = .int .i64 (k : Int) ∧ v = .int .i64 (sz : Int) ∧ sz ≤ 4096 ∧ Hid (sz = (encL ((l.map ChB.pure).take k)).length) ∧ Hid (Up w wr)) (fun _ i _ => n - (intOf i).toNat)
  case atStart => exact ⟨0, 0, Nat.zero_le _, rfl, rfl, by omega, Lib.hid rfl, Lib.hid (Up.refl _)⟩
  case round =>
    obtain ⟨k, sz, hk, rfl, rfl, hsz, hse, hu⟩ := hrel
    by_cases hlt : k < n
    · obtain ⟨x, ga, o, hx, rfl, k0, k1, k2, hci⟩ := (H.out.up hu.out).at_ hlt
      have HX := Lib.hid (encL_step hx)
      have HC := Lib.hid hci
      have hxn := hci.n
      have hp := padN_lt x.n
      clear hx hci
      go_upto_region 7 with (fail)
      go_quiet ((go_at_call 34; exact Calls.quiet_of_same ((pad_any x.n _ (by omega)).mono fun _ _ h => ⟨h.1, h.2.symm⟩)))
      have HSZ := Lib.hid (show sz + (4 + x.n + padN x.n) = (encL ((l.map ChB.pure).take (k + 1))).length by rw [HX.out, List.length_append, ← hse.out, encC_length]; show _ = sz + (4 + x.bs.length + padN x.bs.length); rw [HC.out.inb.len])
      by_cases hbig : 4096 < sz + (4 + x.n + padN x.n)
      · have d2 : decide (4096 < (sz : Int) + (4 + (x.n : Int) + (padN x.n : Int))) = true := by simp; omega
        go_wp2_with fail
        go_ret2
        exact ⟨[], 4, none, 0, 0, rfl, Lib.hid (.inr ⟨rfl, rfl, fun h => by have h1 := encL_take_le (l.map ChB.pure) (k + 1); have := HSZ.out; omega⟩), Lib.hid rfl, Lib.hid (ownI_nil _ _ _ _), Lib.hid ((hu.out.trans (up_alloc _ _)).trans (up_drewN _ _))⟩
      · have d2 : decide (4096 < (sz : Int) + (4 + (x.n : Int) + (padN x.n : Int))) = false := by simp; omega
        go_wp2_with fail
        go_roundw
        case rel => exact ⟨k + 1, sz + (4 + x.n + padN x.n), by omega, by go_num, by go_num, by omega, HSZ, Lib.hid ((hu.out.trans (up_alloc _ _)).trans (up_drewN _ _))⟩
        case measure => simp [intOf]; omega
    · obtain rfl : k = n := by omega
      have hmk := make_cap sz (by omega) wr
      have HLT := Lib.hid (show (l.map ChB.pure).length = k by simp [H.out.len])
      have HTOT := Lib.hid (show sz = (encL (l.map ChB.pure)).length by have := hse.out; rwa [List.take_of_length_le (by rw [HLT.out]; exact Nat.le_refl _)] at this)
      have G0 := Lib.hid (WH.start sz (by omega) hu.out)
      clear hse
      go_upto_region 12 with (fail)
      clear hmk
      generalize ((wr.alloc (Obj.cells (Array.replicate sz (Value.int IntKind.u8 0)) 5)).alloc (Obj.cells #[Value.slice (some { block := wr.heap.size, off := 0 }) 0 sz] 70)) = W2 at G0 ⊢
      generalize wr.heap.size + 1 = g at G0 ⊢
      go_wp2_with fail
      go_loopw [38] (fun i wq => ∃ j : Nat, j ≤ k ∧ i = .int .i64 (j : Int) ∧ Hid (WH g [] w (encL ((l.map ChB.pure).take j)) wq)) (fun i _ => k - (intOf i).toNat)
      case atStart => exact ⟨0, Nat.zero_le _, rfl, Lib.hid (by simpa [encL] using G0.out)⟩
      case round =>
        obtain ⟨j, hj, rfl, hG⟩ := hrel
        by_cases hlt2 : j < k
        · obtain ⟨x, ga, o, hx, rfl, k0, k1, k2, hci⟩ := (H.out.up hG.out.upw).at_ hlt2
          have HX := Lib.hid (encL_step hx)
          have HI := Lib.hid (H.out.ch x (List.mem_of_getElem? hx))
          have hlen : (encL ((l.map ChB.pure).take (j + 1))).length ≤ 4096 := by have := encL_take_le (l.map ChB.pure) (j + 1); have := HTOT.out; omega
          have hl2 := hlen
          rw [HX.out, List.length_append, encC_length] at hl2
          have HK := Lib.hid (show (encL ((l.map ChB.pure).take j)).length ≤ 4096 by omega)
          have hxn : x.n ≤ 4096 := by have := HI.out.inb.len; have e : x.pure.bs.length = x.bs.length := rfl; omega
          have hW1 := Lib.hid (hG.out.push (.cells #[.int .u8 x.ty, .int .u8 x.fl, .slice x.A x.n x.c] 41))
          clear hx hci hlen hl2
          go_upto_region 15 with (fail)
          generalize wr.alloc (.cells #[.int .u8 x.ty, .int .u8 x.fl, .slice x.A x.n x.c] 41) = wa at hW1 ⊢
          generalize wr.heap.size = pb at hW1 ⊢
          clear k0 k1 k2
          have z0 := cell_of (hW1.out.kept _ List.mem_cons_self) (j := 0) rfl
          simp only at z0
          go_wp2_with fail
          refine (hW1.out.one HI.out.ty.1 HI.out.ty.2 (by have := HK.out; omega)).mono ?_
          rintro e wb ⟨rfl, hW2⟩
          have z1 := cell_of (hW2.out.kept _ List.mem_cons_self) (j := 1) rfl
          simp only at z1
          clear z0 hW1
          go_wp2_with fail
          refine (hW2.out.one HI.out.fl.1 HI.out.fl.2 (by have := HK.out; simp [be_length]; omega)).mono ?_
          rintro e wc ⟨rfl, hW3⟩
          have z2 := cell_of (hW3.out.kept _ List.mem_cons_self) (j := 2) rfl
          simp only at z2
          clear z1 hW2
          go_wp2_with fail
          refine (hW3.out.padded HI.out.inb (by omega) (by have := HK.out; simp [be_length]; omega)).mono ?_
          rintro e wd ⟨rfl, hW4⟩
          clear z2 hW3
          have hW5 := Lib.hid hW4.out.tail
          clear hW4
          have HE := Lib.hid (show encL ((l.map ChB.pure).take j) ++ be x.ty 1 ++ be x.fl 1 ++ be (4 + (x.n : Int)) 2 ++ padL x.bs = encL ((l.map ChB.pure).take (j + 1)) by
            rw [HX.out]
            have e1 : be x.ty 1 = [x.ty] := by simp only [be]; have := HI.out.ty; simp; omega
            have e2 : be x.fl 1 = [x.fl] := by simp only [be]; have := HI.out.fl; simp; omega
            have e3 : x.pure.bs.length = x.n := HI.out.inb.len
            unfold encC
            rw [e1, e2, e3]
            simp [ChB.pure])
          go_wp2_with fail
          go_roundw
          case rel => exact ⟨j + 1, by omega, by go_num, Lib.hid (by rw [← HE.out]; simpa using hW5.out)⟩
          case measure => simp [intOf]; omega
        · obtain rfl : j = k := by omega
          obtain ⟨A9, N9, c9, k9, hN9, hO9, hu9⟩ := hG.out.fin
          have e1 : (l.map ChB.pure).take j = l.map ChB.pure := List.take_of_length_le (by rw [HLT.out]; exact Nat.le_refl _)
          rw [e1] at hN9 hO9
          clear hG e1
          go_wp2_with fail
          go_ret2
          exact ⟨_, 0, A9, N9, c9, rfl, Lib.hid (.inl ⟨rfl, rfl, by rw [HLT.out]; exact hn, by rw [← HTOT.out]; exact hsz⟩), hN9, hO9, hu9⟩
theorem put_any' (A : Option Addr) (n cap : Nat) (l : List ChB) (w : World) (h : InL w A n cap l) (hn : n ≤ 140737488351232) : Calls Try.prog 10 #[.slice A n cap] w (PutPost (l.map ChB.pure) w) := by
  by_cases h32 : 32 < n
  · exact put_large A n cap l w h.len h32 hn
  · exact put_small A n cap l w h (by omega)
end Go.Proofs.Ytgikgcepeniekaa
