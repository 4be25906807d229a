import Derived.Test.YthncpkjnalmpkaaAvP3
import Derived.Test.YthncpkjnalmpkaaCo0
namespace Go.Proofs.Ythncpkjnalmpkaa
open Go Go.RowKit
set_option linter.unusedVariables false
set_option linter.unusedSimpArgs false
/-! The reference's Put. -/
theorem encA_ref0 {c v : Int} {m p : Bool} {bs : List Int} (hv : v = 0) : encA ⟨c, v, m, p, bs⟩ = be c 4 ++ [0 + (if m = true then 64 else 0) + (if p = true then 32 else 0)] ++ be ((8 + bs.length : Nat) : Int) 3 ++ padL bs := by
  subst hv
  have h : padN (8 + bs.length) = padN bs.length := by unfold padN; omega
  show be c 4 ++ ((avFl ⟨c, 0, m, p, bs⟩ + 0) :: (be ((8 + bs.length : Nat) : Int) 3 ++ ([] ++ (bs ++ List.replicate (padN (8 + bs.length)) 0)))) = _
  rw [h]
  simp [padL, avFl]
theorem encA_ref1 {c v : Int} {m p : Bool} {bs : List Int} (hv : v ≠ 0) : encA ⟨c, v, m, p, bs⟩ = be c 4 ++ [128 + (if m = true then 64 else 0) + (if p = true then 32 else 0)] ++ be ((12 + bs.length : Nat) : Int) 3 ++ be v 4 ++ padL bs := by
  have h : padN (12 + bs.length) = padN bs.length := by unfold padN; omega
  have e1 : avLen ⟨c, v, m, p, bs⟩ = 12 + bs.length := by unfold avLen avHead; simp [hv]
  have e2 : avVen v = be v 4 := by unfold avVen; rw [if_neg hv]
  have e3 : avFl ⟨c, v, m, p, bs⟩ = 128 + (if m = true then 64 else 0) + (if p = true then 32 else 0) := by unfold avFl; simp [hv]
  unfold encA encX
  rw [e1]
  show be c 4 ++ ((avFl ⟨c, v, m, p, bs⟩ + 0) :: (be ((12 + bs.length : Nat) : Int) 3 ++ (avVen v ++ (bs ++ List.replicate (padN (12 + bs.length)) 0)))) = _
  rw [h, e2, e3]
  simp [padL]
theorem cells_one (w : World) (x : Int) : Cells (w.alloc (.cells #[.int .u8 x] 5)) (some ⟨w.heap.size, 0, none⟩) (ints .u8 [x]) := cells_new w (.int .u8 x) 5 _ rfl
theorem wpList_appendO {P : Program} {w : World} {ops : Array Oper} {rest : List Oper} {o : Oper} {a : Act} {Q : Exit → Act → World → Prop} (hgd : Region.wanted o (yielded ops a.tmps) = true) (s x : Operand) (t : TypeId)
    (ho : o.op = .call { callee := .builtin .append, args := #[s, x], argTypes := #[t, t] }) (k : IntKind) (base : Nat) (e : TypeId) (bytes : Nat) (ht : P.underlying t = some (.slice e))
    (hinfo : (P.info? e).map (fun i => (i.zero, i.size, i.bytes)) = some (some (.int k 0), 1, bytes))
    (A0 : Option Addr) (n c0 : Nat) (xs : List Int) (hs : a.eval s = .slice A0 n c0) (hown : OwnI k e base w A0 n c0 xs)
    (B : Option Addr) (m d : Nat) (ys : List Int) (hx : a.eval x = .slice B m d) (hl : ys.length = m) (hc : Cells w B (ints k ys))
    (h63 : n + m ≤ 9223372036854775807) (hbytes : (n + m) * bytes ≤ 140737488355328) (hb : base ≤ w.heap.size)
    (h : ∀ A' N c' w', Hid (N = n + m) → Hid (OwnI k e base w' A' N c' (xs ++ ys)) → Hid (Out (fun k => blk? A0 = some k) w w') → Hid (blk? A' = blk? A0 ∨ blk? A' = some w.heap.size) → wpList P ops Q rest (a.put o.dst (.slice A' N c')) w') : wpList P ops Q (o :: rest) a w :=
  wpList_appendG hgd s x t ho base e (.int k 0) 1 bytes ht hinfo rfl (by decide) A0 n c0 (ints k xs) hs hown B m d (ints k ys) hx (by rw [ints_length, Nat.mul_one]; exact hl) hc (ints_one k ys) h63 hbytes hb
    fun A' N c' w' h1 h2 h3 h4 => h A' N c' w' h1 (by show OwnI _ _ _ _ _ _ _ _; unfold OwnI; rw [ints_append]; exact h2.out) h3 h4
theorem flb (b : Int) (hb : b = 0 ∨ b = 128) (m p : Bool) : Byt [b + (if m = true then 64 else 0) + (if p = true then 32 else 0)] := by
  intro x hx
  rw [List.mem_singleton] at hx
  subst hx
  rcases hb with rfl | rfl <;> cases m <;> cases p <;> simp
set_option maxRecDepth 100000 in
set_option maxHeartbeats 2000000 in
theorem rput_large (A : Option Addr) (n cap : Nat) (l : List AvB) (w : World) (hl : l.length = n) (h : 64 < n) (hn : n ≤ 140737488351232) : Calls Try.prog 33 #[.slice A n cap] w (PutPost (l.map AvB.pure) w) := by
  have HL := Lib.hid hl
  clear hl
  have d1 : decide (64 < (n : Int)) = true := by simp; omega
  go_enter Try.func33, Try.ntmps33
  go_wp2_with fail
  go_ret2
  exact putPost_no rfl (fun e => by have := e.1; simp [HL.out] at this; omega) (Up.refl _)
set_option maxRecDepth 100000 in
set_option maxHeartbeats 40000000 in
theorem rput_small (A : Option Addr) (n cap : Nat) (l : List AvB) (w : World) (h : InL w A n cap l) (h64 : n ≤ 64) : Calls Try.prog 33 #[.slice A n cap] w (PutPost (l.map AvB.pure) w) := by
  have H := Lib.hid h
  have HLT := Lib.hid (show (l.map AvB.pure).length = n by simp [h.len])
  have hcap := h.cap
  clear h
  have d1 : decide (64 < (n : Int)) = false := by simp; omega
  go_enter Try.func33, Try.ntmps33
  go_wp2_with fail
  go_loopw [4, 5] (fun v i wr => ∃ (j N1 : Nat) (A1 : Option Addr) (c1 : Nat), j ≤ n ∧ N1 ≤ 4096 ∧ i = .int .i64 (j : Int) ∧ v = .slice A1 N1 c1 ∧ Hid (N1 = szL (l.map AvB.pure) j) ∧ Hid (OwnI .u8 5 w.heap.size wr A1 N1 c1 (encAs ((l.map AvB.pure).take j))) ∧ Hid (Below w.heap.size w wr)) (fun _ i _ => n - (intOf i).toNat)
  case atStart => exact ⟨0, 0, none, 0, Nat.zero_le _, Nat.zero_le _, rfl, rfl, Lib.hid rfl, Lib.hid (ownI_nil _ _ _ _), Lib.hid (Below.refl _ _)⟩
  case round =>
    obtain ⟨j, N1, A1, c1, hj, hN1, rfl, rfl, hsz, hO, hB⟩ := hrel
    by_cases hlt : j < n
    · have e1 : decide ((j : Int) < (n : Int)) = true := by simp; omega
      obtain ⟨x, g, o, hx, rfl, k0, k1, k2, k3, k4, hxi⟩ := (H.out.up hB.out).at_ hlt
      have HXE := Lib.hid (szL_succ (l := l.map AvB.pure) (k := j) (a := x.pure) (by simp [hx]))
      have HXT := Lib.hid (encAs_take_succ (l := l.map AvB.pure) (k := j) (a := x.pure) (by simp [hx]))
      have HXL := Lib.hid (szL_le (l.map AvB.pure) (j + 1))
      have HBY := Lib.hid (show Byt (encAs ((l.map AvB.pure).take j)) from byt_encAs (fun a ha => H.out.ok a (List.mem_of_mem_take ha)))
      have HIN := Lib.hid hxi.inb
      have hcd := hxi.ok.code
      have hvd := hxi.ok.vendor
      have hlx := hxi.n
      clear hx hxi
      obtain ⟨cd, vd, mu, pr, A9, n9, c9, bs⟩ := x
      simp only [AvB.pure] at HXE HXT HIN hcd hvd hlx k0 k1 k2 k3 k4
      have HL9 := Lib.hid HIN.out.len
      have cd0 := hcd.1
      have cd1 := hcd.2
      have vd0 := hvd.1
      have vd1 := hvd.2
      clear hcd hvd
      have HCB := Lib.hid (new_at wr (.cells #[.int .u32 cd, .int .u32 vd, .bool mu, .bool pr, .slice A9 n9 c9] 56))
      have HUa := Lib.hid (up_alloc wr (.cells #[.int .u32 cd, .int .u32 vd, .bool mu, .bool pr, .slice A9 n9 c9] 56))
      go_upto_region 8 with (fail)
      generalize wr.alloc (.cells #[.int .u32 cd, .int .u32 vd, .bool mu, .bool pr, .slice A9 n9 c9] 56) = wa at HCB HUa ⊢
      generalize wr.heap.size = pb at HCB ⊢
      clear k0 k1 k2 k3 k4
      have Ua := Lib.hid (show Below w.heap.size w wa from Up.trans (show Up w wr from hB.out) HUa.out)
      have HO1 := Lib.hid (show OwnI .u8 5 w.heap.size wa A1 N1 c1 (encAs ((l.map AvB.pure).take j)) from own_up hO.out HUa.out)
      have HI9 := Lib.hid (HIN.out.up HUa.out)
      clear HIN hO hB HUa
      have z0 := cell_of HCB.out (j := 0) rfl
      have z1 := cell_of HCB.out (j := 1) rfl
      have z2 := cell_of HCB.out (j := 2) rfl
      have z3 := cell_of HCB.out (j := 3) rfl
      have z4 := cell_of HCB.out (j := 4) rfl
      by_cases hbig : 4096 < n9
      · have e2 : decide (4096 < (n9 : Int)) = true := by simp; omega
        have HNO := Lib.hid (show ¬ ((encAs (l.map AvB.pure)).length ≤ 4096) by
          have h1 := HXL.out; have h2 := HXE.out
          have h3 : avLen ⟨cd, vd, mu, pr, bs⟩ = avHead vd + bs.length := rfl
          have h4 := HL9.out
          omega)
        go_wp2_with fail
        go_ret2
        exact putPost_no rfl (fun e => HNO.out e.2) Ua.out
      · have e2 : decide (4096 < (n9 : Int)) = false := by simp; omega
        have hn9 : n9 ≤ 4096 := by omega
        by_cases hv : vd = 0
        · have HE := Lib.hid (encA_ref0 (c := cd) (m := mu) (p := pr) (bs := bs) hv)
          have HAL := Lib.hid (show avLen ⟨cd, vd, mu, pr, bs⟩ = 8 + n9 by rw [← HL9.out]; unfold avLen avHead; simp [hv])
          subst hv
          cases mu <;> cases pr
          all_goals
            go_wp2_with fail
            refine (rput A1 N1 c1 4 _ cd wa (own_inB HO1.out HBY.out) (by omega) (by omega) (by omega)).mono ?_
            rintro e wb ⟨A2, N2, c2, rfl, hN2, hO2', hu2⟩
            have HN2 := Lib.hid (show N2 = N1 + 4 by rw [hN2, List.length_append, be_length, OwnI.len HO1.out])
            have HO2 := Lib.hid (hO2'.base (B' := w.heap.size) Ua.out.size)
            have HA2 := Lib.hid (show ∀ k, blk? A2 = some k → wa.heap.size ≤ k from fun k hk => (row_lt hO2' hk).1)
            have Ub := Lib.hid (show Below w.heap.size w wb from Up.trans (show Up w wa from Ua.out) hu2)
            have HCb := Lib.hid (blk_up HCB.out hu2)
            have HIb := Lib.hid (HI9.out.up hu2)
            have hN2' : N2 ≤ 4100 := by have := HN2.out; omega
            have HSb := Lib.hid Ub.out.size
            clear hN2 hO2' hu2
            go_wp2_with (at_builtin; refine wpList_appendO rfl (.tmp 50) (.tmp 53) 26 rfl .u8 w.heap.size 5 1 Try.underlying26 info5 A2 N2 c2 _ rfl (own_up HO2.out (up_alloc wb _)) (some ⟨wb.heap.size, 0, none⟩) 1 1 [_] rfl rfl (cells_one wb _) (by omega) (by omega) (up_alloc wb _ |>.size |> Nat.le_trans HSb.out) ?_; intro A3 N3 c3 w3 HN3 HW3 HO3 HB3; have HU3 := Lib.hid (up_alloc wb _ |>.out (fun k => blk? A2 = some k) |>.trans HO3.out (Sub.refl _ _)))
            have hN3 : N3 ≤ 4101 := by have := HN3.out; omega
            have HPW := Lib.hid (lt_of_blk HCB.out)
            have HP2 := Lib.hid (show ¬ (blk? A2 = some pb) from fun e => by have h1 := HA2.out pb e; have h2 := HPW.out; omega)
            have HC3 := Lib.hid (HU3.out.blk HCb.out HP2.out)
            have HI3 := Lib.hid (HIb.out.outS' HU3.out (fun hne k hk e => by have h1 := HA2.out k e; have h2 := HI9.out.lt hne hk; omega))
            have U3 := Lib.hid (show Below w.heap.size w w3 from Below.out Ub.out HU3.out (fun k hk => by have h1 := HA2.out k hk; have h2 := Ua.out.size; omega) HSb.out)
            have I3 := Lib.hid (own_inB HW3.out (by refine (HBY.out.be cd 4).append ?_; intro x hx; rw [List.mem_singleton] at hx; omega))
            have BY3 := Lib.hid I3.out.byt
            have x0 := cell_of HC3.out (j := 0) rfl
            have x1 := cell_of HC3.out (j := 1) rfl
            have x4 := cell_of HC3.out (j := 4) rfl
            clear HO3 HB3 HU3 z0 z1 z2 z3 z4 HCb HIb HA2 HP2
            go_wp2_with fail
            refine (rput A3 N3 c3 3 _ ((8 + n9 : Nat) : Int) w3 I3.out (by omega) (by omega) (by omega)).mono ?_
            rintro e w4 ⟨A4, N4, c4, rfl, hN4, hO4', hu4⟩
            have HN4 := Lib.hid (show N4 = N3 + 3 by rw [hN4, List.length_append, be_length, OwnI.len HW3.out])
            have HO4 := Lib.hid (hO4'.base (B' := w.heap.size) U3.out.size)
            have HA4 := Lib.hid (show ∀ k, blk? A4 = some k → w3.heap.size ≤ k from fun k hk => (row_lt hO4' hk).1)
            have U4 := Lib.hid (show Below w.heap.size w w4 from Up.trans (show Up w w3 from U3.out) hu4)
            have HC4 := Lib.hid (blk_up HC3.out hu4)
            have HI4 := Lib.hid (HI3.out.up hu4)
            have hN4' : N4 ≤ 4104 := by have := HN4.out; omega
            have hs34 := Lib.hid hu4.size
            clear hN4 hO4' hu4 x0 x1 x4
            have y1 := cell_of HC4.out (j := 1) rfl
            have y4 := cell_of HC4.out (j := 4) rfl
            go_wp2_with fail
            refine (refpadded_any A9 n9 c9 bs w4 HI4.out (by omega)).mono ?_
            rintro e w6 ⟨A6, N6, c6, rfl, hN6, hO6, hu6⟩
            have U6 := Lib.hid (show Below w.heap.size w w6 from Up.trans (show Up w w4 from U4.out) hu6.out)
            have HS6 := Lib.hid U6.out.size
            have HN6 := Lib.hid (show N6 = n9 + padN n9 by rw [hN6.out, padL_length, HL9.out])
            have hp9 := padN_lt n9
            have hN6' : N6 ≤ 4100 := by have := HN6.out; omega
            go_upto_region 25 with (at_builtin; refine wpList_appendO rfl (.tmp 67) (.tmp 70) 26 rfl .u8 w.heap.size 5 1 Try.underlying26 info5 A4 N4 c4 _ rfl (own_up HO4.out hu6.out) A6 N6 c6 _ rfl hO6.out.len hO6.out.cells (by omega) (by omega) HS6.out ?_; intro A7 N7 c7 w7 HN7 HW7 HO7 HB7)
            have U7 := Lib.hid (show Below w.heap.size w w7 from Below.out U6.out HO7.out (fun k hk => by have h1 := HA4.out k hk; have h2 := U3.out.size; have h3 := hs34.out; omega) HS6.out)
            have HSZ := Lib.hid (show N7 = szL (l.map AvB.pure) (j + 1) by
              have h1 := HXE.out
              rw [HAL.out] at h1
              have h2 : padN (8 + n9) = padN n9 := by unfold padN; omega
              have h3 := HN7.out; have h4 := HN6.out; have h5 := HN4.out; have h6 := HN3.out; have h7 := HN2.out; have h8 := hsz.out
              omega)
            have HEND := Lib.hid (show OwnI .u8 5 w.heap.size w7 A7 N7 c7 (encAs ((l.map AvB.pure).take (j + 1))) by
              rw [HXT.out, HE.out, HL9.out]
              simpa [List.append_assoc] using HW7.out)
            by_cases hfit : N7 ≤ 4096
            · have e3 : decide (4096 < (N7 : Int)) = false := by simp; omega
              go_wp2_with fail
              go_roundw
              case rel => exact ⟨j + 1, N7, A7, c7, by omega, hfit, by go_num, rfl, HSZ, HEND, U7⟩
              case measure => simp [intOf]; omega
            · have e3 : decide (4096 < (N7 : Int)) = true := by simp; omega
              have HNO := Lib.hid (show ¬ ((encAs (l.map AvB.pure)).length ≤ 4096) by have h1 := HXL.out; have h2 := HSZ.out; omega)
              go_wp2_with fail
              go_ret2
              exact putPost_no rfl (fun e => HNO.out e.2) U7.out
        · have dv : (vd != 0) = true := by simp [hv]
          have HE := Lib.hid (encA_ref1 (c := cd) (m := mu) (p := pr) (bs := bs) hv)
          have HAL := Lib.hid (show avLen ⟨cd, vd, mu, pr, bs⟩ = 12 + n9 by rw [← HL9.out]; unfold avLen avHead; simp [hv])
          clear hv
          cases mu <;> cases pr
          all_goals
            go_wp2_with fail
            refine (rput A1 N1 c1 4 _ cd wa (own_inB HO1.out HBY.out) (by omega) (by omega) (by omega)).mono ?_
            rintro e wb ⟨A2, N2, c2, rfl, hN2, hO2', hu2⟩
            have HN2 := Lib.hid (show N2 = N1 + 4 by rw [hN2, List.length_append, be_length, OwnI.len HO1.out])
            have HO2 := Lib.hid (hO2'.base (B' := w.heap.size) Ua.out.size)
            have HA2 := Lib.hid (show ∀ k, blk? A2 = some k → wa.heap.size ≤ k from fun k hk => (row_lt hO2' hk).1)
            have Ub := Lib.hid (show Below w.heap.size w wb from Up.trans (show Up w wa from Ua.out) hu2)
            have HCb := Lib.hid (blk_up HCB.out hu2)
            have HIb := Lib.hid (HI9.out.up hu2)
            have hN2' : N2 ≤ 4100 := by have := HN2.out; omega
            have HSb := Lib.hid Ub.out.size
            clear hN2 hO2' hu2
            go_wp2_with (at_builtin; refine wpList_appendO rfl (.tmp 50) (.tmp 53) 26 rfl .u8 w.heap.size 5 1 Try.underlying26 info5 A2 N2 c2 _ rfl (own_up HO2.out (up_alloc wb _)) (some ⟨wb.heap.size, 0, none⟩) 1 1 [_] rfl rfl (cells_one wb _) (by omega) (by omega) (up_alloc wb _ |>.size |> Nat.le_trans HSb.out) ?_; intro A3 N3 c3 w3 HN3 HW3 HO3 HB3; have HU3 := Lib.hid (up_alloc wb _ |>.out (fun k => blk? A2 = some k) |>.trans HO3.out (Sub.refl _ _)))
            have hN3 : N3 ≤ 4101 := by have := HN3.out; omega
            have HPW := Lib.hid (lt_of_blk HCB.out)
            have HP2 := Lib.hid (show ¬ (blk? A2 = some pb) from fun e => by have h1 := HA2.out pb e; have h2 := HPW.out; omega)
            have HC3 := Lib.hid (HU3.out.blk HCb.out HP2.out)
            have HI3 := Lib.hid (HIb.out.outS' HU3.out (fun hne k hk e => by have h1 := HA2.out k e; have h2 := HI9.out.lt hne hk; omega))
            have U3 := Lib.hid (show Below w.heap.size w w3 from Below.out Ub.out HU3.out (fun k hk => by have h1 := HA2.out k hk; have h2 := Ua.out.size; omega) HSb.out)
            have I3 := Lib.hid (own_inB HW3.out (by refine (HBY.out.be cd 4).append ?_; intro x hx; rw [List.mem_singleton] at hx; omega))
            have BY3 := Lib.hid I3.out.byt
            have x0 := cell_of HC3.out (j := 0) rfl
            have x1 := cell_of HC3.out (j := 1) rfl
            have x4 := cell_of HC3.out (j := 4) rfl
            clear HO3 HB3 HU3 z0 z1 z2 z3 z4 HCb HIb HA2 HP2
            go_wp2_with fail
            refine (rput A3 N3 c3 3 _ (8 + (n9 : Int) + 4) w3 I3.out (by omega) (by omega) (by omega)).mono ?_
            rintro e w4 ⟨A4, N4, c4, rfl, hN4, hO4', hu4⟩
            have HN4 := Lib.hid (show N4 = N3 + 3 by rw [hN4, List.length_append, be_length, OwnI.len HW3.out])
            have HO4 := Lib.hid (hO4'.base (B' := w.heap.size) U3.out.size)
            have HA4 := Lib.hid (show ∀ k, blk? A4 = some k → w3.heap.size ≤ k from fun k hk => (row_lt hO4' hk).1)
            have U4 := Lib.hid (show Below w.heap.size w w4 from Up.trans (show Up w w3 from U3.out) hu4)
            have HC4 := Lib.hid (blk_up HC3.out hu4)
            have HI4 := Lib.hid (HI3.out.up hu4)
            have hN4' : N4 ≤ 4104 := by have := HN4.out; omega
            have hs34 := Lib.hid hu4.size
            clear hN4 hO4' hu4 x0 x1 x4
            have y1 := cell_of HC4.out (j := 1) rfl
            have y4 := cell_of HC4.out (j := 4) rfl
            go_wp2_with fail
            refine (rput A4 N4 c4 4 _ vd w4 (own_inB HO4.out (BY3.out.be _ 3)) (by omega) (by omega) (by omega)).mono ?_
            rintro e w5 ⟨A5, N5, c5, rfl, hN5, hO5', hu5⟩
            have HN5 := Lib.hid (show N5 = N4 + 4 by rw [hN5, List.length_append, be_length, OwnI.len HO4.out])
            have HO5 := Lib.hid (hO5'.base (B' := w.heap.size) U4.out.size)
            have HA5 := Lib.hid (show ∀ k, blk? A5 = some k → w3.heap.size ≤ k from fun k hk => Nat.le_trans hs34.out (row_lt hO5' hk).1)
            have U5 := Lib.hid (show Below w.heap.size w w5 from Up.trans (show Up w w4 from U4.out) hu5)
            have HC5 := Lib.hid (blk_up HC4.out hu5)
            have HI5 := Lib.hid (HI4.out.up hu5)
            have hN5' : N5 ≤ 4108 := by have := HN5.out; omega
            clear hN5 hO5' hu5 y1 y4
            have y4 := cell_of HC5.out (j := 4) rfl
            go_wp2_with fail
            refine (refpadded_any A9 n9 c9 bs w5 HI5.out (by omega)).mono ?_
            rintro e w6 ⟨A6, N6, c6, rfl, hN6, hO6, hu6⟩
            have U6 := Lib.hid (show Below w.heap.size w w6 from Up.trans (show Up w w5 from U5.out) hu6.out)
            have HS6 := Lib.hid U6.out.size
            have HN6 := Lib.hid (show N6 = n9 + padN n9 by rw [hN6.out, padL_length, HL9.out])
            have hp9 := padN_lt n9
            have hN6' : N6 ≤ 4100 := by have := HN6.out; omega
            go_upto_region 25 with (at_builtin; refine wpList_appendO rfl (.tmp 67) (.tmp 70) 26 rfl .u8 w.heap.size 5 1 Try.underlying26 info5 A5 N5 c5 _ rfl (own_up HO5.out hu6.out) A6 N6 c6 _ rfl hO6.out.len hO6.out.cells (by omega) (by omega) HS6.out ?_; intro A7 N7 c7 w7 HN7 HW7 HO7 HB7)
            have U7 := Lib.hid (show Below w.heap.size w w7 from Below.out U6.out HO7.out (fun k hk => by have h1 := HA5.out k hk; have h2 := U3.out.size; have h3 := hs34.out; omega) HS6.out)
            have HSZ := Lib.hid (show N7 = szL (l.map AvB.pure) (j + 1) by
              have h1 := HXE.out
              rw [HAL.out] at h1
              have h2 : padN (12 + n9) = padN n9 := by unfold padN; omega
              have h3 := HN7.out; have h4 := HN6.out; have h5 := HN4.out; have h6 := HN3.out; have h7 := HN2.out; have h8 := hsz.out
              have h9 := HN5.out; omega)
            have HEND := Lib.hid (show OwnI .u8 5 w.heap.size w7 A7 N7 c7 (encAs ((l.map AvB.pure).take (j + 1))) by
              rw [HXT.out, HE.out, HL9.out]
              rw [show (((12 + n9 : Nat) : Int)) = 8 + (n9 : Int) + 4 by omega]
              simpa [List.append_assoc] using HW7.out)
            by_cases hfit : N7 ≤ 4096
            · have e3 : decide (4096 < (N7 : Int)) = false := by simp; omega
              go_wp2_with fail
              go_roundw
              case rel => exact ⟨j + 1, N7, A7, c7, by omega, hfit, by go_num, rfl, HSZ, HEND, U7⟩
              case measure => simp [intOf]; omega
            · have e3 : decide (4096 < (N7 : Int)) = true := by simp; omega
              have HNO := Lib.hid (show ¬ ((encAs (l.map AvB.pure)).length ≤ 4096) by have h1 := HXL.out; have h2 := HSZ.out; omega)
              go_wp2_with fail
              go_ret2
              exact putPost_no rfl (fun e => HNO.out e.2) U7.out
    · obtain rfl : j = n := by omega
      have e1 : decide ((j : Int) < (j : Int)) = false := by simp
      have HTA := Lib.hid (show (l.map AvB.pure).take j = l.map AvB.pure from List.take_of_length_le (by simp [H.out.len]))
      have HSS := Lib.hid (show N1 = (encAs (l.map AvB.pure)).length by rw [hsz.out]; exact szL_all (by simp [H.out.len]))
      go_wp2_with fail
      go_ret2
      have hO2 := hO.out
      rw [HTA.out] at hO2
      exact ⟨encAs (l.map AvB.pure), 0, A1, N1, c1, rfl, Lib.hid (.inl ⟨rfl, rfl, by simp [H.out.len]; omega, by have := HSS.out; omega⟩), Lib.hid HSS.out, Lib.hid hO2, Lib.hid hB.out⟩
theorem rput_any' (A : Option Addr) (n cap : Nat) (l : List AvB) (w : World) (h : InL w A n cap l) (hn : n ≤ 140737488351232) : Calls Try.prog 33 #[.slice A n cap] w (PutPost (l.map AvB.pure) w) := by
  by_cases h64 : 64 < n
  · exact rput_large A n cap l w h.len h64 hn
  · exact rput_small A n cap l w h (by omega)
end Go.Proofs.Ythncpkjnalmpkaa
