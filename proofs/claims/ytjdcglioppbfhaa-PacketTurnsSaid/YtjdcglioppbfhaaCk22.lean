import Derived.Test.YtjdcglioppbfhaaCk17
import Derived.Deep.DeepCutAuto
import Derived.Test.YtjdcglioppbfhaaPk4
namespace Go.Proofs.Ytjdcglioppbfhaa
open Go Go.RowKit
set_option linter.unusedVariables false
set_option linter.unusedSimpArgs false
theorem encL_step {l : List ChB} {k : Nat} {x : ChB} (hx : l[k]? = some x) : encL ((l.map ChB.pure).take (k + 1)) = encL ((l.map ChB.pure).take k) ++ encC x.pure := by
  have h2 : (l.map ChB.pure)[k]? = some x.pure := by simp [hx]
  obtain ⟨hl, he⟩ := List.getElem?_eq_some_iff.1 h2
  rw [List.take_succ_eq_append_getElem hl, he, encL_snoc]
set_option maxRecDepth 100000 in
set_option maxHeartbeats 1000000 in
theorem put_large (A : Option Addr) (n cap : Nat) (l : List ChB) (w : World) (hl : l.length = n) (hn : 32 < n) (hn2 : n ≤ 140737488351232) : Calls Try.prog 24 #[.slice A n cap] w (PutPost (l.map ChB.pure) w) := by
  have HL := Lib.hid hl
  clear hl
  have d1 : decide (32 < (n : Int)) = true := by simp; omega
  go_enter Try.func24, Try.ntmps24
  go_wp2_with fail
  go_ret2
  exact ⟨[], 4, none, 0, 0, rfl, Lib.hid (.inr ⟨rfl, rfl, fun h => by have h1 := h.1; rw [List.length_map, HL.out] at h1; omega⟩), Lib.hid rfl, Lib.hid (ownI_nil _ _ _ _), Lib.hid (Up.refl _)⟩
set_option maxRecDepth 100000 in
set_option maxHeartbeats 2000000 in
theorem put_small (A : Option Addr) (n cap : Nat) (l : List ChB) (w : World) (h : InL w A n cap l) (hn : n ≤ 32) : Calls Try.prog 24 #[.slice A n cap] w (PutPost (l.map ChB.pure) w) := by
  have H := Lib.hid h
  have hcap := h.cap
  clear h
  have d1 : decide (32 < (n : Int)) = false := by simp; omega
  go_enter Try.func24, Try.ntmps24
  go_wp2_with fail
  go_loopw [4, 15] (fun v i wr => ∃ k sz : Nat, k ≤ n ∧ i = .int .i64 (k : Int) ∧ v = .int .i64 (sz : Int) ∧ sz ≤ 4096 ∧ Hid (sz = (encL ((l.map ChB.pure).take k)).length) ∧ Hid (Up w wr)) (fun _ i _ => n - (intOf i).toNat)
  case atStart => exact ⟨0, 0, Nat.zero_le _, rfl, rfl, by omega, Lib.hid rfl, Lib.hid (Up.refl _)⟩
  case round =>
    obtain ⟨k, sz, hk, rfl, rfl, hsz, hse, hu⟩ := hrel
    by_cases hlt : k < n
    · obtain ⟨x, ga, o, hx, rfl, k0, k1, k2, hci⟩ := (H.out.up hu.out).at_ hlt
      have HX := Lib.hid (encL_step hx)
      have HC := Lib.hid hci
      have hxn := hci.n
      have hp := padN_lt x.n
      clear hx hci
      go_upto_region 7 with (fail)
      go_quiet ((go_at_call 40; exact Calls.quiet_of_same ((pad_any x.n _ (by omega)).mono fun _ _ h => ⟨h.1, h.2.symm⟩)))
      have HSZ := Lib.hid (show sz + (4 + x.n + padN x.n) = (encL ((l.map ChB.pure).take (k + 1))).length by rw [HX.out, List.length_append, ← hse.out, encC_length]; show _ = sz + (4 + x.bs.length + padN x.bs.length); rw [HC.out.inb.len])
      by_cases hbig : 4096 < sz + (4 + x.n + padN x.n)
      · have d2 : decide (4096 < (sz : Int) + (4 + (x.n : Int) + (padN x.n : Int))) = true := by simp; omega
        go_wp2_with fail
        go_ret2
        exact ⟨[], 4, none, 0, 0, rfl, Lib.hid (.inr ⟨rfl, rfl, fun h => by have h1 := encL_take_le (l.map ChB.pure) (k + 1); have := HSZ.out; omega⟩), Lib.hid rfl, Lib.hid (ownI_nil _ _ _ _), Lib.hid ((hu.out.trans (up_alloc _ _)).trans (up_drewN _ _))⟩
      · have d2 : decide (4096 < (sz : Int) + (4 + (x.n : Int) + (padN x.n : Int))) = false := by simp; omega
        go_wp2_with fail
        go_roundw
        case rel => exact ⟨k + 1, sz + (4 + x.n + padN x.n), by omega, by go_num, by go_num, by omega, HSZ, Lib.hid ((hu.out.trans (up_alloc _ _)).trans (up_drewN _ _))⟩
        case measure => simp [intOf]; omega
    · obtain rfl : k = n := by omega
      have hmk := make_cap sz (by omega) wr
      have HLT := Lib.hid (show (l.map ChB.pure).length = k by simp [H.out.len])
      have HTOT := Lib.hid (show sz = (encL (l.map ChB.pure)).length by have := hse.out; rwa [List.take_of_length_le (by rw [HLT.out]; exact Nat.le_refl _)] at this)
      have G0 := Lib.hid (WH.start sz (by omega) hu.out)
      clear hse
      go_upto_region 12 with (fail)
      clear hmk
      generalize ((wr.alloc (Obj.cells (Array.replicate sz (Value.int IntKind.u8 0)) 5)).alloc (Obj.cells #[Value.slice (some { block := wr.heap.size, off := 0 }) 0 sz] 70)) = W2 at G0 ⊢
      generalize wr.heap.size + 1 = g at G0 ⊢
      go_wp2_with fail
      go_loopw [38] (fun i wq => ∃ j : Nat, j ≤ k ∧ i = .int .i64 (j : Int) ∧ Hid (WH g [] w (encL ((l.map ChB.pure).take j)) wq)) (fun i _ => k - (intOf i).toNat)
      case atStart => exact ⟨0, Nat.zero_le _, rfl, Lib.hid (by simpa [encL] using G0.out)⟩
      case round =>
        obtain ⟨j, hj, rfl, hG⟩ := hrel
        by_cases hlt2 : j < k
        · obtain ⟨x, ga, o, hx, rfl, k0, k1, k2, hci⟩ := (H.out.up hG.out.upw).at_ hlt2
          have HX := Lib.hid (encL_step hx)
          have HI := Lib.hid (H.out.ch x (List.mem_of_getElem? hx))
          have hlen : (encL ((l.map ChB.pure).take (j + 1))).length ≤ 4096 := by have := encL_take_le (l.map ChB.pure) (j + 1); have := HTOT.out; omega
          have hl2 := hlen
          rw [HX.out, List.length_append, encC_length] at hl2
          have HK := Lib.hid (show (encL ((l.map ChB.pure).take j)).length ≤ 4096 by omega)
          have hxn : x.n ≤ 4096 := by have := HI.out.inb.len; have e : x.pure.bs.length = x.bs.length := rfl; omega
          have hW1 := Lib.hid (hG.out.push (.cells #[.int .u8 x.ty, .int .u8 x.fl, .slice x.A x.n x.c] 43))
          clear hx hci hlen hl2
          go_upto_region 15 with (fail)
          generalize wr.alloc (.cells #[.int .u8 x.ty, .int .u8 x.fl, .slice x.A x.n x.c] 43) = wa at hW1 ⊢
          generalize wr.heap.size = pb at hW1 ⊢
          clear k0 k1 k2
          have z0 := cell_of (hW1.out.kept _ List.mem_cons_self) (j := 0) rfl
          simp only at z0
          go_wp2_with fail
          refine (hW1.out.one HI.out.ty.1 HI.out.ty.2 (by have := HK.out; omega)).mono ?_
          rintro e wb ⟨rfl, hW2⟩
          have z1 := cell_of (hW2.out.kept _ List.mem_cons_self) (j := 1) rfl
          simp only at z1
          clear z0 hW1
          go_wp2_with fail
          refine (hW2.out.one HI.out.fl.1 HI.out.fl.2 (by have := HK.out; simp [be_length]; omega)).mono ?_
          rintro e wc ⟨rfl, hW3⟩
          have z2 := cell_of (hW3.out.kept _ List.mem_cons_self) (j := 2) rfl
          simp only at z2
          clear z1 hW2
          go_wp2_with fail
          refine (hW3.out.padded HI.out.inb (by omega) (by have := HK.out; simp [be_length]; omega)).mono ?_
          rintro e wd ⟨rfl, hW4⟩
          clear z2 hW3
          have hW5 := Lib.hid hW4.out.tail
          clear hW4
          have HE := Lib.hid (show encL ((l.map ChB.pure).take j) ++ be x.ty 1 ++ be x.fl 1 ++ be (4 + (x.n : Int)) 2 ++ padL x.bs = encL ((l.map ChB.pure).take (j + 1)) by
            rw [HX.out]
            have e1 : be x.ty 1 = [x.ty] := by simp only [be]; have := HI.out.ty; simp; omega
            have e2 : be x.fl 1 = [x.fl] := by simp only [be]; have := HI.out.fl; simp; omega
            have e3 : x.pure.bs.length = x.n := HI.out.inb.len
            unfold encC
            rw [e1, e2, e3]
            simp [ChB.pure])
          go_wp2_with fail
          go_roundw
          case rel => exact ⟨j + 1, by omega, by go_num, Lib.hid (by rw [← HE.out]; simpa using hW5.out)⟩
          case measure => simp [intOf]; omega
        · obtain rfl : j = k := by omega
          obtain ⟨A9, N9, c9, k9, hN9, hO9, hu9⟩ := hG.out.fin
          have e1 : (l.map ChB.pure).take j = l.map ChB.pure := List.take_of_length_le (by rw [HLT.out]; exact Nat.le_refl _)
          rw [e1] at hN9 hO9
          clear hG e1
          go_wp2_with fail
          go_ret2
          exact ⟨_, 0, A9, N9, c9, rfl, Lib.hid (.inl ⟨rfl, rfl, by rw [HLT.out]; exact hn, by rw [← HTOT.out]; exact hsz⟩), hN9, hO9, hu9⟩
theorem put_any' (A : Option Addr) (n cap : Nat) (l : List ChB) (w : World) (h : InL w A n cap l) (hn : n ≤ 140737488351232) : Calls Try.prog 24 #[.slice A n cap] w (PutPost (l.map ChB.pure) w) := by
  by_cases h32 : 32 < n
  · exact put_large A n cap l w h.len h32 hn
  · exact put_small A n cap l w h (by omega)
end Go.Proofs.Ytjdcglioppbfhaa
namespace Go.Proofs.Ytjdcglioppbfhaa
open Go Go.RowKit
set_option linter.unusedVariables false
set_option linter.unusedSimpArgs false
/-! packet.Put. -/
namespace Pk
def raw (p : Pkt) : List Int := (((be p.src 2 ++ be p.dst 2) ++ be p.tag 4) ++ be 0 4) ++ encL p.chs
/-- The bytes of a packet. -/
def enc (p : Pkt) : List Int := sealP (raw p)
def fits (p : Pkt) : Prop := soundB p = true ∧ p.chs.length ≤ 32 ∧ (encL p.chs).length + 12 ≤ 4096
end Pk
theorem raw_length (p : Pk.Pkt) : (Pk.raw p).length = 12 + (encL p.chs).length := by simp [Pk.raw, be_length]; omega
theorem enc_length (p : Pk.Pkt) : (Pk.enc p).length = 12 + (encL p.chs).length := by unfold Pk.enc; rw [sealP_length (by rw [raw_length]; omega), raw_length]
def PkRes (p : Pk.Pkt) (ys : List Int) (k : Int) : Prop := (k = 0 ∧ ys = Pk.enc p ∧ Pk.fits p) ∨ ((k = 2 ∨ k = 4) ∧ ys = [] ∧ ¬ Pk.fits p ∧ (k = 2 ↔ Pk.soundB p = false))
def PkPost (p : Pk.Pkt) (w : World) (e : Ending) (w' : World) : Prop := ∃ ys k A N c, e = .returned (.tuple #[.slice A N c, .int .i64 k]) ∧ Hid (PkRes p ys k) ∧ Hid (N = ys.length) ∧ Hid (OwnI .u8 5 w.heap.size w' A N c ys) ∧ Hid (Up w w')
theorem pkPost_no {p : Pk.Pkt} {k : Int} {w w' : World} {e : Ending} (he : e = .returned (.tuple #[.slice none 0 0, .int .i64 k])) (hk : k = 2 ∨ k = 4) (hf : ¬ Pk.fits p) (hs : k = 2 ↔ Pk.soundB p = false) (hu : Up w w') : PkPost p w e w' :=
  ⟨[], k, none, 0, 0, he, Lib.hid (.inr ⟨hk, rfl, hf, hs⟩), Lib.hid rfl, Lib.hid (ownI_nil _ _ _ _), Lib.hid hu⟩
set_option maxRecDepth 100000 in
set_option maxHeartbeats 2000000 in
theorem pput_any (A : Option Addr) (n c : Nat) (l : List ChB) (f t g : Int) (w : World) (h : InL w A n c l) (hn : n ≤ 140737488351232) (hp : Pk.PktOk (ChB.pkt l f t g)) :
    Calls Try.prog 11 #[pkV f t g (.slice A n c)] w (PkPost (ChB.pkt l f t g) w) := by
  have H := Lib.hid h
  have HP := Lib.hid hp
  have HBL := Lib.hid (inL_bytL h)
  have HN := Lib.hid (new_at w (.cells (pkC f t g (.slice A n c)) 27))
  have HU := Lib.hid (up_alloc w (.cells (pkC f t g (.slice A n c)) 27))
  clear h hp
  unfold pkV pkC at *
  have HRW := Lib.hid (show Pk.raw (ChB.pkt l f t g) = (((be f 2 ++ be t 2) ++ be g 4) ++ be 0 4) ++ encL (l.map ChB.pure) from rfl)
  have HCH := Lib.hid (show (ChB.pkt l f t g).chs = l.map ChB.pure from rfl)
  have hf0 := HP.out.src
  have ht0 := HP.out.dst
  have hg0 := HP.out.tag
  simp only [ChB.pkt] at hf0 ht0 hg0
  generalize hpp : ChB.pkt l f t g = p at *
  have HPP := Lib.hid hpp
  clear hpp
  go_enter Try.func11, Try.ntmps11
  go_upto_region 1 with (fail)
  have e0 : (w.alloc (.cells #[.int .u16 f, .int .u16 t, .int .u32 g, .slice A n c] 27)).cell? ⟨w.heap.size, 0, none⟩ = some (.int .u16 f) := cell_of HN.out rfl
  generalize hwa : w.alloc (.cells #[.int .u16 f, .int .u16 t, .int .u32 g, .slice A n c] 27) = wa at HN HU e0 ⊢
  have e1 : wa.cell? ⟨w.heap.size, 1, none⟩ = some (.int .u16 t) := cell_of HN.out rfl
  have e2 : wa.cell? ⟨w.heap.size, 2, none⟩ = some (.int .u32 g) := cell_of HN.out rfl
  have e3 : wa.cell? ⟨w.heap.size, 3, none⟩ = some (.slice A n c) := cell_of HN.out rfl
  generalize hqq : w.heap.size = q at HN e0 e1 e2 e3 ⊢
  have HQ := Lib.hid hqq
  clear hwa hqq
  go_wp2_with fail
  refine (sound_any A n c l f t g wa (H.out.up HU.out) hn).mono ?_
  rintro e w1 ⟨rfl, hu⟩
  rw [HPP.out]
  have HU1 := Lib.hid (HU.out.trans hu.out)
  have HN1 := Lib.hid ((hu.out.block _ (lt_of_blk HN.out)).trans HN.out)
  have H1 := Lib.hid (H.out.up HU1.out)
  clear hu e0 e1 e2 e3
  have e3 : w1.cell? ⟨q, 3, none⟩ = some (.slice A n c) := cell_of HN1.out rfl
  cases hs : Pk.soundB p
  · have HS := Lib.hid hs
    clear hs
    go_wp2_with fail
    go_ret2
    exact pkPost_no rfl (.inl rfl) (fun hf => by have := hf.1; rw [HS.out] at this; cases this) (by rw [HS.out]; simp) HU1.out
  have HS := Lib.hid hs
  clear hs
  go_wp2_with fail
  refine (put_any' A n c l w1 H1.out hn).mono ?_
  rintro e w2 ⟨cs, k, A2, N2, c2, rfl, hr, hN2, hO2, hu2⟩
  have HU2 := Lib.hid (HU1.out.trans hu2.out)
  have HN2 := Lib.hid ((hu2.out.block _ (lt_of_blk HN1.out)).trans HN1.out)
  clear hu2 e3
  rcases hr.out with ⟨rfl, rfl, hl32, hl4⟩ | ⟨rfl, rfl, hno⟩
  · have HL32 := Lib.hid hl32
    have hel : N2 ≤ 4096 := by rw [hN2.out]; exact hl4
    have HEL := Lib.hid hN2.out
    have HCI := Lib.hid (own_inB hO2.out (byt_encL HBL.out))
    clear hr hl32 hl4 hN2 hO2
    by_cases hbig : 4096 < 12 + N2
    · have d1 : decide ((4096 : Int) < 12 + (N2 : Int)) = true := by simp; omega
      go_wp2_with fail
      go_ret2
      exact pkPost_no rfl (.inr rfl) (fun hf => by have := hf.2.2; rw [HCH.out] at this; have := HEL.out; omega) (by rw [HS.out]; simp) HU2.out
    · have d1 : decide ((4096 : Int) < 12 + (N2 : Int)) = false := by simp; omega
      have x0 : w2.cell? ⟨q, 0, none⟩ = some (.int .u16 f) := cell_of HN2.out rfl
      go_wp2_with fail
      refine (put_any none 0 0 2 [] f w2 (inB_nil w2) (by omega) (by omega) (by omega)).mono ?_
      rintro e w3 ⟨A3, N3, c3, rfl, hN3, hO3, hu3⟩
      have hn3 : N3 = 2 := by rw [hN3]; simp [be_length]
      subst hn3
      rw [List.nil_append] at hO3
      have HI3 := Lib.hid (own_inB hO3 (be_byt _ _))
      have HU3 := Lib.hid (HU2.out.trans hu3)
      have HN3 := Lib.hid ((hu3.block _ (lt_of_blk HN2.out)).trans HN2.out)
      have HC3 := Lib.hid (HCI.out.up hu3)
      clear hN3 hO3 hu3 x0 d1
      have x1 : w3.cell? ⟨q, 1, none⟩ = some (.int .u16 t) := cell_of HN3.out rfl
      go_wp2_with fail
      refine (put_any A3 2 c3 2 (be f 2) t w3 HI3.out (by omega) (by omega) (by omega)).mono ?_
      rintro e w4 ⟨A4, N4, c4, rfl, hN4, hO4, hu4⟩
      have hn4 : N4 = 4 := by rw [hN4]; simp [be_length]
      subst hn4
      have HI4 := Lib.hid (own_inB hO4 ((be_byt _ _).append (be_byt _ _)))
      have HU4 := Lib.hid (HU3.out.trans hu4)
      have HN4 := Lib.hid ((hu4.block _ (lt_of_blk HN3.out)).trans HN3.out)
      have HC4 := Lib.hid (HC3.out.up hu4)
      clear hN4 hO4 hu4 x1
      have x2 : w4.cell? ⟨q, 2, none⟩ = some (.int .u32 g) := cell_of HN4.out rfl
      go_wp2_with fail
      refine (put_any A4 4 c4 4 (be f 2 ++ be t 2) g w4 HI4.out (by omega) (by omega) (by omega)).mono ?_
      rintro e w5 ⟨A5, N5, c5, rfl, hN5, hO5, hu5⟩
      have hn5 : N5 = 8 := by rw [hN5]; simp [be_length]
      subst hn5
      have HI5 := Lib.hid (own_inB hO5 (((be_byt _ _).append (be_byt _ _)).append (be_byt _ _)))
      have HU5 := Lib.hid (HU4.out.trans hu5)
      have HC5 := Lib.hid (HC4.out.up hu5)
      clear hN5 hO5 hu5 x2
      go_wp2_with fail
      refine (put_any A5 8 c5 4 ((be f 2 ++ be t 2) ++ be g 4) 0 w5 HI5.out (by omega) (by omega) (by omega)).mono ?_
      rintro e w6 ⟨A6, N6, c6, rfl, hN6, hO6, hu6⟩
      have hn6 : N6 = 12 := by rw [hN6]; simp [be_length]
      subst hn6
      have HO6 := Lib.hid hO6
      have HU6 := Lib.hid (HU5.out.trans hu6)
      have HX6 := Lib.hid hu6
      have HC6 := Lib.hid (HC5.out.up hu6)
      clear hN6 hO6 hu6
      go_wp2_with (at_builtin; refine wpList_appendI rfl (.tmp 39) (.tmp 40) 22 rfl .u8 w5.heap.size 5 1 Try.underlying22 info5 A6 12 c6 (((be f 2 ++ be t 2) ++ be g 4) ++ be 0 4) rfl HO6.out A2 N2 c2 (encL (l.map ChB.pure)) rfl HC6.out.len HC6.out.cells (by omega) (by omega) HX6.out.size HX6.out ?_; intro A7 N7 c7 w7 HN7 HW7 HB7 hsz7)
      have hn7 : N7 = 12 + N2 := HN7.out
      subst hn7
      have HO7 := Lib.hid (show OwnI .u8 5 w5.heap.size w7 A7 (12 + N2) c7 (Pk.raw p) from by rw [HRW.out]; exact HW7.out)
      obtain ⟨g7, rfl, -, -⟩ := HO7.out.at_ (by omega)
      have hbyt : Byt (Pk.raw p) := by rw [HRW.out]; exact ((((be_byt _ _).append (be_byt _ _)).append (be_byt _ _)).append (be_byt _ _)).append (byt_encL HBL.out)
      have HBR := Lib.hid hbyt
      have HU7 := Lib.hid (HU5.out.trans HB7.out)
      clear hbyt HW7 HB7 HN7
      refine (sealed_any ⟨g7, 0, none⟩ (12 + N2) c7 (Pk.raw p) w7 (own_inB HO7.out HBR.out) (by omega) (by omega)).mono ?_
      rintro e w8 ⟨A8, c8, rfl, hO8, hu8⟩
      go_wp2_with fail
      go_ret2
      refine ⟨Pk.enc p, 0, A8, 12 + N2, c8, rfl, Lib.hid (.inl ⟨rfl, rfl, HS.out, by rw [HCH.out]; exact HL32.out, by rw [HCH.out, ← HEL.out]; omega⟩), Lib.hid (by rw [enc_length, HCH.out, HEL.out]), Lib.hid ?_, Lib.hid (HU7.out.trans hu8.out)⟩
      exact OwnI.base hO8.out HU7.out.size
  · have HNO := Lib.hid hno
    clear hr hno
    go_wp2_with fail
    go_ret2
    exact pkPost_no rfl (.inr rfl) (fun hf => HNO.out ⟨by have := hf.2.1; rwa [HCH.out] at this, by have := hf.2.2; rw [HCH.out] at this; omega⟩) (by rw [HS.out]; simp) HU2.out
end Go.Proofs.Ytjdcglioppbfhaa
