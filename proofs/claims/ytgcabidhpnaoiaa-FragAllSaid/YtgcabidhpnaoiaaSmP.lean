import Derived.Test.YtgcabidhpnaoiaaRC2
namespace Go.Proofs.Ytgcabidhpnaoiaa
open Go Go.RowKit Go.Shelf Fg
set_option linter.unusedVariables false
set_option linter.unusedSimpArgs false
/-! The reference's SamePiece and the law's same, at pieces that are the same. -/
def pcA (x : PcB) : Value := .agg #[.int .u32 x.p.tsn, .int .u16 x.p.st, .int .u16 x.p.sq, .bool x.p.bg, .bool x.p.en, .bool x.p.un, .slice x.A x.p.bs.length x.c]
set_option maxRecDepth 100000 in
set_option maxHeartbeats 2000000 in
theorem sameP (t st sq n c d : Nat) (bg en un : Bool) (bs : List Int) (A B : Option Addr) (w : World) (ha : InB w A n c bs) (hb : InB w B n d bs) :
    Calls Try.prog 24 #[.agg #[.int .u32 (t : Int), .int .u16 (st : Int), .int .u16 (sq : Int), .bool bg, .bool en, .bool un, .slice A n c], .agg #[.int .u32 (t : Int), .int .u16 (st : Int), .int .u16 (sq : Int), .bool bg, .bool en, .bool un, .slice B n d]] w (RetB true w) := by
  have HA := Lib.hid ha
  have HB := Lib.hid hb
  clear ha hb
  go_enter Try.func24, Try.ntmps24
  go_upto_region 1 with (fail)
  have HU := Lib.hid ((up_alloc w (.cells #[.int .u32 (t : Int), .int .u16 (st : Int), .int .u16 (sq : Int), .bool bg, .bool en, .bool un, .slice A n c] 51)).trans (up_alloc _ (.cells #[.int .u32 (t : Int), .int .u16 (st : Int), .int .u16 (sq : Int), .bool bg, .bool en, .bool un, .slice B n d] 51)))
  have h1 := conv_up HA.out HU.out
  have h2 := conv_up HB.out HU.out
  have hes : ((strOfNums bs).toList == (strOfNums bs).toList) = true := by simp
  go_wp2_with fail
  go_ret
  exact ⟨by simp, HU⟩
/-- A slice of pieces. -/
structure InP (w : World) (A : Option Addr) (n c : Nat) (l : List PcB) : Prop where
  cells : Cells w A (l.flatMap pcc)
  by_ : ∀ x ∈ l, InB w x.A x.p.bs.length x.c x.p.bs
  len : l.length = n
theorem InP.up {w w' : World} {A : Option Addr} {n c : Nat} {l : List PcB} (h : InP w A n c l) (hu : Up w w') : InP w' A n c l := ⟨h.cells.up hu, fun x hx => (h.by_ x hx).up hu, h.len⟩
theorem InP.at_ {w : World} {A : Option Addr} {n c : Nat} {l : List PcB} (h : InP w A n c l) {k : Nat} (hk : k < n) : ∃ x g o, l[k]? = some x ∧ A = some ⟨g, o, none⟩ ∧ (∀ j v, (pcc x)[j]? = some v → w.cell? ⟨g, o + k * 7 + j, none⟩ = some v) ∧ InB w x.A x.p.bs.length x.c x.p.bs := by
  have hkl : k < l.length := by rw [h.len]; exact hk
  obtain ⟨x, hx⟩ : ∃ x, l[k]? = some x := ⟨_, List.getElem?_eq_getElem hkl⟩
  obtain ⟨g, o, rfl, _, hc⟩ := h.cells (by intro e; have := congrArg List.length e; rw [rowG_length pcc 7 pcc_len] at this; simp at this; omega)
  refine ⟨x, g, o, hx, rfl, fun j v hv => ?_, h.by_ x (List.mem_of_getElem? hx)⟩
  have := hc (k * 7 + j) _ (rowG_at pcc 7 pcc_len hx hv)
  rwa [← Nat.add_assoc] at this
set_option maxRecDepth 100000 in
set_option maxHeartbeats 2000000 in
theorem sameL (A B : Option Addr) (n c d : Nat) (l m : List PcB) (w : World) (hA : InP w A n c l) (hB : InP w B n d m) (he : ps l = ps m) (hn : n ≤ 1000000) :
    Calls Try.prog 13 #[.slice A n c, .slice B n d] w (RetB true w) := by
  have HA := Lib.hid hA
  have HB := Lib.hid hB
  have HE := Lib.hid he
  clear hA hB he
  go_enter Try.func13, Try.ntmps13
  go_wp2_with fail
  go_loopw [5] (fun i wr => ∃ k : Nat, k ≤ n ∧ i = .int .i64 (k : Int) ∧ Hid (Up w wr)) (fun i _ => n - (intOf i).toNat)
  case atStart => exact ⟨0, Nat.zero_le _, rfl, Lib.hid (Up.refl _)⟩
  case round =>
    obtain ⟨k, hk, rfl, hu⟩ := hrel
    by_cases hkn : k < n
    · have d1 : decide ((k : Int) < (n : Int)) = true := by simp; omega
      have hk3 : (k : Int) < (n : Int) := by omega
      obtain ⟨x, ga, oa, hx, rfl, kc, hix⟩ := (HA.out.up hu.out).at_ hkn
      obtain ⟨y, gb, ob, hy, rfl, lc, hiy⟩ := (HB.out.up hu.out).at_ hkn
      have hxy : y.p = x.p := by
        have h1 : (ps l)[k]? = some x.p := by unfold ps; rw [List.getElem?_map, hx]; rfl
        have h2 : (ps m)[k]? = some y.p := by unfold ps; rw [List.getElem?_map, hy]; rfl
        rw [HE.out, h2] at h1
        exact Option.some.inj h1
      have k0 : wr.cell? ⟨ga, oa + k * 7, none⟩ = some (.int .u32 x.p.tsn) := kc 0 _ rfl
      have k1 : wr.cell? ⟨ga, oa + k * 7 + 1, none⟩ = some (.int .u16 x.p.st) := kc 1 _ rfl
      have k2 : wr.cell? ⟨ga, oa + k * 7 + 2, none⟩ = some (.int .u16 x.p.sq) := kc 2 _ rfl
      have k3 : wr.cell? ⟨ga, oa + k * 7 + 3, none⟩ = some (.bool x.p.bg) := kc 3 _ rfl
      have k4 : wr.cell? ⟨ga, oa + k * 7 + 4, none⟩ = some (.bool x.p.en) := kc 4 _ rfl
      have k5 : wr.cell? ⟨ga, oa + k * 7 + 5, none⟩ = some (.bool x.p.un) := kc 5 _ rfl
      have k6 : wr.cell? ⟨ga, oa + k * 7 + 6, none⟩ = some (.slice x.A x.p.bs.length x.c) := kc 6 _ rfl
      rw [show pcc y = [.int .u32 x.p.tsn, .int .u16 x.p.st, .int .u16 x.p.sq, .bool x.p.bg, .bool x.p.en, .bool x.p.un, .slice y.A x.p.bs.length y.c] by unfold pcc; rw [hxy]] at lc
      have l0 : wr.cell? ⟨gb, ob + k * 7, none⟩ = some (.int .u32 x.p.tsn) := lc 0 _ rfl
      have l1 : wr.cell? ⟨gb, ob + k * 7 + 1, none⟩ = some (.int .u16 x.p.st) := lc 1 _ rfl
      have l2 : wr.cell? ⟨gb, ob + k * 7 + 2, none⟩ = some (.int .u16 x.p.sq) := lc 2 _ rfl
      have l3 : wr.cell? ⟨gb, ob + k * 7 + 3, none⟩ = some (.bool x.p.bg) := lc 3 _ rfl
      have l4 : wr.cell? ⟨gb, ob + k * 7 + 4, none⟩ = some (.bool x.p.en) := lc 4 _ rfl
      have l5 : wr.cell? ⟨gb, ob + k * 7 + 5, none⟩ = some (.bool x.p.un) := lc 5 _ rfl
      have l6 : wr.cell? ⟨gb, ob + k * 7 + 6, none⟩ = some (.slice y.A x.p.bs.length y.c) := lc 6 _ rfl
      rw [hxy] at hiy
      have HIX := Lib.hid hix
      have HIY := Lib.hid hiy
      clear kc lc hx hy hix hiy hxy
      go_upto_region 4 with (fail)
      go_cut [27] (fun v wx => v = .bool false ∧ Hid (Up wr wx))
      case first =>
        go_region_with (go_at_call 24; refine (sameP x.p.tsn x.p.st x.p.sq x.p.bs.length x.c y.c x.p.bg x.p.en x.p.un x.p.bs x.A y.A _ (HIX.out.up (Up.drew wr)) (HIY.out.up (Up.drew wr))).mono ?_; rintro e w2 ⟨rfl, hu2⟩)
        all_goals
          go_wp2_with fail
          go_meet
          exact ⟨rfl, Lib.hid ((Up.drew wr).trans hu2.out)⟩
      case rest =>
        obtain ⟨rfl, hu2⟩ := hcut
        go_wp2_with fail
        go_roundw
        case rel => exact ⟨k + 1, by omega, by go_num, Lib.hid (hu.out.trans hu2.out)⟩
        case measure => simp [intOf]; omega
    · obtain rfl : k = n := by omega
      have d1 : decide ((k : Int) < (k : Int)) = false := by simp
      have d2 : ((k : Int) == (k : Int)) = true := by simp
      go_wp2_with fail
      go_ret
      exact ⟨rfl, hu⟩
end Go.Proofs.Ytgcabidhpnaoiaa
