import Derived.Test.YtccilbgbjikmpaaTsA
import Derived.Test.YtccilbgbjikmpaaTsP
import Derived.Test.YtccilbgbjikmpaaCk17
namespace Go.Proofs.Ytccilbgbjikmpaa
open Go Go.RowKit
set_option linter.unusedVariables false
set_option linter.unusedSimpArgs false
/-! The stretches beyond. -/
def dI (C x : Nat) : Int := (x : Int) - (C : Int)
theorem dI_wrap {C x : Nat} (h : C < x ∧ x ≤ C + 512) : IntKind.u32.wrap (key x - key C) = dI C x := by rw [IntKind.wrap_u32']; unfold dI key; omega
theorem cells_gap (w : World) (a b : Int) : Cells (w.alloc (.cells #[.int .u16 a, .int .u16 b] 43)) (some ⟨w.heap.size, 0, none⟩) (gapc [(a, b)]) := by
  refine fun _ => ⟨w.heap.size, 0, rfl, by simp, fun j u hu => ?_⟩
  rw [Nat.zero_add]
  refine cell_of (new_at w _) ?_
  match j, hu with
  | 0, hu => simpa [gapc, gpc] using hu
  | 1, hu => simpa [gapc, gpc] using hu
  | j + 2, hu => simp [gapc, gpc] at hu
theorem gapc_set (G : List (Int × Int)) (f t a : Int) : (gapc (G ++ [(f, t)])).set (G.length * 2 + 1) (.int .u16 a) = gapc (G ++ [(f, a)]) := by
  rw [gapc_append, gapc_append, List.set_append_right _ _ (by rw [gapc_length]; omega), gapc_length, show G.length * 2 + 1 - G.length * 2 = 1 by omega]
  rfl
/-- A row of gaps with its last end moved. -/
theorem row_stored {w : World} {base g n c : Nat} {G : List (Int × Int)} {f t : Int} (h : w.ownsRow base 43 2 (.slice (some ⟨g, 0, none⟩) n c) n (gapc (G ++ [(f, t)]))) (a : Int) :
    (w.setCell ⟨g, G.length * 2 + 1, none⟩ (.int .u16 a)).ownsRow base 43 2 (.slice (some ⟨g, 0, none⟩) n c) n (gapc (G ++ [(f, a)])) := by
  have := (World.ownsRow.stored h (G.length * 2 + 1) (.int .u16 a)).1
  rwa [gapc_set] at this
/-- The stretches of what came beyond C. -/
def GpPost (C : Nat) (A : List Nat) (w : World) (e : Ending) (w' : World) : Prop :=
  ∃ (L : List Nat) (G : List (Int × Int)) (n : Nat) (B : Option Addr) (c : Nat), e = .returned (.slice B n c) ∧ n = G.length ∧ Ts.Good G (L.map (dI C)) ∧ (L.Perm A ∧ L.Pairwise (· < ·)) ∧ w'.ownsRow w.heap.size 43 2 (.slice B n c) n (gapc G) ∧ Up w w'
/-- Where the loop stands. -/
def GpAt (C : Nat) (L : List Nat) (w1 : World) (k : Nat) (B : Option Addr) (n c : Nat) (wr : World) : Prop :=
  ∃ G, n = G.length ∧ Ts.Good G ((L.map (dI C)).take k) ∧ wr.ownsRow w1.heap.size 43 2 (.slice B n c) n (gapc G) ∧ Up w1 wr
theorem pw_last {C : Nat} {L : List Nat} (hL : L.Pairwise (· < ·)) {k : Nat} {x : Nat} (hx : L[k]? = some x) {m : List Int} {t : Int} (hm : (L.map (dI C)).take k = m ++ [t]) : t < dI C x := by
  have hk : k < L.length := (List.getElem?_eq_some_iff.1 hx).1
  have hl := congrArg List.length hm
  rw [List.length_take, List.length_map, List.length_append, List.length_singleton] at hl
  have h1 : (m ++ [t])[m.length]? = some t := by simp
  rw [← hm, List.getElem?_take, if_pos (by omega), List.getElem?_map] at h1
  obtain ⟨y, hy, rfl⟩ := Option.map_eq_some_iff.1 h1
  obtain ⟨h2, h3⟩ := List.getElem?_eq_some_iff.1 hy
  obtain ⟨h4, h5⟩ := List.getElem?_eq_some_iff.1 hx
  have := (List.pairwise_iff_getElem.1 hL) m.length k h2 h4 (by omega)
  rw [h3, h5] at this
  unfold dI
  omega
theorem take_snoc' {α : Type} {l : List α} {k : Nat} {x : α} (h : l[k]? = some x) : l.take (k + 1) = l.take k ++ [x] := by
  obtain ⟨hl, he⟩ := List.getElem?_eq_some_iff.1 h
  rw [List.take_succ_eq_append_getElem hl, he]
theorem own_bdg {w : World} {base : Nat} {E : TypeId} {s : Nat} {B : Option Addr} {n c : Nat} {xs : List Value} (h : w.ownsRow base E s (.slice B n c) n xs) {g : Nat} (hg : blk? B = some g) : base ≤ g := (row_lt h hg).1
theorem own_base {w : World} {base b2 : Nat} {E : TypeId} {s : Nat} {v : Value} {n : Nat} {xs : List Value} (h : w.ownsRow base E s v n xs) (hb : b2 ≤ base) : w.ownsRow b2 E s v n xs := by
  refine ⟨h.1, ?_⟩
  rcases h.2 with h2 | ⟨g, cap, cur, h1, h2, h3⟩
  · exact .inl h2
  · exact .inr ⟨g, cap, cur, h1, Nat.le_trans hb h2, h3⟩
theorem Up.out_ {w0 w w' : World} {S : Nat → Prop} (h : Up w0 w) (ho : Out S w w') (hS : ∀ k, S k → w0.heap.size ≤ k) : Up w0 w' := Below.out h ho hS h.size
set_option maxRecDepth 100000 in
set_option maxHeartbeats 2000000 in
theorem gaps_any (pb : Nat) (mo : Option Nat) (D : Option Addr) (c C : Nat) (A : List Nat) (d : List Int) (w : World) (h : TAt w pb mo D c C A d) (hA : Ts.Ok C A) (h64 : A.length ≤ 64) :
    Calls Try.prog 22 #[.pointer (some ⟨pb, 0, none⟩)] w (GpPost C A w) := by
  have HT := Lib.hid h
  have hA1 : ∀ x ∈ A, C < x ∧ x ≤ C + 512 := fun x hx => ⟨by have := hA.lo x hx; omega, hA.hi x hx⟩
  have HAH := Lib.hid (ahead_any pb mo D c C A d w h hA1 hA.nd)
  have HA := Lib.hid hA
  have HA1 := Lib.hid hA1
  clear h hA hA1
  go_enter Try.func22, Try.ntmps22
  go_wp2_with fail
  refine HAH.out.mono ?_
  rintro e w1 ⟨L, n, B, cB, rfl, hn, hL, hrow, hu⟩
  have HN := Lib.hid hn
  have HL := Lib.hid hL
  have HR := Lib.hid hrow
  have HU := Lib.hid hu
  have hnA : n ≤ 64 := by rw [hn, hL.1.length_eq]; exact h64
  have hnc := OwnI.cap hrow
  clear hn hL hrow hu HAH h64
  go_wp2_with fail
  go_loopw [3, 11] (fun g i wr => ∃ (k : Nat) (B2 : Option Addr) (n2 c2 : Nat), k ≤ n ∧ i = .int .i64 (k : Int) ∧ g = .slice B2 n2 c2 ∧ Hid (GpAt C L w1 k B2 n2 c2 wr)) (fun _ i _ => n - (intOf i).toNat)
  case atStart => exact ⟨0, none, 0, 0, Nat.zero_le _, rfl, rfl, Lib.hid ⟨[], rfl, by simpa using Ts.Good.nil, ⟨rfl, .inl ⟨rfl, rfl⟩⟩, Up.refl _⟩⟩
  case round =>
    obtain ⟨k, B2, n2, c2, hk, rfl, rfl, hgp⟩ := hrel
    obtain ⟨G, hn2, hG, hrow2, hu2⟩ := hgp.out
    by_cases hlt : k < n
    · obtain ⟨x, hx⟩ : ∃ x, L[k]? = some x := ⟨_, List.getElem?_eq_getElem (by rw [← HN.out]; exact hlt)⟩
      have hxA : x ∈ A := HL.out.1.mem_iff.1 (List.mem_of_getElem? hx)
      have hxb := HA1.out x hxA
      have hxl := HA.out.lo x hxA
      have hdw := dI_wrap hxb
      have hd0 : 2 ≤ dI C x ∧ dI C x ≤ 512 := by unfold dI; omega
      obtain ⟨ga, rfl, _, _⟩ := OwnI.at_ HR.out (by omega)
      have q0 := cell_up (OwnI.cellAt HR.out (j := k) (x := key x) (by rw [List.getElem?_map, hx]; rfl)) hu2
      have q1 := cell_up (HT.out.up HU.out).cells.1 hu2
      have hx2 : (L.map (dI C))[k]? = some (dI C x) := by rw [List.getElem?_map, hx]; rfl
      have hGl := hG.len
      have hlen : G.length ≤ k := by have := hG.len; rw [List.length_take] at this; omega
      have htk := take_snoc' hx2
      have hkn : (k : Int) < (n : Int) := by omega
      have hgood := hG
      have HX := Lib.hid hx
      have HTK := Lib.hid htk
      have HROW := Lib.hid hrow2
      have HU2 := Lib.hid hu2
      have HPW := Lib.hid (fun (m : List Int) (t : Int) (hm : (L.map (dI C)).take k = m ++ [t]) => pw_last HL.out.2 hx hm)
      clear hx hxA hxb hxl hx2 htk hrow2 hu2 hGl hgp hG
      generalize dI C x = a at *
      generalize key x = kx at *
      generalize hkc : key C = kc at *
      have HKC := Lib.hid hkc
      clear hkc
      obtain ⟨ha0, ha1⟩ := hd0
      have hcu : IntKind.u16.wrap a = a := by rw [IntKind.wrap_u16]; omega
      rcases List.eq_nil_or_concat G with e | ⟨G', ft, e⟩
      · subst e
        have hn0 : n2 = 0 := hn2
        clear hn2 hlen
        subst hn0
        have HGD := Lib.hid hgood
        clear hgood
        have HCG := Lib.hid (cells_gap wr a a)
        have HRA := Lib.hid (World.ownsRow.alloc HROW.out (.cells #[.int .u16 a, .int .u16 a] 43))
        have hbs : w1.heap.size ≤ (wr.alloc (.cells #[.int .u16 a, .int .u16 a] 43)).heap.size := by have := HU2.out.size; simp; omega
        have HBS := Lib.hid hbs
        clear hbs
        have hc4 : (4 : Int) = 4 := rfl
        clear hc4
        go_wp2_with (at_builtin; refine wpList_appendG rfl (.tmp 25) (.tmp 29) 33 rfl w1.heap.size 43 (.agg #[.int .u16 0, .int .u16 0]) 2 4 Try.underlying33 info43 rfl (by decide) B2 0 c2 (gapc []) rfl HRA.out (some ⟨wr.heap.size, 0, none⟩) 1 1 (gapc [(a, a)]) rfl rfl HCG.out (gapc_one _) (by omega) (by omega) HBS.out ?_; intro A' N' c' w' HN1 HW1 HO1 HB1)
        go_roundw
        case rel => exact ⟨k + 1, A', N', c', by omega, by go_num, rfl, Lib.hid ⟨[(a, a)], by rw [HN1.out]; rfl, by rw [HTK.out]; exact HGD.out.anew (by simp [Ts.top]; omega) ha0 ha1, HW1.out, (HU2.out.trans (up_alloc _ _)).out_ HO1.out (fun g hg => own_bdg HRA.out hg)⟩⟩
        case measure => simp [intOf]; omega
      · obtain ⟨f, t⟩ := ft
        rw [List.concat_eq_append] at e
        subst e
        obtain ⟨m, hm⟩ := hgood.last
        have hta := HPW.out m t hm
        have hft := hgood.ok (f, t) (by simp)
        simp only at hft
        obtain ⟨hf2, hft1, ht5⟩ := hft
        have hq : n2 = G'.length + 1 := by rw [hn2]; simp
        clear hn2 hm
        obtain ⟨q, hq2⟩ : ∃ q, q = G'.length := ⟨_, rfl⟩
        rw [← hq2] at hq
        subst hq
        have hqk : q < k := by simp at hlen; omega
        have HQ2 := Lib.hid hq2
        have HGD := Lib.hid hgood
        clear hlen hgood hq2
        obtain ⟨gb, rfl⟩ := row_at HROW.out (by omega)
        have q2 := row_cell HROW.out (j := q * 2 + 1) (v := .int .u16 t) (by rw [gapc_append, HQ2.out, List.getElem?_append_right (by rw [gapc_length]; omega), gapc_length, show G'.length * 2 + 1 - G'.length * 2 = 1 by omega]; rfl)
        by_cases hext : t + 1 = a
        · subst hext
          have q3 := World.ownsRow.frozenAt HROW.out (q * 2 + 1)
          have hout := setCell_out wr gb (q * 2 + 1) (.int .u16 (t + 1))
          have HO := Lib.hid hout
          clear hout
          have hs := row_stored HROW.out (t + 1)
          rw [← HQ2.out] at hs
          have HS := Lib.hid hs
          clear hs
          have hgb := (row_lt HROW.out (k := gb) rfl).1
          go_wp2_with fail
          go_roundw
          case rel => exact ⟨k + 1, some ⟨gb, 0, none⟩, q + 1, c2, by omega, by go_num, rfl, Lib.hid ⟨G' ++ [(f, t + 1)], by rw [HQ2.out]; simp, by rw [HTK.out]; exact HGD.out.ext (by omega), HS.out, HU2.out.out_ HO.out (fun g hg => by rw [hg]; exact hgb)⟩⟩
          case measure => simp [intOf]; omega
        · have heq : ((t + 1) == a) = false := by simp [hext]
          have h64 : ((q : Int) + 1 == 64) = false := by simp; omega
          have hta2 : t + 2 ≤ a := by omega
          have HCG := Lib.hid (cells_gap wr a a)
          have HRA := Lib.hid (World.ownsRow.alloc HROW.out (.cells #[.int .u16 a, .int .u16 a] 43))
          have hbs : w1.heap.size ≤ (wr.alloc (.cells #[.int .u16 a, .int .u16 a] 43)).heap.size := by have := HU2.out.size; simp; omega
          have HBS := Lib.hid hbs
          clear hbs
          have hc4 : (4 : Int) = 4 := rfl
          clear hc4
          go_wp2_with (at_builtin; refine wpList_appendG rfl (.tmp 25) (.tmp 29) 33 rfl w1.heap.size 43 (.agg #[.int .u16 0, .int .u16 0]) 2 4 Try.underlying33 info43 rfl (by decide) (some ⟨gb, 0, none⟩) (q + 1) c2 (gapc (G' ++ [(f, t)])) rfl HRA.out (some ⟨wr.heap.size, 0, none⟩) 1 1 (gapc [(a, a)]) rfl rfl HCG.out (gapc_one _) (by omega) (by omega) HBS.out ?_; intro A' N' c' w' HN1 HW1 HO1 HB1)
          go_roundw
          case rel => exact ⟨k + 1, A', N', c', by omega, by go_num, rfl, Lib.hid ⟨(G' ++ [(f, t)]) ++ [(a, a)], by rw [HN1.out, HQ2.out]; simp, by rw [HTK.out]; exact HGD.out.anew (by rw [Ts.top_snoc]; exact hta2) ha0 ha1, by rw [gapc_append (G' ++ [(f, t)])]; exact HW1.out, (HU2.out.trans (up_alloc _ _)).out_ HO1.out (fun g hg => own_bdg HRA.out hg)⟩⟩
          case measure => simp [intOf]; omega
    · obtain rfl : k = n := by omega
      have HG := Lib.hid hG
      have HR2 := Lib.hid hrow2
      have HU2 := Lib.hid hu2
      have HN2 := Lib.hid hn2
      clear hG hrow2 hu2 hn2 hgp
      go_wp2_with fail
      go_ret
      refine ⟨L, G, n2, B2, c2, rfl, HN2.out, ?_, HL.out, ?_, HU.out.trans HU2.out⟩
      · have := HG.out
        rwa [List.take_of_length_le (by rw [List.length_map, HN.out]; exact Nat.le_refl _)] at this
      · exact own_base HR2.out HU.out.size
end Go.Proofs.Ytccilbgbjikmpaa
