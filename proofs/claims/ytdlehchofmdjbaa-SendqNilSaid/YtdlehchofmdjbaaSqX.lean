import Derived.Test.YtdlehchofmdjbaaSqB
namespace Go.Proofs.Ytdlehchofmdjbaa
open Go Go.RowKit Sq
set_option linter.unusedVariables false
set_option linter.unusedSimpArgs false
/-! IndexFunc at the items. -/
theorem mkd_any (y : ItB) (w : World) : Calls Try.prog 18 #[.agg #[.int .u32 (y.x.p.tsn : Int), .int .u16 (y.x.p.st : Int), .int .u16 (y.x.p.sq : Int), .bool y.x.p.bg, .bool y.x.p.en, .bool y.x.p.un, .slice y.A y.x.p.bs.length y.c, .int .i64 y.x.path, .int .i64 (y.x.miss : Int), .bool y.x.ack, .bool y.x.mkd]] w fun e w' => e = .returned (.bool y.x.mkd) ∧ Hid (Up w w') := by
  obtain ⟨n, hn⟩ : ∃ n, n = y.x.p.bs.length := ⟨_, rfl⟩
  rw [← hn]
  obtain ⟨⟨⟨t, s, q, b, e, u, bs⟩, ou, ac, mk, pa, mi⟩, A, c⟩ := y
  clear hn
  simp only
  have HC := Lib.hid (new_at w (.cells #[.int .u32 (t : Int), .int .u16 (s : Int), .int .u16 (q : Int), .bool b, .bool e, .bool u, .slice A n c, .int .i64 pa, .int .i64 (mi : Int), .bool ac, .bool mk] 56))
  have HU := Lib.hid (up_alloc w (.cells #[.int .u32 (t : Int), .int .u16 (s : Int), .int .u16 (q : Int), .bool b, .bool e, .bool u, .slice A n c, .int .i64 pa, .int .i64 (mi : Int), .bool ac, .bool mk] 56))
  go_enter Try.func18, Try.ntmps18
  go_upto_region 1 with (fail)
  generalize w.alloc (.cells #[.int .u32 (t : Int), .int .u16 (s : Int), .int .u16 (q : Int), .bool b, .bool e, .bool u, .slice A n c, .int .i64 pa, .int .i64 (mi : Int), .bool ac, .bool mk] 56) = w1 at HC HU ⊢
  generalize w.heap.size = g at HC ⊢
  have c10 : w1.cell? ⟨g, 10, none⟩ = some (.bool mk) := cell_of HC.out rfl
  go_wp2_with fail
  go_ret
  exact ⟨rfl, HU⟩
namespace Sq
def idxI (o : Option Nat) : Int := match o with | some k => (k : Int) | none => -1
theorem fi_take {l : List It} {k : Nat} {x : It} (h : l[k]? = some x) (h0 : ∀ y ∈ l.take k, y.mkd = false) : (x.mkd = true → l.findIdx? (·.mkd) = some k) ∧ (x.mkd = false → ∀ y ∈ l.take (k + 1), y.mkd = false) := by
  have hlt : k < l.length := (List.getElem?_eq_some_iff.1 h).1
  have hx : l[k] = x := (List.getElem?_eq_some_iff.1 h).2
  constructor
  · intro hm
    rw [List.findIdx?_eq_some_iff_getElem]
    refine ⟨hlt, by rw [hx]; exact hm, fun j hj => ?_⟩
    have := h0 l[j] (List.mem_iff_getElem?.2 ⟨j, by rw [List.getElem?_take, if_pos hj]; exact List.getElem?_eq_getElem (by omega)⟩)
    simp [this]
  · intro hm y hy
    rw [List.take_add_one, h] at hy
    rcases List.mem_append.1 hy with hy | hy
    · exact h0 y hy
    · simp at hy; subst hy; exact hm
end Sq
set_option maxRecDepth 100000 in
set_option maxHeartbeats 1000000 in
theorem idxi_any (A : Option Addr) (n c : Nat) (L : List ItB) (w : World) (h : w.ownsRow 0 56 11 (.slice A n c) n (L.flatMap itc)) (hn : n = L.length) (hn2 : n ≤ 256) :
    Calls Try.prog 17 #[.slice A n c, .func (.func 18) #[] #[]] w fun e w' => e = .returned (.int .i64 (idxI ((L.map (·.x)).findIdx? (·.mkd)))) ∧ Hid (Up w w') := by
  have H := Lib.hid h
  have HN := Lib.hid hn
  have hcap := (row_cap h).1
  clear h hn
  go_enter Try.func17, Try.ntmps17
  go_wp2_with fail
  go_loopw [8] (fun i wr => ∃ k : Nat, k ≤ n ∧ i = .int .i64 (k : Int) ∧ Hid (∀ y ∈ (L.map (·.x)).take k, y.mkd = false) ∧ Hid (Up w wr)) (fun i _ => n - (intOf i).toNat)
  case atStart => exact ⟨0, Nat.zero_le _, rfl, Lib.hid (by simp), Lib.hid (Up.refl _)⟩
  case round =>
    obtain ⟨k, hk, rfl, hA, hU⟩ := hrel
    by_cases hlt : k < n
    · obtain ⟨y, hy⟩ : ∃ y, L[k]? = some y := ⟨_, List.getElem?_eq_getElem (by rw [← HN.out]; exact hlt)⟩
      obtain ⟨g, rfl⟩ := row_at H.out (by omega)
      have hrow := own_up H.out hU.out
      have hc : ∀ (j : Nat) (v : Value), (itc y)[j]? = some v → wr.cell? ⟨g, k * 11 + j, none⟩ = some v := fun j v hj => row_cell hrow (rowG_at itc 11 itc_len hy hj)
      have k0 := hc 0 _ rfl
      have k1 := hc 1 _ rfl
      have k2 := hc 2 _ rfl
      have k3 := hc 3 _ rfl
      have k4 := hc 4 _ rfl
      have k5 := hc 5 _ rfl
      have k6 := hc 6 _ rfl
      have k7 := hc 7 _ rfl
      have k8 := hc 8 _ rfl
      have k9 := hc 9 _ rfl
      have k10 := hc 10 _ rfl
      rw [Nat.add_zero] at k0
      have HY := Lib.hid hy
      clear hc hrow hy
      go_wp2_with fail
      refine (mkd_any y wr).mono ?_
      rintro e w1 ⟨rfl, hu⟩
      have HU1 := Lib.hid (hU.out.trans hu.out)
      have hF := fi_take (l := L.map (·.x)) (k := k) (x := y.x) (by rw [List.getElem?_map, HY.out]; rfl) hA.out
      have HF := Lib.hid hF
      clear hu k0 k1 k2 k3 k4 k5 k6 k7 k8 k9 k10 hF
      cases hb : y.x.mkd
      · have HB := Lib.hid hb
        clear hb
        go_wp2_with fail
        go_roundw
        case rel => exact ⟨k + 1, by omega, by go_num, Lib.hid (HF.out.2 HB.out), HU1⟩
        case measure => simp [intOf]; omega
      · have HB := Lib.hid hb
        clear hb
        go_wp2_with fail
        go_ret
        exact ⟨by rw [HF.out.1 HB.out]; rfl, HU1⟩
    · obtain rfl : k = n := by omega
      go_wp2_with fail
      go_ret
      refine ⟨?_, hU⟩
      rw [List.findIdx?_eq_none_iff.2 (fun y hy => hA.out y (by rw [List.take_of_length_le (by rw [List.length_map, HN.out]; exact Nat.le_refl _)]; exact hy))]
      rfl
end Go.Proofs.Ytdlehchofmdjbaa
