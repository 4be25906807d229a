import Derived.Test.YtgcabidhpnaoiaaFgB
import Derived.Test.YtgcabidhpnaoiaaBytes
import Derived.BigQuiet
import Derived.Deep.DeepCutAuto
import Derived.Lib.Bytes
namespace Go.Proofs.Ytgcabidhpnaoiaa
open Go Go.RowKit
set_option linter.unusedVariables false
set_option linter.unusedSimpArgs false
/-! The reference's piece and from. -/
namespace Fg
def ix (l : List PcB) (t : Nat) : Option Nat := l.findIdx? fun x => x.p.tsn == t
def ixV : Option Nat → Value
  | some k => .int .i64 (k : Int)
  | none => .int .i64 (-1)
theorem rb_cells {w : World} {b : Nat} {H : Option Addr} {c : Nat} {l : List PcB} {W : Option Addr} {d : Nat} {m : List LtB} {nx : Nat → Nat} (h : RB w b H c l W d m nx) :
    w.cell? ⟨b, 0, none⟩ = some (.slice H l.length c) ∧ w.cell? ⟨b, 1, none⟩ = some (.slice W m.length d) := ⟨cell_of h.top rfl, cell_of h.top rfl⟩
theorem row_pc {w : World} {base : Nat} {H : Option Addr} {c n : Nat} {l : List PcB} (h : w.ownsRow base 51 7 (.slice H n c) n (l.flatMap pcc)) {k : Nat} {x : PcB} (hx : l[k]? = some x) :
    ∃ g, H = some ⟨g, 0, none⟩ ∧ ∀ j v, (pcc x)[j]? = some v → w.cell? ⟨g, k * 7 + j, none⟩ = some v := by
  have hl := h.1
  rw [rowG_length pcc 7 pcc_len] at hl
  have hk : k < l.length := (List.getElem?_eq_some_iff.1 hx).1
  obtain ⟨g, rfl⟩ := row_at h (by omega)
  exact ⟨g, rfl, fun j v hv => row_cell h (rowG_at pcc 7 pcc_len hx hv)⟩
theorem row_lt_ {w : World} {base : Nat} {H : Option Addr} {c n : Nat} {l : List LtB} (h : w.ownsRow base 90 3 (.slice H n c) n (l.flatMap ltc)) {k : Nat} {x : LtB} (hx : l[k]? = some x) :
    ∃ g, H = some ⟨g, 0, none⟩ ∧ ∀ j v, (ltc x)[j]? = some v → w.cell? ⟨g, k * 3 + j, none⟩ = some v := by
  have hl := h.1
  rw [rowG_length ltc 3 ltc_len] at hl
  have hk : k < l.length := (List.getElem?_eq_some_iff.1 hx).1
  obtain ⟨g, rfl⟩ := row_at h (by omega)
  exact ⟨g, rfl, fun j v hv => row_cell h (rowG_at ltc 3 ltc_len hx hv)⟩
theorem find_take_none {l : List PcB} {t k : Nat} {x : PcB} (hx : l[k]? = some x) (h : ∀ y ∈ l.take k, (y.p.tsn == t) = false) (he : (x.p.tsn == t) = true) : ix l t = some k := by
  unfold ix
  rw [List.findIdx?_eq_some_iff_getElem]
  have hk : k < l.length := (List.getElem?_eq_some_iff.1 hx).1
  refine ⟨hk, ?_, fun j hj => ?_⟩
  · rw [(List.getElem?_eq_some_iff.1 hx).2]; exact he
  · have := h (l[j]'(by omega)) (by rw [List.mem_take_iff_getElem]; exact ⟨j, by omega, rfl⟩)
    simp [this]
theorem find_all {l : List PcB} {t : Nat} (h : ∀ y ∈ l, (y.p.tsn == t) = false) : ix l t = none := by
  unfold ix
  rw [List.findIdx?_eq_none_iff]
  exact h
theorem take_succ_all {α : Type} {l : List α} {k : Nat} {x : α} {P : α → Prop} (hx : l[k]? = some x) (h : ∀ y ∈ l.take k, P y) (he : P x) : ∀ y ∈ l.take (k + 1), P y := fun y hy => by
  rw [List.take_add_one, hx] at hy
  rcases List.mem_append.1 hy with h1 | h1
  · exact h y h1
  · simp at h1; rw [h1]; exact he
end Fg
open Fg
set_option maxRecDepth 100000 in
set_option maxHeartbeats 1000000 in
theorem piece_any (b t : Nat) (H : Option Addr) (c : Nat) (l : List PcB) (w : World) (hb : l.length ≤ 1024) (h0 : w.cell? ⟨b, 0, none⟩ = some (.slice H l.length c)) (hr : w.ownsRow 0 51 7 (.slice H l.length c) l.length (l.flatMap pcc)) :
    Calls Try.prog 29 #[.pointer (some ⟨b, 0, none⟩), .int .u32 (t : Int)] w fun e w' => e = .returned (ixV (ix l t)) ∧ w' = w := by
  have HR := Lib.hid hr
  have HL := Lib.hid (rfl : l.length = l.length)
  clear hr
  generalize hn : l.length = n at hb h0 HR ⊢
  go_enter Try.func29, Try.ntmps29
  go_wp2_with fail
  go_loopw [5] (fun i wr => ∃ (k : Nat), k ≤ n ∧ i = .int .i64 (k : Int) ∧ Hid (∀ y ∈ l.take k, (y.p.tsn == t) = false) ∧ wr = w) (fun i _ => n - (intOf i).toNat)
  case atStart => exact ⟨0, Nat.zero_le _, rfl, Lib.hid (by simp), rfl⟩
  case round =>
    obtain ⟨k, hk, rfl, hA, rfl⟩ := hrel
    by_cases hlt : k < n
    · obtain ⟨x, hx⟩ : ∃ x, l[k]? = some x := ⟨_, List.getElem?_eq_getElem (by omega)⟩
      obtain ⟨g, rfl, hc⟩ := row_pc HR.out hx
      have k0 := hc 0 _ rfl
      rw [Nat.add_zero] at k0
      clear hc
      have HX := Lib.hid hx
      clear hx
      have hkn : (k : Int) < (n : Int) := by omega
      by_cases he : x.p.tsn = t
      · have HE := Lib.hid (find_take_none HX.out hA.out (by simp [he]))
        have de : ((x.p.tsn : Int) == (t : Int)) = true := by simp [he]
        go_wp2_with fail
        go_ret
        exact ⟨by rw [HE.out]; rfl, rfl⟩
      · have HE := Lib.hid (take_succ_all HX.out hA.out (show (x.p.tsn == t) = false by simp [he]))
        have de : ((x.p.tsn : Int) == (t : Int)) = false := by rw [beq_eq_false_iff_ne]; omega
        clear he
        go_wp2_with fail
        go_roundw
        case rel => exact ⟨k + 1, by omega, by go_num, HE, trivial⟩
        case measure => simp [intOf]; omega
    · obtain rfl : k = n := by omega
      have HE := Lib.hid (find_all (t := t) (fun y hy => hA.out y (by rw [← hn, List.take_length]; exact hy)))
      go_wp2_with fail
      go_ret
      exact ⟨by rw [HE.out]; rfl, rfl⟩
end Go.Proofs.Ytgcabidhpnaoiaa
