import Derived.Test.YtgcabidhpnaoiaaFgM3
import Derived.Test.YtgcabidhpnaoiaaFgB
namespace Go.Proofs.Ytgcabidhpnaoiaa
open Go Go.RowKit Fg
set_option linter.unusedVariables false
set_option linter.unusedSimpArgs false
/-! The reference's Put: what it refuses. -/
def Refused (r : Int) (w : World) (e : Ending) (w' : World) : Prop := e = .returned (.tuple #[.slice none 0 0, .int .i64 r]) ∧ Hid (Up w w')
set_option maxRecDepth 100000 in
set_option maxHeartbeats 2000000 in
theorem rput_bad (b t st sq n c : Nat) (bg en un : Bool) (A : Option Addr) (w : World) (h : ¬ (0 < n ∧ n ≤ 256 ∧ st < 8)) (hn : n ≤ 140737488351232) :
    Calls Try.prog 17 #[.pointer (some ⟨b, 0, none⟩), .agg #[.int .u32 (t : Int), .int .u16 (st : Int), .int .u16 (sq : Int), .bool bg, .bool en, .bool un, .slice A n c]] w (Refused 2 w) := by
  have HU := Lib.hid (up_alloc w (.cells #[.int .u32 (t : Int), .int .u16 (st : Int), .int .u16 (sq : Int), .bool bg, .bool en, .bool un, .slice A n c] 51))
  have HN := Lib.hid (new_at w (.cells #[.int .u32 (t : Int), .int .u16 (st : Int), .int .u16 (sq : Int), .bool bg, .bool en, .bool un, .slice A n c] 51))
  by_cases h0 : n = 0
  · subst h0
    go_enter Try.func17, Try.ntmps17
    go_wp2_with fail
    go_ret2
    exact ⟨rfl, HU⟩
  have t0 : ((n : Int) == 0) = false := by rw [beq_eq_false_iff_ne]; omega
  by_cases h1 : 256 < n
  · have t1 : decide ((256 : Int) < (n : Int)) = true := by simp; omega
    clear h h0
    go_enter Try.func17, Try.ntmps17
    go_wp2_with fail
    go_ret2
    exact ⟨rfl, HU⟩
  have t1 : decide ((256 : Int) < (n : Int)) = false := by simp; omega
  have h2 : 8 ≤ st := by omega
  have t2 : decide ((8 : Int) ≤ (st : Int)) = true := by simp; omega
  clear h h0 h1 h2
  go_enter Try.func17, Try.ntmps17
  go_wp2_with fail
  go_ret2
  exact ⟨rfl, HU⟩
theorem ix_yes {l : List PcB} {t : Nat} (h : ∃ q ∈ ps l, q.tsn = t) : ∃ k, ix l t = some k := by
  cases hk : ix l t with
  | none => obtain ⟨q, hq, e⟩ := h; exact absurd e (ix_none hk q hq)
  | some k => exact ⟨k, rfl⟩
theorem ix_no {l : List PcB} {t : Nat} (h : ∀ q ∈ ps l, q.tsn ≠ t) : ix l t = none := find_all (fun y hy => by
  rw [beq_eq_false_iff_ne]
  exact h y.p (List.mem_map.2 ⟨y, hy, rfl⟩))
set_option maxRecDepth 100000 in
set_option maxHeartbeats 2000000 in
theorem rput_there (b t st sq n c : Nat) (bg en un : Bool) (A H : Option Addr) (cH : Nat) (l : List PcB) (w : World) (hn0 : 0 < n) (hn1 : n ≤ 256) (hst : st < 8) (hb : l.length ≤ 512) (h0 : w.cell? ⟨b, 0, none⟩ = some (.slice H l.length cH)) (hr : w.ownsRow 0 51 7 (.slice H l.length cH) l.length (l.flatMap pcc))
    (ht : ∃ q ∈ ps l, q.tsn = t) :
    Calls Try.prog 17 #[.pointer (some ⟨b, 0, none⟩), .agg #[.int .u32 (t : Int), .int .u16 (st : Int), .int .u16 (sq : Int), .bool bg, .bool en, .bool un, .slice A n c]] w (Refused 9 w) := by
  have HU := Lib.hid (up_alloc w (.cells #[.int .u32 (t : Int), .int .u16 (st : Int), .int .u16 (sq : Int), .bool bg, .bool en, .bool un, .slice A n c] 51))
  obtain ⟨k, hk⟩ := ix_yes ht
  have HK := Lib.hid hk
  have HR := Lib.hid (own_up hr HU.out)
  have H0 := Lib.hid (cell_up h0 HU.out)
  clear hr ht h0 hk
  have t0 : ((n : Int) == 0) = false := by rw [beq_eq_false_iff_ne]; omega
  have t1 : decide ((256 : Int) < (n : Int)) = false := by simp; omega
  have t2 : decide ((8 : Int) ≤ (st : Int)) = false := by simp; omega
  go_enter Try.func17, Try.ntmps17
  go_wp2_with fail
  refine (piece_any b t H cH l _ (by omega) H0.out HR.out).mono ?_
  rintro e w2 ⟨rfl, rfl⟩
  rw [HK.out]
  unfold ixV
  have t3 : decide ((0 : Int) ≤ (k : Int)) = true := by simp
  go_wp2_with fail
  go_ret2
  exact ⟨rfl, HU⟩
set_option maxRecDepth 100000 in
set_option maxHeartbeats 2000000 in
theorem rput_full (b t st sq n c : Nat) (bg en un : Bool) (A H : Option Addr) (cH : Nat) (l : List PcB) (w : World) (hn0 : 0 < n) (hn1 : n ≤ 256) (hst : st < 8) (hb : l.length = 512) (h0 : w.cell? ⟨b, 0, none⟩ = some (.slice H l.length cH)) (hr : w.ownsRow 0 51 7 (.slice H l.length cH) l.length (l.flatMap pcc))
    (ht : ∀ q ∈ ps l, q.tsn ≠ t) :
    Calls Try.prog 17 #[.pointer (some ⟨b, 0, none⟩), .agg #[.int .u32 (t : Int), .int .u16 (st : Int), .int .u16 (sq : Int), .bool bg, .bool en, .bool un, .slice A n c]] w (Refused 10 w) := by
  have HU := Lib.hid (up_alloc w (.cells #[.int .u32 (t : Int), .int .u16 (st : Int), .int .u16 (sq : Int), .bool bg, .bool en, .bool un, .slice A n c] 51))
  have HK := Lib.hid (ix_no ht)
  have HR := Lib.hid (own_up hr HU.out)
  have H0 := Lib.hid (cell_up h0 HU.out)
  have HB := Lib.hid hb
  clear hr ht h0
  have t0 : ((n : Int) == 0) = false := by rw [beq_eq_false_iff_ne]; omega
  have t1 : decide ((256 : Int) < (n : Int)) = false := by simp; omega
  have t2 : decide ((8 : Int) ≤ (st : Int)) = false := by simp; omega
  go_enter Try.func17, Try.ntmps17
  go_wp2_with fail
  refine (piece_any b t H cH l _ (by omega) H0.out HR.out).mono ?_
  rintro e w2 ⟨rfl, rfl⟩
  rw [HK.out]
  unfold ixV
  have k0 := H0.out
  rw [HB.out] at k0
  go_wp2_with fail
  go_ret2
  exact ⟨rfl, HU⟩
end Go.Proofs.Ytgcabidhpnaoiaa
