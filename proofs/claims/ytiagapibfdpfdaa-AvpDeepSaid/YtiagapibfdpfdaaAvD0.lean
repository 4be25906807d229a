import Derived.Test.YtiagapibfdpfdaaAvL1
import Derived.Test.YtiagapibfdpfdaaStaged
namespace Go.Proofs.Ytiagapibfdpfdaa
open Go Go.RowKit
set_option linter.unusedVariables false
set_option linter.unusedSimpArgs false
/-! slices.Contains of one; inside; items. -/
set_option maxRecDepth 100000 in
theorem index_t (g : Nat) (x : Int) (w : World) (h : w.cell? ⟨g, 0, none⟩ = some (.int .u32 x)) : Calls Try.prog 43 #[.slice (some ⟨g, 0, none⟩) 1 1, .int .u32 x] w fun e w' => e = .returned (.int .i64 0) ∧ w' = w := by
  go_enter Try.func43, Try.ntmps43
  go_wp2_with fail
  go_loop [8] (fun v => v = .int .i64 0) (fun _ => 0)
  case atStart => rfl
  case round =>
    subst hrel
    go_wp2_with fail
    go_ret
    exact ⟨rfl, rfl⟩
set_option maxRecDepth 100000 in
theorem index_f (g : Nat) (x y : Int) (w : World) (h : w.cell? ⟨g, 0, none⟩ = some (.int .u32 y)) (hxy : x ≠ y) : Calls Try.prog 43 #[.slice (some ⟨g, 0, none⟩) 1 1, .int .u32 x] w fun e w' => e = .returned (.int .i64 (-1)) ∧ w' = w := by
  have hb : (x == y) = false := by rw [beq_eq_false_iff_ne]; exact hxy
  clear hxy
  go_enter Try.func43, Try.ntmps43
  go_wp2_with fail
  go_loop [8] (fun v => v = .int .i64 0 ∨ v = .int .i64 1) (fun v => 1 - (intOf v).toNat)
  case atStart => exact .inl rfl
  case round =>
    rcases hrel with rfl | rfl
    · go_wp2_with fail
      go_round
      case rel => exact .inr rfl
      case measure => simp [intOf]
    · go_wp2_with fail
      go_ret
      exact ⟨rfl, rfl⟩
theorem contains_t (g : Nat) (x : Int) (w : World) (h : w.cell? ⟨g, 0, none⟩ = some (.int .u32 x)) : Calls Try.prog 41 #[.slice (some ⟨g, 0, none⟩) 1 1, .int .u32 x] w fun e w' => e = .returned (.bool true) ∧ w' = w := by
  have H := Lib.hid (index_t g x w h)
  clear h
  go_enter Try.func41, Try.ntmps41
  go_wp2_with fail
  refine H.out.mono ?_
  rintro e w' ⟨rfl, rfl⟩
  go_wp2_with fail
  go_ret
  exact ⟨rfl, rfl⟩
theorem contains_f (g : Nat) (x y : Int) (w : World) (h : w.cell? ⟨g, 0, none⟩ = some (.int .u32 y)) (hxy : x ≠ y) : Calls Try.prog 41 #[.slice (some ⟨g, 0, none⟩) 1 1, .int .u32 x] w fun e w' => e = .returned (.bool false) ∧ w' = w := by
  have H := Lib.hid (index_f g x y w h hxy)
  clear h hxy
  go_enter Try.func41, Try.ntmps41
  go_wp2_with fail
  refine H.out.mono ?_
  rintro e w' ⟨rfl, rfl⟩
  go_wp2_with fail
  go_ret
  exact ⟨rfl, rfl⟩
theorem gl_base {B0 B1 : Nat} {w : World} {A : Option Addr} {n c : Nat} {out : List AvB} (h : GL B1 w A n c out) (hb : B0 ≤ B1) : GL B0 w A n c out :=
  ⟨⟨h.row.1, h.row.2.imp id fun ⟨g, cap, cur, h1, h2, h3⟩ => ⟨g, cap, cur, h1, Nat.le_trans hb h2, h3⟩⟩, h.len, fun x hx => ⟨⟨(h.av x hx).1.own.base' hb, (h.av x hx).1.ok, (h.av x hx).1.n⟩, (h.av x hx).2⟩⟩
/-- inside, of a group whose bytes are attributes. -/
def InsPost (L : List Av.Avp) (w : World) (e : Ending) (w' : World) : Prop := ∃ l A n c, e = .returned (.slice A n c) ∧ Hid (l.map AvB.pure = L) ∧ Hid (GL w.heap.size w' A n c l) ∧ Hid (Up w w')
set_option maxRecDepth 100000 in
set_option maxHeartbeats 1000000 in
theorem inside_ok (x : AvB) (L : List Av.Avp) (w : World) (hx : AvIn w x) (hL : GetRes x.bs (L, 0, 0)) : Calls Try.prog 42 #[avV x] w (InsPost L w) := by
  obtain ⟨c, v, m, p, A, n, k, bs⟩ := x
  have HX := Lib.hid hx
  have HL := Lib.hid hL
  have hn : n ≤ 140737488351232 := hx.n
  have HU := Lib.hid (up_alloc w (.cells #[.int .u32 c, .int .u32 v, .bool m, .bool p, .slice A n k] 38))
  have HC := Lib.hid (new_at w (.cells #[.int .u32 c, .int .u32 v, .bool m, .bool p, .slice A n k] 38))
  clear hx hL
  unfold avV
  go_enter Try.func42, Try.ntmps42
  go_upto_region 1 with (fail)
  generalize w.alloc (.cells #[.int .u32 c, .int .u32 v, .bool m, .bool p, .slice A n k] 38) = wa at HC HU ⊢
  have c4 := cell_of HC.out (j := 4) rfl
  go_wp2_with fail
  refine (get_any' A n k bs wa (HX.out.inb.up HU.out) (by omega)).mono ?_
  rintro e w2 ⟨l2, p2, k2, A2, n2, c2, rfl, hr2, hL2, hn2, hu2⟩
  have he := getRes_inj hr2.out HL.out
  injection he with he1 he2
  injection he2 with he2 he3
  subst he3
  have HE := Lib.hid he1
  clear hr2 he1 he2
  have U2 := Lib.hid (Up.trans HU.out hu2.out)
  go_wp2_with fail
  go_ret
  exact ⟨l2, A2, n2, c2, rfl, HE, Lib.hid (gl_base hL2.out HU.out.size), U2⟩
end Go.Proofs.Ytiagapibfdpfdaa
