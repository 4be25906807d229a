import Derived.Test.YtahpejcejbgcpaaChecked
import Derived.Test.YtahpejcejbgcpaaSteady
import Derived.WalkKit
import Derived.Lib.Hide
import Derived.Deep.QuietTactic
import Derived.BigQuiet
import Derived.Deep.DeepCutAuto
namespace Go.Proofs.Ytahpejcejbgcpaa
open Go Go.RowKit
set_option linter.unusedVariables false
set_option linter.unusedSimpArgs false
/-! What is known of a path; which may be. -/
/-- A way. -/
structure Wy where
  s : Int
  v : Int
  r : Int
  e : Int
  c : Int
  t : Int
  a : Int
abbrev Wy.cs (x : Wy) : Array Value := #[.int .i64 x.s, .int .i64 x.v, .int .i64 x.r, .int .i64 x.e, .int .i64 x.c, .int .i64 x.t, .int .i64 x.a]
def wth (n lo hi : Int) : Bool := decide (lo ≤ n ∧ n ≤ hi)
theorem wth_t {n lo hi : Int} (h : lo ≤ n ∧ n ≤ hi) : wth n lo hi = true := decide_eq_true h
theorem wth_f {n lo hi : Int} (h : ¬ (lo ≤ n ∧ n ≤ hi)) : wth n lo hi = false := decide_eq_false h
/-- It may be. -/
def Wy.Ok (x : Wy) : Prop := (0 ≤ x.s ∧ x.s ≤ 1099511627776) ∧ (0 ≤ x.v ∧ x.v ≤ 1099511627776) ∧ (4 ≤ x.r ∧ x.r ≤ 64) ∧ (0 ≤ x.e ∧ x.e ≤ 1048576) ∧ (512 ≤ x.c ∧ x.c ≤ 65536) ∧ (1024 ≤ x.t ∧ x.t ≤ 65536) ∧ (0 ≤ x.a ∧ x.a ≤ 65536)
instance (x : Wy) : Decidable x.Ok := by unfold Wy.Ok; infer_instance
def Wy.okB (x : Wy) : Bool := decide x.Ok

theorem within_any (n lo hi : Int) (w : World) : Calls Try.prog 25 #[.int .i64 n, .int .i64 lo, .int .i64 hi] w fun e w' => e = .returned (.bool (wth n lo hi)) ∧ w = w' := by
  by_cases h1 : lo ≤ n
  · by_cases h2 : n ≤ hi
    · rw [wth_t ⟨h1, h2⟩]
      have d1 : decide (lo ≤ n) = true := decide_eq_true h1
      have d2 : decide (n ≤ hi) = true := decide_eq_true h2
      clear h1 h2
      go_enter Try.func25, Try.ntmps25
      go_wp2_with fail
      go_ret
      exact ⟨rfl, rfl⟩
    · rw [wth_f (fun h => h2 h.2)]
      have d1 : decide (lo ≤ n) = true := decide_eq_true h1
      have d2 : decide (n ≤ hi) = false := decide_eq_false h2
      clear h1 h2
      go_enter Try.func25, Try.ntmps25
      go_wp2_with fail
      go_ret
      exact ⟨rfl, rfl⟩
  · rw [wth_f (fun h => h1 h.1)]
    have d1 : decide (lo ≤ n) = false := decide_eq_false h1
    clear h1
    go_enter Try.func25, Try.ntmps25
    go_wp2_with fail
    go_ret
    exact ⟨rfl, rfl⟩
def OkPost (x : Wy) (w : World) (e : Ending) (w' : World) : Prop := e = .returned (.bool x.okB) ∧ Up w w'
theorem okB_f {x : Wy} (h : ¬ x.Ok) : x.okB = false := decide_eq_false h
theorem okB_t {x : Wy} (h : x.Ok) : x.okB = true := decide_eq_true h
theorem okB_w (x : Wy) : x.okB = (wth x.s 0 1099511627776 && wth x.v 0 1099511627776 && wth x.r 4 64 && wth x.e 0 1048576 && wth x.c 512 65536 && wth x.t 1024 65536 && wth x.a 0 65536) := by
  unfold Wy.okB Wy.Ok wth
  rw [Bool.eq_iff_iff]
  simp only [decide_eq_true_eq, Bool.and_eq_true, and_assoc]
theorem ret_b {a b : Bool} (h : a = b) : Ending.returned (.bool a) = .returned (.bool b) := by rw [h]
end Go.Proofs.Ytahpejcejbgcpaa
namespace Go.Proofs.Ytahpejcejbgcpaa
open Go Go.RowKit
set_option linter.unusedVariables false
set_option linter.unusedSimpArgs false
theorem ret_i {k : IntKind} {a b : Int} (h : a = b) : Ending.returned (.int k a) = .returned (.int k b) := by rw [h]
/-- Half of a window, and not below two packets. -/
def thr (c : Int) : Int := max (c / 2) 1024
def dst (a b : Int) : Int := max (a - b) (b - a)
theorem thr_any (c : Int) (w : World) (h1 : 0 ≤ c) (h2 : c ≤ 65536) : Calls Try.prog 30 #[.int .i64 c] w fun e w' => e = .returned (.int .i64 (thr c)) ∧ w = w' := by
  go_enter Try.func30, Try.ntmps30
  go_wp2_with fail
  all_goals
    go_ret
    exact ⟨ret_i (by unfold thr; omega), rfl⟩
theorem dist_any (a b : Int) (w : World) (h1 : 0 ≤ a) (h2 : a ≤ 1099511627776) (h3 : 0 ≤ b) (h4 : b ≤ 1099511627776): Calls Try.prog 27 #[.int .i64 a, .int .i64 b] w fun e w' => e = .returned (.int .i64 (dst a b)) ∧ w = w' := by
  go_enter Try.func27, Try.ntmps27
  go_wp2_with fail
  all_goals
    go_ret
    exact ⟨ret_i (by unfold dst; omega), rfl⟩
theorem dst_b (a b : Int) (h1 : 0 ≤ a) (h2 : a ≤ 1099511627776) (h3 : 0 ≤ b) (h4 : b ≤ 1099511627776) : 0 ≤ dst a b ∧ dst a b ≤ 1099511627776 := by unfold dst; omega
theorem thr_b (c : Int) (h2 : c ≤ 65536) : 1024 ≤ thr c ∧ thr c ≤ 65536 := by unfold thr; omega
/-- What a closure does to the way behind the pointer. -/
def Turn (b : Nat) (y : Wy) (w : World) (e : Ending) (w' : World) : Prop := e = .returned (.tuple #[]) ∧ w'.heap[b]? = some (.cells y.cs 23 (0, 0)) ∧ Out (fun k => k = b) w w'
def lateW (x : Wy) : Wy := ⟨x.s, x.v, min (2 * x.r) 64, min (x.e + 1) 1048576, 512, thr x.c, 0⟩
def fastW (x : Wy) : Wy := ⟨x.s, x.v, x.r, x.e, thr x.c, thr x.c, 0⟩
/-- The block behind a pointer, and nothing else, has turned. -/
def Tr (b : Nat) (cs : Array Value) (w w' : World) : Prop := w'.heap[b]? = some (.cells cs 23 (0, 0)) ∧ Out (fun k => k = b) w w'
theorem Tr.refl {b : Nat} {cs : Array Value} {w : World} (h : w.heap[b]? = some (.cells cs 23 (0, 0))) : Tr b cs w w := ⟨h, rfl, rfl, rfl, Nat.le_refl _, fun _ _ _ => rfl⟩
theorem Tr.set {b : Nat} {cs : Array Value} {w w' : World} (h : Tr b cs w w') (j : Nat) (v : Value) : Tr b (cs.setIfInBounds j v) w (w'.setCell ⟨b, j, none⟩ v) :=
  ⟨setCell_at v h.1, h.2.trans (setCell_out w' b j v) (fun _ h => .inl h)⟩
theorem cs_mk {s v r e c t a : Int} {y : Wy} (h1 : s = y.s) (h2 : v = y.v) (h3 : r = y.r) (h4 : e = y.e) (h5 : c = y.c) (h6 : t = y.t) (h7 : a = y.a) : (#[.int .i64 s, .int .i64 v, .int .i64 r, .int .i64 e, .int .i64 c, .int .i64 t, .int .i64 a] : Array Value) = y.cs := by
  subst h1; subst h2; subst h3; subst h4; subst h5; subst h6; subst h7; rfl
theorem turn_mk {b : Nat} {cs : Array Value} {y : Wy} {w w' : World} (h : Tr b cs w w') (e : cs = y.cs) : Turn b y w (.returned (.tuple #[])) w' := ⟨rfl, e ▸ h.1, h.2⟩
def measW (x : Wy) (n : Int) : Wy :=
  if x.s = 0 ∧ x.v = 0 then ⟨n, n / 2, min (max (n + 4 * (n / 2)) 4) 64, 0, x.c, x.t, x.a⟩
  else ⟨(7 * x.s + n) / 8, (3 * x.v + dst x.s n) / 4, min (max ((7 * x.s + n) / 8 + 4 * ((3 * x.v + dst x.s n) / 4)) 4) 64, 0, x.c, x.t, x.a⟩
def growW (x : Wy) (n : Int) : Wy :=
  if x.c ≤ x.t then ⟨x.s, x.v, x.r, x.e, min (x.c + min n 512) 65536, x.t, x.a⟩
  else if x.c ≤ min (x.a + n) 65536 then ⟨x.s, x.v, x.r, x.e, min (x.c + 512) 65536, x.t, 0⟩
  else ⟨x.s, x.v, x.r, x.e, x.c, x.t, min (x.a + n) 65536⟩
def ackW (x : Wy) (n : Int) (full : Bool) : Wy := if full = true ∧ 0 < n then growW x n else x
end Go.Proofs.Ytahpejcejbgcpaa
