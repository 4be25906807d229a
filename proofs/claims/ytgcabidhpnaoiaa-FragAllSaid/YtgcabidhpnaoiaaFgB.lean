import Derived.Test.YtgcabidhpnaoiaaFgM
import Derived.Test.YtgcabidhpnaoiaaCk0
import Derived.Test.YtgcabidhpnaoiaaStaged
import Derived.Test.YtgcabidhpnaoiaaChecked
import Derived.Test.YtgcabidhpnaoiaaBytes
import Derived.BigQuiet
import Derived.Deep.DeepCutAuto
import Derived.Lib.Bytes
namespace Go.Proofs.Ytgcabidhpnaoiaa
open Go Go.RowKit
set_option linter.unusedVariables false
/-! Rows of structs, of any kind; the reference's box. -/
section
variable {α : Type} (f : α → List Value) (k : Nat) (hk : ∀ x, (f x).length = k)
include hk
theorem rowG_length (l : List α) : (l.flatMap f).length = l.length * k := by
  induction l with
  | nil => simp
  | cons x l ih => simp only [List.flatMap_cons, List.length_append, List.length_cons, ih, hk]; rw [Nat.add_mul]; omega
theorem rowG_at {l : List α} {i : Nat} {x : α} (h : l[i]? = some x) {j : Nat} {v : Value} (hj : (f x)[j]? = some v) : (l.flatMap f)[i * k + j]? = some v := by
  induction l generalizing i with
  | nil => simp at h
  | cons y l ih =>
    have hl := hk y
    cases i with
    | zero =>
      simp at h
      subst h
      simp only [List.flatMap_cons, Nat.zero_mul, Nat.zero_add]
      have : j < (f y).length := (List.getElem?_eq_some_iff.1 hj).1
      rw [List.getElem?_append_left this]; exact hj
    | succ i =>
      have h2 : l[i]? = some x := by simpa using h
      simp only [List.flatMap_cons]
      have e0 : (i + 1) * k + j = k + (i * k + j) := by rw [Nat.add_mul]; omega
      rw [List.getElem?_append_right (by rw [hl, e0]; omega), hl, e0, Nat.add_sub_cancel_left]
      exact ih h2
end
namespace Fg
/-- A piece, and where its bytes lie. -/
structure PcB where
  p : Pc
  A : Option Addr
  c : Nat
def pcc (x : PcB) : List Value := [.int .u32 x.p.tsn, .int .u16 x.p.st, .int .u16 x.p.sq, .bool x.p.bg, .bool x.p.en, .bool x.p.un, .slice x.A x.p.bs.length x.c]
/-- A message that waits, and where its bytes lie. -/
structure LtB where
  x : Lt
  A : Option Addr
  c : Nat
def ltc (y : LtB) : List Value := [.int .u16 y.x.1, .int .u16 y.x.2.1, .slice y.A y.x.2.2.length y.c]
theorem pcc_len (x : PcB) : (pcc x).length = 7 := rfl
theorem ltc_len (x : LtB) : (ltc x).length = 3 := rfl
def nxc (nx : Nat → Nat) : List Value := (List.range 8).map fun j => .int .u16 (nx j)
def rbBlk (H : Option Addr) (n c : Nat) (W : Option Addr) (m d : Nat) (nx : Nat → Nat) : Array Value := #[.slice H n c, .slice W m d, .int .u16 (nx 0), .int .u16 (nx 1), .int .u16 (nx 2), .int .u16 (nx 3), .int .u16 (nx 4), .int .u16 (nx 5), .int .u16 (nx 6), .int .u16 (nx 7)]
/-- A box of the reference at block b. -/
structure RB (w : World) (b : Nat) (H : Option Addr) (c : Nat) (l : List PcB) (W : Option Addr) (d : Nat) (m : List LtB) (nx : Nat → Nat) : Prop where
  top : w.heap[b]? = some (.cells (rbBlk H l.length c W m.length d nx) 48 (0, 0))
  row : w.ownsRow 0 51 7 (.slice H l.length c) l.length (l.flatMap pcc)
  rowW : w.ownsRow 0 90 3 (.slice W m.length d) m.length (m.flatMap ltc)
  by_ : ∀ x ∈ l, OwnI .u8 5 0 w x.A x.p.bs.length x.c x.p.bs ∧ Byt x.p.bs
  byW : ∀ x ∈ m, OwnI .u8 5 0 w x.A x.x.2.2.length x.c x.x.2.2 ∧ Byt x.x.2.2
  bd : ∀ x ∈ l, x.p.tsn < 4294967296 ∧ x.p.st < 65536 ∧ x.p.sq < 65536
end Fg
end Go.Proofs.Ytgcabidhpnaoiaa
namespace Go.Proofs.Ytgcabidhpnaoiaa
open Go Go.RowKit
set_option linter.unusedVariables false
/-! What Ck31 gives in the real seat (practice). -/
theorem conv_up {A : Option Addr} {n c : Nat} {xs : List Int} {w w' : World} (h : InB w A n c xs) (hu : Up w w') : (convert 30 9 (.slice A n c)).run Try.prog w' = .ok (.string (strOfNums xs)) w' := conv_I (P := Try.prog) Try.underlying30 Try.underlying5 Try.underlying9 (h.up hu).isI
theorem map_u8 : ∀ {xs ys : List Int}, Byt xs → Byt ys → xs.map (fun n => UInt8.ofNat n.toNat) = ys.map (fun n => UInt8.ofNat n.toNat) → xs = ys
  | [], [], _, _, _ => rfl
  | [], _ :: _, _, _, h => by simp at h
  | _ :: _, [], _, _, h => by simp at h
  | x :: xs, y :: ys, hx, hy, h => by
    simp only [List.map_cons, List.cons.injEq] at h
    have h1 := hx x (by simp)
    have h2 := hy y (by simp)
    have h3 := congrArg UInt8.toNat h.1
    simp only [UInt8.toNat_ofNat'] at h3
    have h4 : x = y := by omega
    rw [h4, map_u8 (fun z hz => hx z (by simp [hz])) (fun z hz => hy z (by simp [hz])) h.2]
theorem str_eq {xs ys : List Int} (hx : Byt xs) (hy : Byt ys) : ((strOfNums xs).toList == (strOfNums ys).toList) = decide (xs = ys) := by
  by_cases h : xs = ys
  · subst h; simp
  · rw [decide_eq_false h, beq_eq_false_iff_ne]
    intro e
    rw [Lib.strOfNums_toList, Lib.strOfNums_toList] at e
    exact h (map_u8 hx hy e)
def RetB (b : Bool) (w : World) (e : Ending) (w' : World) : Prop := e = .returned (.bool b) ∧ Hid (Up w w')
end Go.Proofs.Ytgcabidhpnaoiaa
