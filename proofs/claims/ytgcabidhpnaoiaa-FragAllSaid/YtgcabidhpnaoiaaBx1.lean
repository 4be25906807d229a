import Derived.Test.YtgcabidhpnaoiaaMapS
import Derived.Test.YtgcabidhpnaoiaaFgB
namespace Go.Proofs.Ytgcabidhpnaoiaa
open Go Go.RowKit Fg
set_option linter.unusedVariables false
set_option linter.unusedSimpArgs false
/-! The maps of the program's Box. -/
namespace Fg
/-- A kind: stream, number, unordered. -/
abbrev Kd := Nat × Nat × Bool
abbrev Pl := Kd × Nat
def kdV (k : Kd) : Value := .agg #[.int .u16 k.1, .int .u16 k.2.1, .bool k.2.2]
def plV (x : Pl) : Value := .agg #[.int .u16 x.1.1, .int .u16 x.1.2.1, .bool x.1.2.2, .int .u32 x.2]
def KdOk (k : Kd) : Prop := k.1 < 65536 ∧ k.2.1 < 65536
def PlOk (x : Pl) : Prop := KdOk x.1 ∧ x.2 < 4294967296
theorem laidT : laidOutB Try.prog = true := by kernel_rfl
theorem row81 : (81 : TypeId) < Try.prog.types.size := of_decide_eq_true (by kernel_rfl)
theorem row94 : (94 : TypeId) < Try.prog.types.size := of_decide_eq_true (by kernel_rfl)
theorem wide81 : (match Try.prog.underlying 81 with | some (.array _ _) | some (.struct _) => true | _ => false) = true := by kernel_rfl
theorem wide94 : (match Try.prog.underlying 94 with | some (.array _ _) | some (.struct _) => true | _ => false) = true := by kernel_rfl
theorem law81 : WideMaps.KeyLaw Try.prog 81 := deep_law_laid laidT (m := 4) (by omega) row81 (by kernel_rfl) wide81
theorem law94 : WideMaps.KeyLaw Try.prog 94 := deep_law_laid laidT (m := 4) (by omega) row94 (by kernel_rfl) wide94
theorem u16_wf {n : Nat} (h : n < 65536) : (Lit.int .u16 (n : Int)).wf = true := by
  have h1 : IntKind.u16.min = 0 := rfl
  have h2 : IntKind.u16.max = 65535 := rfl
  simp [Lit.wf, h1, h2]; omega
theorem u32_wf {n : Nat} (h : n < 4294967296) : (Lit.int .u32 (n : Int)).wf = true := by
  have h1 : IntKind.u32.min = 0 := rfl
  have h2 : IntKind.u32.max = 4294967295 := rfl
  simp [Lit.wf, h1, h2]; omega
theorem cells81 : Try.prog.cellsOf 81 = 3 := by kernel_rfl
theorem cells94 : Try.prog.cellsOf 94 = 4 := by kernel_rfl
theorem cells26 : Try.prog.cellsOf 26 = 1 := by kernel_rfl
theorem cells49 : Try.prog.cellsOf 49 = 1 := by kernel_rfl
theorem cells4 : Try.prog.cellsOf 4 = 1 := by kernel_rfl
theorem kt81 : Try.prog.keyType 81 = true := by kernel_rfl
theorem kt94 : Try.prog.keyType 94 = true := by kernel_rfl
theorem lits81 (d : Nat) {k : Kd} (h : KdOk k) : Try.prog.keyLits (d + 2) 81 [.int .u16 k.1, .int .u16 k.2.1, .bool k.2.2] = some [.int .u16 k.1, .int .u16 k.2.1, .bool k.2.2] := by
  have h1 := u16_wf h.1
  have h2 := u16_wf h.2
  simp [Program.keyLits, Try.underlying81, Try.underlying26, Try.underlying4, cells81, cells26, cells4, h1, h2]
theorem lits94 (d : Nat) {x : Pl} (h : PlOk x) : Try.prog.keyLits (d + 3) 94 [.int .u16 x.1.1, .int .u16 x.1.2.1, .bool x.1.2.2, .int .u32 x.2] = some [.int .u16 x.1.1, .int .u16 x.1.2.1, .bool x.1.2.2, .int .u32 x.2] := by
  have h1 := u32_wf h.2
  have h2 := lits81 d h.1
  unfold Program.keyLits
  simp [Try.underlying94, cells94, cells49, cells81, h2]
  simp [Program.keyLits, Try.underlying49, h1]
theorem key81 {k : Kd} (h : KdOk k) : ∃ l, keyOf Try.prog 81 (kdV k) = some l := by
  have hs : ∃ d, Try.prog.types.size + 1 = d + 3 := ⟨Try.prog.types.size - 2, by have := row94; have : (94 : Nat) < Try.prog.types.size := this; omega⟩
  obtain ⟨d, hs⟩ := hs
  have hf : (kdV k).formed Try.prog 81 = true := by simp [kdV, Value.formed, Try.underlying81, cells81]
  unfold keyOf
  have hc : (kdV k).cells.toList = [.int .u16 k.1, .int .u16 k.2.1, .bool k.2.2] := rfl
  simp only [Try.underlying81, kt81, hf, hs, hc, Bool.and_self, if_true]
  rw [lits81 (d + 1) h]
  exact ⟨_, rfl⟩
theorem key94 {x : Pl} (h : PlOk x) : ∃ l, keyOf Try.prog 94 (plV x) = some l := by
  have hs : ∃ d, Try.prog.types.size + 1 = d + 3 := ⟨Try.prog.types.size - 2, by have := row94; have : (94 : Nat) < Try.prog.types.size := this; omega⟩
  obtain ⟨d, hs⟩ := hs
  have hf : (plV x).formed Try.prog 94 = true := by simp [plV, Value.formed, Try.underlying94, cells94]
  unfold keyOf
  have hc : (plV x).cells.toList = [.int .u16 x.1.1, .int .u16 x.1.2.1, .bool x.1.2.2, .int .u32 x.2] := rfl
  simp only [Try.underlying94, kt94, hf, hs, hc, Bool.and_self, if_true]
  rw [lits94 d h]
  exact ⟨_, rfl⟩
theorem kdV_inj {a b : Kd} (h : kdV a = kdV b) : a = b := by
  obtain ⟨a1, a2, a3⟩ := a
  obtain ⟨b1, b2, b3⟩ := b
  simp [kdV] at h
  obtain ⟨h1, h2, h3⟩ := h
  have e1 : a1 = b1 := by omega
  have e2 : a2 = b2 := by omega
  rw [e1, e2, h3]
theorem plV_inj {a b : Pl} (h : plV a = plV b) : a = b := by
  obtain ⟨⟨a1, a2, a3⟩, a4⟩ := a
  obtain ⟨⟨b1, b2, b3⟩, b4⟩ := b
  simp [plV] at h
  obtain ⟨h1, h2, h3, h4⟩ := h
  have e1 : a1 = b1 := by omega
  have e2 : a2 = b2 := by omega
  have e4 : a4 = b4 := by omega
  rw [e1, e2, h3, e4]
/-- A piece as a map keeps it. -/
def pcV (x : PcB) : Value := .agg (pcc x).toArray
/-- A message that waits as a map keeps it. -/
def wtV (y : LtB) : Value := .slice y.A y.x.2.2.length y.c
theorem mkP : MapK Try.prog 94 plV pcV PlOk := ⟨law94, fun _ h => key94 h, fun _ _ h => plV_inj h⟩
theorem mkW : MapK Try.prog 81 kdV wtV KdOk := ⟨law81, fun _ h => key81 h, fun _ _ h => kdV_inj h⟩
theorem und73 : Try.prog.underlying 73 = some (.map 94 51) := by kernel_rfl
theorem und74 : Try.prog.underlying 74 = some (.map 49 78) := by kernel_rfl
theorem und75 : Try.prog.underlying 75 = some (.map 81 30) := by kernel_rfl
theorem zero51 (w : World) : (zeroValue 51).run Try.prog w = .ok (.agg #[.int .u32 0, .int .u16 0, .int .u16 0, .bool false, .bool false, .bool false, .slice none 0 0]) w := by kernel_rfl
theorem zero30 (w : World) : (zeroValue 30).run Try.prog w = .ok (.slice none 0 0) w := by kernel_rfl
theorem zero78 (w : World) : (zeroValue 78).run Try.prog w = .ok (.agg #[]) w := by kernel_rfl
/-- What the pieces' map holds, of a list. -/
def plE (x : PcB) : Pl × PcB := (((x.p.st, x.p.sq, x.p.un), x.p.tsn), x)
def wtE (y : LtB) : Kd × LtB := ((y.x.1, y.x.2.1, false), y)
def tnE (x : PcB) : Int := x.p.tsn
end Fg
end Go.Proofs.Ytgcabidhpnaoiaa
