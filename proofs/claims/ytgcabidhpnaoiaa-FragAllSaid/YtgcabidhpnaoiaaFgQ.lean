import Derived.Test.YtgcabidhpnaoiaaFgD
namespace Go.Proofs.Ytgcabidhpnaoiaa
set_option linter.unusedVariables false
/-! FragAll: how often a message is told, and how often it is in the list. -/
namespace Fg
/-- How many of these messages say what message i says. -/
def cntT (L : Lay) (i : Nat) (l : List Nat) : Nat := l.countP (fun j => decide (tell L j = tell L i))
theorem cntT_take {L : Lay} {i : Nat} {js : List Nat} {k j : Nat} (h : js[k]? = some j) : cntT L i (js.take (k + 1)) = cntT L i (js.take k) + if tell L j = tell L i then 1 else 0 := by
  unfold cntT
  rw [List.take_add_one, h, List.countP_append]
  by_cases e : tell L j = tell L i <;> simp [e]
theorem cntT_range {L : Lay} {i k : Nat} : cntT L i (List.range (k + 1)) = cntT L i (List.range k) + if tell L k = tell L i then 1 else 0 := by
  unfold cntT
  rw [List.range_succ, List.countP_append]
  by_cases e : tell L k = tell L i <;> simp [e]
theorem cntT_perm {L : Lay} {i : Nat} {a b : List Nat} (h : a.Perm b) : cntT L i a = cntT L i b := h.countP_eq _
theorem cntT_le (L : Lay) (i : Nat) (l : List Nat) : cntT L i l ≤ l.length := List.countP_le_length
end Fg
end Go.Proofs.Ytgcabidhpnaoiaa
