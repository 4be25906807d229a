namespace Go.Proofs.Ytfbjhialjepodaa
set_option linter.unusedVariables false
namespace Nt
/-- A frame on the way. -/
structure Fr where
  fh : Int
  fp : Int
  th : Int
  tp : Int
  bytes : List Int
  tn : Bool
instance : Inhabited Fr := ⟨⟨0, 0, 0, 0, [], false⟩⟩
/-- A net: its hosts, what is on the way, which paths are cut. -/
structure St where
  hosts : Int
  way : List Fr
  down : Int → Int → Int → Bool
def okA (st : St) (a : Int × Int) : Prop := (0 ≤ a.1 ∧ a.1 < st.hosts) ∧ 0 ≤ a.2 ∧ a.2 < 2
instance (st : St) (a : Int × Int) : Decidable (okA st a) := by unfold okA; exact inferInstance
def sendE (st : St) (f t : Int × Int) (bs : List Int) : Int := if okA st f ∧ okA st t ∧ f.1 ≠ t.1 then (if 4096 < bs.length then 4 else 0) else 1
def sendS (st : St) (f t : Int × Int) (bs : List Int) : St :=
  if sendE st f t bs = 0 ∧ st.down f.1 t.1 f.2 = false ∧ st.way.length < 1024 then { st with way := st.way ++ [⟨f.1, f.2, t.1, t.2, bs, false⟩] } else st
theorem sendS_down {st : St} {f t : Int × Int} {bs : List Int} (h : st.down f.1 t.1 f.2 = true) : sendS st f t bs = st := by
  unfold sendS
  rw [if_neg]
  rintro ⟨_, h2, _⟩
  rw [h] at h2; cases h2
theorem sendS_up {st : St} {f t : Int × Int} {bs : List Int} (he : sendE st f t bs = 0) (h : st.down f.1 t.1 f.2 = false) (hl : st.way.length < 1024) : sendS st f t bs = { st with way := st.way ++ [⟨f.1, f.2, t.1, t.2, bs, false⟩] } := by
  unfold sendS
  rw [if_pos ⟨he, h, hl⟩]
def has (st : St) (k : Int) : Prop := 0 ≤ k ∧ k < st.way.length
instance (st : St) (k : Int) : Decidable (has st k) := by unfold has; exact inferInstance
def fr (st : St) (k : Int) : Fr := st.way.getD k.toNat default
def takeS (st : St) (k : Int) : St := { st with way := st.way.eraseIdx k.toNat }
def twinE (st : St) (k : Int) : Int := if has st k then (if 1024 ≤ st.way.length then 10 else 0) else 8
def twinS (st : St) (k : Int) : St := if twinE st k = 0 then { st with way := st.way ++ [fr st k] } else st
def lastE (st : St) (k : Int) : Int := if has st k then 0 else 8
def lastS (st : St) (k : Int) : St := if has st k then { st with way := st.way.eraseIdx k.toNat ++ [fr st k] } else st
/-- Bits of a byte, turned. -/
def bx (b c : Int) : Int := ((b.toNat ^^^ c.toNat : Nat) : Int)
def turnE (st : St) (k at_ bits : Int) : Int := if has st k then (if bits ≠ 0 ∧ 0 ≤ at_ ∧ at_ < (fr st k).bytes.length then (if (fr st k).tn then 7 else 0) else 1) else 8
def turnF (f : Fr) (at_ bits : Int) : Fr := { f with bytes := f.bytes.set at_.toNat (bx (f.bytes.getD at_.toNat 0) bits), tn := true }
def turnS (st : St) (k at_ bits : Int) : St := if turnE st k at_ bits = 0 then { st with way := st.way.set k.toNat (turnF (fr st k) at_ bits) } else st
def cutE (st : St) (f t p : Int) : Int := if (0 ≤ f ∧ f < st.hosts) ∧ (0 ≤ t ∧ t < st.hosts) ∧ f ≠ t ∧ 0 ≤ p ∧ p < 2 then 0 else 1
def cutS (st : St) (f t p : Int) (d : Bool) : St := if cutE st f t p = 0 then { st with down := fun a b c => if a = f ∧ b = t ∧ c = p then d else st.down a b c } else st
/-- An empty net. -/
def new (h : Int) : St := ⟨h, [], fun _ _ _ => false⟩
end Nt
end Go.Proofs.Ytfbjhialjepodaa
