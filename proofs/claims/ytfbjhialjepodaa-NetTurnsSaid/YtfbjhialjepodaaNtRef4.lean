import Derived.Test.YtfbjhialjepodaaNtRef3
import Derived.Maps.AppendAt
namespace Go.Proofs.Ytfbjhialjepodaa
open Go Go.RowKit
set_option linter.unusedVariables false
theorem info46 : (Try.prog.info? 46).map (fun i => (i.zero, i.size, i.bytes)) = some (some (.agg #[.int .i64 0, .int .i64 0, .int .i64 0, .int .i64 0, .slice none 0 0, .bool false]), 6, 64) := by kernel_rfl
theorem frc_one (l : List FrB) : ∀ u ∈ rowc l, u.oneCell' = true := by
  intro u hu
  simp only [rowc, List.mem_flatMap, frc, List.mem_cons, List.mem_nil_iff, or_false] at hu
  obtain ⟨x, _, hu⟩ := hu
  rcases hu with rfl | rfl | rfl | rfl | rfl | rfl <;> rfl
/-- 'append' of frames onto a row of the call's own. -/
theorem append_F {w : World} {A : Option Addr} {n c : Nat} {xs : List Value} {ty base : Nat} (h : w.ownsRow base 46 6 (.slice A n c) n xs) (B : Option Addr) (m d : Nat) (l : List FrB) (hl : l.length = m)
    (hc : ∀ j u, (rowc l)[j]? = some u → ∃ g o, B = some ⟨g, o, none⟩ ∧ w.cell? ⟨g, o + j, none⟩ = some u) (hn : n + m ≤ 5000) (hb : base ≤ w.heap.size) :
    ∃ v w', (Builtin.append_ #[29, 29] ty #[.slice A n c, .slice B m d]).run Try.prog w = .ok v w' ∧ Out (fun k => A.map (·.block) = some k) w w' ∧ w'.ownsRow base 46 6 v (n + m) (xs ++ rowc l) ∧ (v.ownBlock = A.map (·.block) ∨ v.ownBlock = some w.heap.size) := by
  obtain ⟨i, hi, hz0, hz1, hz2⟩ := info_parts info46
  cases B with
  | none =>
    have hm : l = [] := by
      cases l with
      | nil => rfl
      | cons x l =>
        obtain ⟨g, o, e, _⟩ := hc 0 _ (by simp [rowc, frc]; rfl)
        cases e
    subst hm
    simp at hl
    subst hl
    refine ⟨.slice A n c, w, ?_, Out.refl _ _, by simpa [rowc] using h, .inl (by rw [ownBlock_slice])⟩
    rcases h.2 with ⟨h1, h2⟩ | ⟨g, cap, cur, hv, _, _, hnc, _⟩
    · injection h1 with h1 h3 h4
      subst h1 h2 h4
      simp [Builtin.append_, run_underlying Try.underlying29, sizeOf, typeInfo, hi, Builtin.lenOf, Builtin.firstCells]
    · injection hv with hv h3 h4
      subst hv h4
      simp [Builtin.append_, run_underlying Try.underlying29, sizeOf, typeInfo, hi, Builtin.lenOf, Builtin.firstCells, hnc, storeCells]
  | some ad =>
    have hcells : ∀ j u, (rowc l)[j]? = some u → w.cell? (ad.add j) = some u := fun j u hu => by
      obtain ⟨g, o, e, hh⟩ := hc j u hu
      injection e with e
      subst e
      rw [add_flat]
      exact hh
    obtain ⟨v, w', h1, h2, h3, _, h5⟩ := run_append_own_at (P := Try.prog) w base 29 ty 46 i _ 6 64 Try.underlying29 hi hz0 hz1 hz2 rfl (by decide) (.slice A n c) n xs h ad m d (rowc l) (by rw [rowc_length, hl]) hcells (frc_one l) (by unfold maxLen; omega) (by omega) hb
    refine ⟨v, w', h1, ⟨h3.os, h3.tape, h3.output, h3.size, fun k hk hn => h3.block k hk (fun e => hn ?_)⟩, h2, by rw [← ownBlock_slice A n c]; exact h5⟩
    rw [← ownBlock_slice A n c]; exact e.symm
theorem wpList_appendF {w : World} {ops : Array Oper} {rest : List Oper} {o : Oper} {a : Act} {Q : Exit → Act → World → Prop} (hgd : Region.wanted o (yielded ops a.tmps) = true) (s x : Operand)
    (ho : o.op = .call { callee := .builtin .append, args := #[s, x], argTypes := #[29, 29] }) (base : Nat) (A0 : Option Addr) (n c0 : Nat) (xs : List Value) (hs : a.eval s = .slice A0 n c0) (hown : w.ownsRow base 46 6 (.slice A0 n c0) n xs)
    (B : Option Addr) (m d : Nat) (l : List FrB) (hx : a.eval x = .slice B m d) (hl : l.length = m)
    (hc : ∀ j u, (rowc l)[j]? = some u → ∃ g o, B = some ⟨g, o, none⟩ ∧ w.cell? ⟨g, o + j, none⟩ = some u) (hn : n + m ≤ 5000) (hb : base ≤ w.heap.size)
    (h : ∀ A' N c' w', Hid (N = n + m) → Hid (w'.ownsRow base 46 6 (.slice A' N c') N (xs ++ rowc l)) → Hid (Out (fun k => A0.map (·.block) = some k) w w') → Hid (A'.map (·.block) = A0.map (·.block) ∨ A'.map (·.block) = some w.heap.size) → wpList Try.prog ops Q rest (a.put o.dst (.slice A' N c')) w') : wpList Try.prog ops Q (o :: rest) a w := by
  refine wpList_wanted hgd fun K hK => ?_
  obtain ⟨v, w', hrun, h2, h3, h4⟩ := append_F (ty := o.type) hown B m d l hl hc hn hb
  obtain ⟨A', c', rfl⟩ := own_slice h3
  rw [ownBlock_slice] at h4
  unfold Oper.wp execOp
  simp only [ho, resolve, invoke, builtin, Sem.run_bind, Sem.run_pure, Result.andThen_ok, List.map_toArray, List.map_cons, List.map_nil, hs, hx, hrun]
  exact hK _ _ (h A' (n + m) c' w' rfl h3 h2 h4)
end Go.Proofs.Ytfbjhialjepodaa
