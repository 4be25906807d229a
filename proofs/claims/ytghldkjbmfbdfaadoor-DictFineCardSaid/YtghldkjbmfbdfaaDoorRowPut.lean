import Derived.Test.YtghldkjbmfbdfaaDoorDc8
import Derived.Deep.MidRow
namespace Go.Proofs.YtghldkjbmfbdfaaDoor
open Go Go.RowKit
set_option linter.unusedVariables false
set_option linter.unusedSimpArgs false
/-! A whole struct stored into an own row. -/
theorem rowG_length {α : Type} (f : α → List Value) (k : Nat) (hk : ∀ x, (f x).length = k) (l : List α) : (l.flatMap f).length = l.length * k := by
  induction l with
  | nil => simp
  | cons x l ih => simp only [List.flatMap_cons, List.length_append, List.length_cons, ih, hk]; rw [Nat.add_mul]; omega
/-- Parts overwritten. -/
def setL {α : Type} (xs : List α) (o : Nat) : List α → List α
  | [] => xs
  | v :: vs => setL (xs.set o v) (o + 1) vs
theorem setL_eq {α : Type} : ∀ (vs xs : List α) (o : Nat), o + vs.length ≤ xs.length → setL xs o vs = xs.take o ++ vs ++ xs.drop (o + vs.length)
  | [], xs, o, h => by simp [setL]
  | v :: vs, xs, o, h => by
    simp only [List.length_cons] at h
    rw [setL, setL_eq vs _ _ (by rw [List.length_set]; omega)]
    rw [List.take_set, List.drop_set_of_lt (by omega)]
    have h1 : (xs.take (o + 1)).set o v = xs.take o ++ [v] := by
      rw [List.take_add_one, List.getElem?_eq_getElem (by omega)]
      rw [List.set_append_right _ _ (by simp; omega)]
      simp only [Option.toList_some, List.length_take, Nat.min_eq_left (show o ≤ xs.length by omega), Nat.sub_self, List.set_cons_zero]
    rw [h1]
    simp only [List.append_assoc, List.cons_append, List.nil_append, List.length_cons]
    congr 3
    rw [Nat.add_right_comm, Nat.add_assoc]
theorem rowG_sets {α : Type} (f : α → List Value) (k : Nat) (hk : ∀ x, (f x).length = k) (y : α) : ∀ (l : List α) (i : Nat), i < l.length → (l.flatMap f).take (i * k) ++ f y ++ (l.flatMap f).drop (i * k + k) = (l.set i y).flatMap f
  | [], i, h => by simp at h
  | z :: l, 0, h => by
    simp only [Nat.zero_mul, Nat.zero_add, List.take_zero, List.nil_append, List.flatMap_cons, List.set_cons_zero]
    rw [List.drop_append_of_le_length (by rw [hk]; exact Nat.le_refl _), List.drop_of_length_le (by rw [hk]; exact Nat.le_refl _), List.nil_append]
  | z :: l, i + 1, h => by
    simp only [List.length_cons] at h
    simp only [List.flatMap_cons, List.set_cons_succ]
    rw [← rowG_sets f k hk y l i (by omega), Nat.add_mul, Nat.one_mul]
    rw [List.take_append, List.drop_append, hk, List.take_of_length_le (by rw [hk]; omega), List.drop_of_length_le (by rw [hk]; omega)]
    rw [show i * k + k - k = i * k by omega, show i * k + k + k - k = i * k + k by omega]
    simp
theorem row_sets {base : Nat} {e : TypeId} {size n c g : Nat} : ∀ (vs xs : List Value) (o : Nat) (w : World), w.ownsRow base e size (.slice (some ⟨g, 0, none⟩) n c) n xs →
    (w.setCells g o vs).ownsRow base e size (.slice (some ⟨g, 0, none⟩) n c) n (setL xs o vs) ∧ Out (fun k => k = g) w (w.setCells g o vs)
  | [], xs, o, w, h => ⟨h, Out.refl _ _⟩
  | v :: vs, xs, o, w, h => by
    obtain ⟨h1, h2⟩ := row_sets vs (xs.set o v) (o + 1) (w.setCell ⟨g, o, none⟩ v) (World.ownsRow.stored h o v).1
    exact ⟨h1, (setCell_out w g o v).trans h2 (Sub.refl _ _)⟩
theorem row_there {base : Nat} {e : TypeId} {size n c g : Nat} {xs : List Value} {w : World} (h : w.ownsRow base e size (.slice (some ⟨g, 0, none⟩) n c) n xs) {o k : Nat} (ho : o + k ≤ xs.length) : w.there g o k := fun j hj => by
  refine ⟨?_, World.ownsRow.frozenAt h _⟩
  rw [row_cell h (List.getElem?_eq_getElem (show o + j < xs.length by omega))]
  rfl
/-- A struct stored into row l at i. -/
theorem row_put {α : Type} (f : α → List Value) (k : Nat) (hk : ∀ x, (f x).length = k) {base : Nat} {e : TypeId} {n c g : Nat} {l : List α} {w : World} (h : w.ownsRow base e k (.slice (some ⟨g, 0, none⟩) n c) n (l.flatMap f)) {i : Nat} (hi : i < l.length) (y : α) :
    w.there g (i * k) k ∧ (w.setCells g (i * k) (f y)).ownsRow base e k (.slice (some ⟨g, 0, none⟩) n c) n ((l.set i y).flatMap f) ∧ Out (fun k => k = g) w (w.setCells g (i * k) (f y)) := by
  have hl : i * k + k ≤ (l.flatMap f).length := by
    rw [rowG_length f k hk, ← Nat.succ_mul]
    exact Nat.mul_le_mul_right k hi
  obtain ⟨h1, h2⟩ := row_sets (f y) _ (i * k) w h
  refine ⟨row_there h hl, ?_, h2⟩
  rw [setL_eq _ _ _ (by rw [hk]; exact hl), hk, rowG_sets f k hk y l i hi] at h1
  exact h1
/-- 'wpList_store_mid', the frame as it was. -/
theorem store_midTo {P : Program} {ops : Array Oper} {rest : List Oper} {op : Oper} {a : Act} {w : World} {Q : Exit → Act → World → Prop} (hgd : op.guard = none) (ty : TypeId) (x y : Operand) (ho : op.op = .store ty x y) (hd : op.dst = none)
    (b o : Nat) (cs : List Value) (hx : a.eval x = .pointer (some ⟨b, o, none⟩)) (hy : a.eval y = .agg cs.toArray)
    (ht : w.there b o cs.length) (hi : (P.info? ty).map (·.size) = some cs.toArray.size) (h1 : cs.toArray.all (·.oneCell') = true)
    (h : wpList P ops Q rest a (w.setCells b o cs)) : wpList P ops Q (op :: rest) a w :=
  wpList_store_mid hgd ty x y ho b o cs.toArray hx hy (by simpa using ht) hi h1 (by rw [hd]; exact h)
end Go.Proofs.YtghldkjbmfbdfaaDoor
namespace Go.Proofs.YtghldkjbmfbdfaaDoor
open Go Go.RowKit Dc
set_option linter.unusedVariables false
set_option linter.unusedSimpArgs false
/-! Lists that are fine are fine in any order. -/
namespace Dc
def ok1 (rs : List Ru) (a : Av.Avp) : Prop := match find rs (nmA a) with
  | none => a.must = false
  | some r => r.most ≠ 0 ∧ valF r.type a.bs = 0
def few (rs : List Ru) (l : List Av.Avp) : Prop := ∀ n r, find rs n = some r → cnt n l = 0 ∨ (cnt n l : Int) ≤ r.most
theorem fault0 {rs : List Ru} {pre : List Av.Avp} {a : Av.Avp} : fault rs pre a = 0 ↔ ok1 rs a ∧ ∀ r, find rs (nmA a) = some r → (cnt (nmA a) pre : Int) + 1 ≤ r.most := by
  unfold fault ok1
  cases h : find rs (nmA a) with
  | none => cases hm : a.must <;> simp
  | some r =>
    simp only
    by_cases h0 : r.most = 0
    · rw [if_pos h0]; simp [h0]
    · rw [if_neg h0]
      by_cases h1 : r.most < (cnt (nmA a) pre : Int) + 1
      · rw [if_pos h1]
        constructor
        · intro h; cases h
        · rintro ⟨_, h2⟩; have := h2 r rfl; omega
      · rw [if_neg h1]
        constructor
        · intro h2; exact ⟨⟨h0, h2⟩, fun r' hr' => by cases hr'; omega⟩
        · rintro ⟨⟨_, h2⟩, _⟩; exact h2
theorem scan_good1 {rs : List Ru} : ∀ {l pre : List Av.Avp}, few rs pre → scan rs pre l = none → (∀ a ∈ l, ok1 rs a) ∧ few rs (pre ++ l)
  | [], pre, hp, _ => ⟨fun a ha => (by cases ha), by rw [List.append_nil]; exact hp⟩
  | a :: l, pre, hp, h => by
    by_cases h0 : fault rs pre a = 0
    · rw [scan_cons h0] at h
      obtain ⟨h1, h2⟩ := fault0.1 h0
      have hp2 : few rs (pre ++ [a]) := fun n r hr => by
        rw [cnt_snoc]
        by_cases hn : nmA a = n
        · rw [if_pos hn]
          subst hn
          have := h2 r hr
          right; omega
        · rw [if_neg hn, Nat.add_zero]; exact hp n r hr
      obtain ⟨h3, h4⟩ := scan_good1 hp2 h
      refine ⟨fun b hb => ?_, by rw [List.append_assoc] at h4; exact h4⟩
      rcases List.mem_cons.1 hb with rfl | hb
      · exact h1
      · exact h3 b hb
    · rw [scan, if_neg h0] at h; cases h
theorem cnt_app (n : Nm) (l m : List Av.Avp) : cnt n (l ++ m) = cnt n l + cnt n m := by unfold cnt; rw [List.countP_append]
theorem scan_good2 {rs : List Ru} : ∀ {l pre : List Av.Avp}, (∀ a ∈ l, ok1 rs a) → few rs (pre ++ l) → scan rs pre l = none
  | [], pre, _, _ => by simp [scan]
  | a :: l, pre, h1, h2 => by
    have h0 : fault rs pre a = 0 := fault0.2 ⟨h1 a (by simp), fun r hr => by
      have h3 := h2 (nmA a) r hr
      have h4 : cnt (nmA a) (pre ++ a :: l) = cnt (nmA a) pre + 1 + cnt (nmA a) l := by
        rw [show pre ++ a :: l = (pre ++ [a]) ++ l by simp, cnt_app, cnt_snoc, if_pos rfl]
      rw [h4] at h3
      omega⟩
    rw [scan_cons h0]
    exact scan_good2 (fun b hb => h1 b (by simp [hb])) (by rw [List.append_assoc]; exact h2)
theorem judge_fine1 {rs : List Ru} {l : List Av.Avp} (h : (judge rs l).1 = 2001) : sound rs = true ∧ (∀ a ∈ l, ok1 rs a) ∧ few rs l ∧ missing rs l = none ∧ judge rs l = (2001, [], 0) := by
  cases hs : sound rs
  · rw [judge_bad hs] at h; cases h
  · cases hc : scan rs [] l with
    | some x =>
      obtain ⟨f, a⟩ := x
      have h1 := scan_code hc
      have h2 : judge rs l = (f, [a], 0) := by unfold judge; rw [hs, hc]; rfl
      rw [h2] at h
      exact absurd h h1.1
    | none =>
      cases hm : missing rs l with
      | some r =>
        have h2 : judge rs l = (5005, [miss r], 0) := by unfold judge; rw [hs, hc, hm]; rfl
        rw [h2] at h; cases h
      | none =>
        obtain ⟨h1, h2⟩ := scan_good1 (fun n r _ => .inl rfl) hc
        exact ⟨rfl, h1, h2, rfl, by unfold judge; rw [hs, hc, hm]; rfl⟩
theorem judge_perm {rs : List Ru} {l l' : List Av.Avp} {m : Av.Avp} (h : (judge rs l).1 = 2001) (hp : l'.Perm l) (hm : m.must = false) (hf : find rs (nmA m) = none) : judge rs (l' ++ [m]) = (2001, [], 0) := by
  obtain ⟨h1, h2, h3, h4, -⟩ := judge_fine1 h
  have hc : ∀ n, find rs n ≠ none → cnt n (l' ++ [m]) = cnt n l := fun n hn => by
    rw [cnt_snoc, if_neg (fun e => hn (by rw [← e]; exact hf)), Nat.add_zero]
    exact hp.countP_eq _
  have h5 : scan rs [] (l' ++ [m]) = none := scan_good2 (fun a ha => by
    rcases List.mem_append.1 ha with ha | ha
    · exact h2 a (hp.mem_iff.1 ha)
    · rw [List.mem_singleton.1 ha]; unfold ok1; rw [hf]; exact hm) (fun n r hr => by
    rw [List.nil_append, hc n (by rw [hr]; simp)]; exact h3 n r hr)
  have h6 : missing rs (l' ++ [m]) = none := by
    unfold missing at *
    rw [List.find?_eq_none] at *
    intro r hr
    have : find rs r.nm ≠ none := fun e => by
      unfold find at e
      rw [List.find?_eq_none] at e
      exact e r hr (by simp)
    rw [hc _ this]
    exact h4 r hr
  unfold judge; rw [h1, h5, h6]; rfl
end Dc
theorem avc_len (x : AvB) : (avc x).length = 5 := rfl
theorem avc_i38 (z : AvB) : (Tryd.prog.info? 38).map (·.size) = some (avc z).toArray.size := by
  have h : (Tryd.prog.info? 38).map (·.size) = some 5 := by kernel_rfl
  rw [h]; rfl
theorem avc_one (z : AvB) : (avc z).toArray.all (·.oneCell') = true := by simp [avc, avcL, Value.oneCell']
/-- An attribute is put into the row. -/
theorem gl_put {B0 : Nat} {w : World} {g n c : Nat} {out : List AvB} (h : GL B0 w (some ⟨g, 0, none⟩) n c out) {i : Nat} (hi : i < n) {y : AvB} (hy : OwnA B0 w y) (hyg : ∀ k, blk? y.A = some k → k ≠ g) :
    w.there g (i * 5) 5 ∧ GL B0 (w.setCells g (i * 5) (avc y)) (some ⟨g, 0, none⟩) n c (out.set i y) ∧ Out (fun k => k = g) w (w.setCells g (i * 5) (avc y)) := by
  obtain ⟨h1, h2, h3⟩ := row_put avc 5 avc_len (show w.ownsRow B0 38 5 (.slice (some ⟨g, 0, none⟩) n c) n (out.flatMap avc) from h.row) (i := i) (by rw [h.len]; exact hi) y
  refine ⟨h1, ⟨h2, by rw [List.length_set]; exact h.len, fun x hx => ?_⟩, h3⟩
  rcases List.mem_or_eq_of_mem_set hx with hx2 | hx2
  · exact ⟨(h.av x hx2).1.out h3 (fun q hq e => (h.av x hx2).2 q hq (by rw [e]; rfl)), (h.av x hx2).2⟩
  · subst hx2
    exact ⟨hy.out h3 (fun q hq e => hyg q hq e), fun q hq e => hyg q hq (Option.some.inj e).symm⟩
theorem gl_blk {B0 : Nat} {w : World} {A : Option Addr} {n c : Nat} {out : List AvB} (h : GL B0 w A n c out) (h0 : 0 < n) : ∃ g, A = some ⟨g, 0, none⟩ := by
  rcases h.row.2 with ⟨h1, h2⟩ | ⟨g, cap, cur, hv, _⟩
  · omega
  · injection hv with e1 e2 e3
    exact ⟨g, e1⟩
theorem GL.outP {B0 : Nat} {T : Nat → Prop} {w w' : World} {A : Option Addr} {n c : Nat} {out : List AvB} (h : GL B0 w A n c out) (ho : Out T w w') (ht : ∀ k, T k → k < B0) : GL B0 w' A n c out :=
  gl_out h ho (fun k hk hT => by
    have h1 := ht k hT
    rcases hk with hk | ⟨x, hx, hk⟩
    · have := (h.lt hk).1; omega
    · have := (row_lt (h.av x hx).1.own hk).1; omega)
end Go.Proofs.YtghldkjbmfbdfaaDoor
namespace Go.Proofs.YtghldkjbmfbdfaaDoor
open Go Go.RowKit Dc
set_option linter.unusedVariables false
set_option linter.unusedSimpArgs false
/-! 'append' onto a slice without room, of elements of any size: nothing that was there turns. -/
theorem append_new {P : Program} {w : World} {t ty e : TypeId} {z : Value} {s bytes base : Nat} {A0 : Addr}
    (ht : P.underlying t = some (.slice e)) (hinfo : (P.info? e).map (fun i => (i.zero, i.size, i.bytes)) = some (some z, s, bytes)) (hz : z.cells.size = s) (hs : 0 < s)
    (h : w.ownsRow base e s (.slice (some A0) 0 0) 0 []) (B : Option Addr) (m d : Nat) (news : List Value) (hl : news.length = m * s) (hc : Cells w B news) (h63 : m ≤ 1000) (hbytes : m * bytes ≤ 140737488355328) (hb : base ≤ w.heap.size) :
    ∃ A' c' w', (Builtin.append_ #[t, t] ty #[.slice (some A0) 0 0, .slice B m d]).run P w = .ok (.slice A' m c') w' ∧ Up w w' ∧ w'.ownsRow base e s (.slice A' m c') m news := by
  obtain ⟨i, hi, hz0, hz1, hz2⟩ := info_parts hinfo
  rcases Nat.eq_zero_or_pos m with hm | hm
  · subst hm
    obtain rfl : news = [] := List.eq_nil_of_length_eq_zero (by rw [hl]; omega)
    refine ⟨some A0, 0, w, ?_, Up.refl w, h⟩
    cases B with
    | none => simp [Builtin.append_, run_underlying ht, sizeOf, typeInfo, hi, Builtin.lenOf, Builtin.firstCells, storeCells]
    | some b =>
      obtain ⟨v', w', h1, h2, h3, h4⟩ : ∃ v' w', (Builtin.append_ #[t, t] ty #[.slice (some A0) 0 0, .slice (some b) 0 d]).run P w = .ok v' w' ∧ v' = .slice (some A0) 0 0 ∧ w' = w ∧ True := by
        simp [Builtin.append_, run_underlying ht, sizeOf, typeInfo, hi, Builtin.lenOf, Builtin.firstCells, storeCells, loadCells, loadCellsFrom]
      rw [h1, h2, h3]
  · obtain ⟨b, off, rfl, hlt, hc⟩ := hc (by intro e; rw [e] at hl; have h2 : m * s = 0 := by rw [← hl]; rfl
                                            rcases Nat.mul_eq_zero.1 h2 with h3 | h3 <;> omega)
    have hnews : ∀ (j : Nat) (u : Value), news[j]? = some u → w.cell? ((⟨b, off, none⟩ : Addr).add j) = some u := fun j u hu => by rw [add_flat]; exact hc j u hu
    obtain ⟨v', w', h1, h2, h3⟩ := run_append_arg_grows (P := P) w t ty e i z s bytes ht hi hz0 hz1 hz2 hz hs A0 0 0 [] (by simp) (by simp) ⟨b, off, none⟩ m d news hl hnews (by omega) (by unfold maxLen; omega) (by simpa using hbytes)
    obtain ⟨A', c', rfl⟩ := own_slice h2
    rw [Nat.zero_add, List.nil_append] at h2
    rw [Nat.zero_add] at h1
    have hup : Up w w' := ⟨h3.os, h3.tape, h3.output, h3.size, fun i hi => h3.block i hi (by simp)⟩
    refine ⟨A', c', w', h1, hup, ⟨h2.1, h2.2.imp id fun ⟨g, cap, cur, h1, h2, h3⟩ => ⟨g, cap, cur, h1, Nat.le_trans hb h2, h3⟩⟩⟩
end Go.Proofs.YtghldkjbmfbdfaaDoor
