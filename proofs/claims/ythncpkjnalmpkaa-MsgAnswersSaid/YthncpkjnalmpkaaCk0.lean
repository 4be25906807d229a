import Derived.Test.YthncpkjnalmpkaaSteady
import Derived.Test.YthncpkjnalmpkaaBytes
import Derived.Maps.AppendAt
namespace Go.Proofs.Ythncpkjnalmpkaa
open Go Go.RowKit
set_option linter.unusedVariables false
/-! Of no program. -/
/-- The block of an address. -/
def blk? (A : Option Addr) : Option Nat := A.map (·.block)
theorem row_cell {w : World} {g n c base : Nat} {e : TypeId} {s : Nat} {xs : List Value} (h : w.ownsRow base e s (.slice (some ⟨g, 0, none⟩) n c) n xs) {j : Nat} {v : Value} (hj : xs[j]? = some v) : w.cell? ⟨g, j, none⟩ = some v := by
  rcases h.2 with ⟨h1, _⟩ | ⟨g', cap, cur, hv, _, hh, _, _, hsz, ht⟩
  · cases h1
  · injection hv with hv
    injection hv with hv
    injection hv with hv
    subst hv
    refine cell_of hh ?_
    rw [← ht, List.getElem?_take] at hj
    split at hj
    · simpa using hj
    · cases hj
theorem row_lt {w : World} {A : Option Addr} {n c base : Nat} {e : TypeId} {s : Nat} {xs : List Value} (h : w.ownsRow base e s (.slice A n c) n xs) {k : Nat} (hk : blk? A = some k) : base ≤ k ∧ k < w.heap.size := World.ownsRow.lt h k (by rw [ownBlock_slice]; exact hk)
theorem row_cells {w : World} {A : Option Addr} {n c base : Nat} {e : TypeId} {s : Nat} {xs : List Value} (h : w.ownsRow base e s (.slice A n c) n xs) : Cells w A xs := fun hne => by
  rcases h.2 with ⟨h1, h2⟩ | ⟨g', cap, cur, hv, _, hh, _, _, hsz, ht⟩
  · have := h.1; subst h2; rw [Nat.zero_mul] at this; exact absurd (List.eq_nil_of_length_eq_zero this) hne
  · injection hv with hv
    subst hv
    exact ⟨g', 0, rfl, lt_of_blk hh, fun j u hu => by rw [Nat.zero_add]; exact row_cell h hu⟩
theorem Cells.blk {w w' : World} {A : Option Addr} {xs : List Value} (h : Cells w A xs) (hk : ∀ k, blk? A = some k → w'.heap[k]? = w.heap[k]?) : Cells w' A xs := fun hne => by
  obtain ⟨b, o, rfl, hlt, hc⟩ := h hne
  have e := hk b rfl
  refine ⟨b, o, rfl, ?_, fun j u hu => (World.cell?_of_block (w := w) e).trans (hc j u hu)⟩
  have h0 : w.heap[b]? = some w.heap[b] := Array.getElem?_eq_getElem hlt
  rw [h0] at e
  exact (Array.getElem?_eq_some_iff.1 e).1
theorem InB.blk {w w' : World} {A : Option Addr} {n c : Nat} {xs : List Int} (h : InB w A n c xs) (hk : ∀ k, blk? A = some k → w'.heap[k]? = w.heap[k]?) : InB w' A n c xs := ⟨h.cells.blk hk, h.byt, h.cap, h.len⟩
theorem Cells.outS' {S : Nat → Prop} {w w' : World} {A : Option Addr} {xs : List Value} (h : Cells w A xs) (ho : Out S w w') (hn : xs ≠ [] → ∀ k, blk? A = some k → ¬ S k) : Cells w' A xs := fun hne => by
  obtain ⟨b, o, rfl, hlt, hc⟩ := h hne
  exact ⟨b, o, rfl, Nat.lt_of_lt_of_le hlt ho.size, fun j u hu => (World.cell?_of_block (w := w) (ho.block b hlt (hn hne b rfl))).trans (hc j u hu)⟩
theorem ints_ne {k : IntKind} {xs : List Int} (h : ints k xs ≠ []) : xs ≠ [] := fun e => h (by rw [e]; rfl)
theorem InB.outS' {S : Nat → Prop} {w w' : World} {A : Option Addr} {n c : Nat} {xs : List Int} (h : InB w A n c xs) (ho : Out S w w') (hn : xs ≠ [] → ∀ k, blk? A = some k → ¬ S k) : InB w' A n c xs := ⟨h.cells.outS' ho (fun hne => hn (ints_ne hne)), h.byt, h.cap, h.len⟩
theorem InB.lt {w : World} {A : Option Addr} {n c : Nat} {xs : List Int} (h : InB w A n c xs) (hne : xs ≠ []) {k : Nat} (hk : blk? A = some k) : k < w.heap.size := by
  obtain ⟨b, o, rfl, hlt, _⟩ := h.cells (fun e => hne (by rw [ints, List.map_eq_nil_iff] at e; exact e))
  have e : b = k := by simpa [blk?] using hk
  omega
theorem OwnI.rebase {k : IntKind} {E : TypeId} {B B' : Nat} {w : World} {A : Option Addr} {N c : Nat} {xs : List Int} (h : OwnI k E B w A N c xs) (hb : ∀ q, blk? A = some q → B' ≤ q) : OwnI k E B' w A N c xs := by
  refine ⟨h.1, ?_⟩
  rcases h.2 with h2 | ⟨g, cap, cur, h1, h2, h3⟩
  · exact .inl h2
  · exact .inr ⟨g, cap, cur, h1, hb g (by injection h1 with h1; rw [h1]; rfl), h3⟩
theorem InB.alloc {w : World} {A : Option Addr} {n c : Nat} {xs : List Int} (h : InB w A n c xs) (o : Obj) : InB (w.alloc o) A n c xs := h.up (up_alloc w o)
/-- 'append' onto a row of the call's own, of elements of any size. -/
theorem append_G {P : Program} {w : World} {t ty e : TypeId} {z : Value} {s bytes base n c : Nat} {A : Option Addr} {xs : List Value}
    (ht : P.underlying t = some (.slice e)) (hinfo : (P.info? e).map (fun i => (i.zero, i.size, i.bytes)) = some (some z, s, bytes)) (hz : z.cells.size = s) (hs : 0 < s)
    (h : w.ownsRow base e s (.slice A n c) n xs) (B : Option Addr) (m d : Nat) (news : List Value) (hl : news.length = m * s) (hc : Cells w B news) (h1 : ∀ u ∈ news, u.oneCell' = true)
    (h63 : n + m ≤ 9223372036854775807) (hbytes : (n + m) * bytes ≤ 140737488355328) (hb : base ≤ w.heap.size) :
    ∃ A' c' w', (Builtin.append_ #[t, t] ty #[.slice A n c, .slice B m d]).run P w = .ok (.slice A' (n + m) c') w' ∧ Out (fun k => blk? A = some k) w w' ∧ w'.ownsRow base e s (.slice A' (n + m) c') (n + m) (xs ++ news) ∧ (blk? A' = blk? A ∨ blk? A' = some w.heap.size) := by
  obtain ⟨i, hi, hz0, hz1, hz2⟩ := info_parts hinfo
  cases B with
  | none =>
    have hm : news = [] := by
      cases news with
      | nil => rfl
      | cons x l =>
        obtain ⟨g, o, e, _⟩ := hc (by simp)
        cases e
    subst hm
    have hm0 : m = 0 := by
      have h2 : m * s = 0 := by rw [← hl]; rfl
      rcases Nat.mul_eq_zero.1 h2 with h3 | h3
      · exact h3
      · omega
    subst hm0
    refine ⟨A, c, w, ?_, Out.refl _ _, by simpa using h, .inl rfl⟩
    rcases h.2 with ⟨h1, h2⟩ | ⟨g, cap, cur, hv, _, _, hnc, _⟩
    · injection h1 with h1 h3 h4
      subst h1 h2 h4
      simp [Builtin.append_, run_underlying ht, sizeOf, typeInfo, hi, Builtin.lenOf, Builtin.firstCells]
    · injection hv with hv h3 h4
      subst hv h4
      simp [Builtin.append_, run_underlying ht, sizeOf, typeInfo, hi, Builtin.lenOf, Builtin.firstCells, hnc, storeCells]
  | some ad =>
    have hcells : ∀ j u, news[j]? = some u → w.cell? (ad.add j) = some u := fun j u hu => by
      obtain ⟨g, o, e, _, hh⟩ := hc (by intro h; rw [h] at hu; simp at hu)
      injection e with e
      subst e
      rw [add_flat]
      exact hh j u hu
    obtain ⟨v, w', h1, h2, h3, _, h5⟩ := run_append_own_at (P := P) w base t ty e i z s bytes ht hi hz0 hz1 hz2 hz hs (.slice A n c) n xs h ad m d news hl hcells h1 (by unfold maxLen; exact h63) hbytes hb
    obtain ⟨A', c', rfl⟩ := own_slice h2
    rw [ownBlock_slice, ownBlock_slice] at h5
    refine ⟨A', c', w', h1, ⟨h3.os, h3.tape, h3.output, h3.size, fun k hk hn => h3.block k hk (fun e => hn ?_)⟩, h2, h5⟩
    show A.map (·.block) = some k
    rw [← ownBlock_slice A n c]; exact e.symm
theorem wpList_appendG {P : Program} {w : World} {ops : Array Oper} {rest : List Oper} {o : Oper} {a : Act} {Q : Exit → Act → World → Prop} (hgd : Region.wanted o (yielded ops a.tmps) = true) (s x : Operand) (t : TypeId)
    (ho : o.op = .call { callee := .builtin .append, args := #[s, x], argTypes := #[t, t] }) (base : Nat) (e : TypeId) (z : Value) (sz bytes : Nat) (ht : P.underlying t = some (.slice e))
    (hinfo : (P.info? e).map (fun i => (i.zero, i.size, i.bytes)) = some (some z, sz, bytes)) (hz : z.cells.size = sz) (hsz : 0 < sz)
    (A0 : Option Addr) (n c0 : Nat) (xs : List Value) (hs : a.eval s = .slice A0 n c0) (hown : w.ownsRow base e sz (.slice A0 n c0) n xs)
    (B : Option Addr) (m d : Nat) (news : List Value) (hx : a.eval x = .slice B m d) (hl : news.length = m * sz) (hc : Cells w B news) (h1 : ∀ u ∈ news, u.oneCell' = true)
    (h63 : n + m ≤ 9223372036854775807) (hbytes : (n + m) * bytes ≤ 140737488355328) (hb : base ≤ w.heap.size)
    (h : ∀ A' N c' w', Hid (N = n + m) → Hid (w'.ownsRow base e sz (.slice A' N c') N (xs ++ news)) → Hid (Out (fun k => blk? A0 = some k) w w') → Hid (blk? A' = blk? A0 ∨ blk? A' = some w.heap.size) → wpList P ops Q rest (a.put o.dst (.slice A' N c')) w') : wpList P ops Q (o :: rest) a w := by
  refine wpList_wanted hgd fun K hK => ?_
  obtain ⟨A', c', w', hrun, h2, h3, h4⟩ := append_G (ty := o.type) ht hinfo hz hsz hown B m d news hl hc h1 h63 hbytes hb
  unfold Oper.wp execOp
  simp only [ho, resolve, invoke, builtin, Sem.run_bind, Sem.run_pure, Result.andThen_ok, List.map_toArray, List.map_cons, List.map_nil, hs, hx, hrun]
  exact hK _ _ (h A' (n + m) c' w' rfl h3 h2 h4)
/-- How much is missing to a multiple of 4. -/
def padN (n : Nat) : Nat := (4 - n % 4) % 4
theorem padN_lt (n : Nat) : padN n < 4 := by unfold padN; omega
/-- Bytes, and their zero bytes behind. -/
def padL (xs : List Int) : List Int := xs ++ List.replicate (padN xs.length) 0
theorem padL_length (xs : List Int) : (padL xs).length = xs.length + padN xs.length := by simp [padL]
theorem byt_padL {xs : List Int} (h : Byt xs) : Byt (padL xs) := h.append (by intro x hx; rw [List.mem_replicate] at hx; omega)
theorem num_be (n : Int) (h0 : 0 ≤ n) (s : Nat) : num 0 (be n s) = n % 256 ^ s := by
  have key : ∀ (s : Nat) (v : Int), num v (be n s) = v * 256 ^ s + n % 256 ^ s := by
    intro s
    induction s with
    | zero => intro v; simp [be, num]
    | succ s ih =>
      intro v
      simp only [be, num]
      rw [ih]
      have e1 : (2 : Int) ^ (8 * s) = 256 ^ s := by rw [Int.pow_mul]; rfl
      rw [e1]
      have hp : (0 : Int) < 256 ^ s := Int.pow_pos (by decide)
      have e2 : n % 256 ^ (s + 1) = n / 256 ^ s % 256 * 256 ^ s + n % 256 ^ s := by
        obtain ⟨k, rfl⟩ := Int.eq_ofNat_of_zero_le h0
        have := Nat.mod_mul (x := k) (a := 256 ^ s) (b := 256)
        rw [← Nat.pow_succ, Nat.add_comm, Nat.mul_comm] at this
        have h2 := congrArg (fun z : Nat => (z : Int)) this
        simp only [Int.natCast_add, Int.natCast_mul, Int.natCast_emod, Int.natCast_ediv, Int.natCast_pow] at h2
        exact h2
      rw [e2, Int.pow_succ]
      generalize (256 : Int) ^ s = p at *
      generalize n / p % 256 = q at *
      rw [Int.add_mul, Int.mul_assoc, Int.mul_comm 256 p, ← Int.mul_assoc]
      omega
  have := key s 0
  simpa using this
theorem num_be_eq {n : Int} {s : Nat} (h0 : 0 ≤ n) (h1 : n < 256 ^ s) : num 0 (be n s) = n := by rw [num_be n h0, Int.emod_eq_of_lt h0 h1]
end Go.Proofs.Ythncpkjnalmpkaa
