import Derived.Test.YtccilbgbjikmpaaSteady
import Derived.Test.YtccilbgbjikmpaaBytes
import Derived.Maps.AppendAt
import Derived.Test.YtccilbgbjikmpaaChecked
import Derived.BigQuiet
import Derived.Deep.DeepCutAuto
import Derived.Test.YtccilbgbjikmpaaStaged
namespace Go.Proofs.Ytccilbgbjikmpaa
open Go Go.RowKit
set_option linter.unusedVariables false
/-! Of no program. -/
/-- The block of an address. -/
def blk? (A : Option Addr) : Option Nat := A.map (·.block)
theorem own_blk {w w' : World} {base size n : Nat} {e : TypeId} {v : Value} {xs : List Value} (h : w.ownsRow base e size v n xs) (hk : ∀ g, v.ownBlock = some g → w'.heap[g]? = w.heap[g]?) : w'.ownsRow base e size v n xs := by
  refine ⟨h.1, ?_⟩
  rcases h.2 with h2 | ⟨g, cap, cur, hv, hg, hh, r⟩
  · exact .inl h2
  · subst hv
    exact .inr ⟨g, cap, cur, rfl, hg, by rw [hk g rfl]; exact hh, r⟩
theorem row_cell {w : World} {g n c base : Nat} {e : TypeId} {s : Nat} {xs : List Value} (h : w.ownsRow base e s (.slice (some ⟨g, 0, none⟩) n c) n xs) {j : Nat} {v : Value} (hj : xs[j]? = some v) : w.cell? ⟨g, j, none⟩ = some v := by
  rcases h.2 with ⟨h1, _⟩ | ⟨g', cap, cur, hv, _, hh, _, _, hsz, ht⟩
  · cases h1
  · injection hv with hv
    injection hv with hv
    injection hv with hv
    subst hv
    refine cell_of hh ?_
    rw [← ht, List.getElem?_take] at hj
    split at hj
    · simpa using hj
    · cases hj
theorem row_at {w : World} {A : Option Addr} {n c base : Nat} {e : TypeId} {s : Nat} {xs : List Value} (h : w.ownsRow base e s (.slice A n c) n xs) (hn : 0 < n) : ∃ g, A = some ⟨g, 0, none⟩ := by
  rcases h.2 with ⟨h1, h2⟩ | ⟨g', cap, cur, hv, _⟩
  · omega
  · injection hv with hv
    exact ⟨g', hv⟩
theorem row_lt {w : World} {A : Option Addr} {n c base : Nat} {e : TypeId} {s : Nat} {xs : List Value} (h : w.ownsRow base e s (.slice A n c) n xs) {k : Nat} (hk : blk? A = some k) : base ≤ k ∧ k < w.heap.size := World.ownsRow.lt h k (by rw [ownBlock_slice]; exact hk)
theorem row_cells {w : World} {A : Option Addr} {n c base : Nat} {e : TypeId} {s : Nat} {xs : List Value} (h : w.ownsRow base e s (.slice A n c) n xs) : Cells w A xs := fun hne => by
  rcases h.2 with ⟨h1, h2⟩ | ⟨g', cap, cur, hv, _, hh, _, _, hsz, ht⟩
  · have := h.1; subst h2; rw [Nat.zero_mul] at this; exact absurd (List.eq_nil_of_length_eq_zero this) hne
  · injection hv with hv
    subst hv
    exact ⟨g', 0, rfl, lt_of_blk hh, fun j u hu => by rw [Nat.zero_add]; exact row_cell h hu⟩
theorem Cells.blk {w w' : World} {A : Option Addr} {xs : List Value} (h : Cells w A xs) (hk : ∀ k, blk? A = some k → w'.heap[k]? = w.heap[k]?) : Cells w' A xs := fun hne => by
  obtain ⟨b, o, rfl, hlt, hc⟩ := h hne
  have e := hk b rfl
  refine ⟨b, o, rfl, ?_, fun j u hu => (World.cell?_of_block (w := w) e).trans (hc j u hu)⟩
  have h0 : w.heap[b]? = some w.heap[b] := Array.getElem?_eq_getElem hlt
  rw [h0] at e
  exact (Array.getElem?_eq_some_iff.1 e).1
theorem InB.blk {w w' : World} {A : Option Addr} {n c : Nat} {xs : List Int} (h : InB w A n c xs) (hk : ∀ k, blk? A = some k → w'.heap[k]? = w.heap[k]?) : InB w' A n c xs := ⟨h.cells.blk hk, h.byt, h.cap, h.len⟩
theorem Cells.outS' {S : Nat → Prop} {w w' : World} {A : Option Addr} {xs : List Value} (h : Cells w A xs) (ho : Out S w w') (hn : xs ≠ [] → ∀ k, blk? A = some k → ¬ S k) : Cells w' A xs := fun hne => by
  obtain ⟨b, o, rfl, hlt, hc⟩ := h hne
  exact ⟨b, o, rfl, Nat.lt_of_lt_of_le hlt ho.size, fun j u hu => (World.cell?_of_block (w := w) (ho.block b hlt (hn hne b rfl))).trans (hc j u hu)⟩
theorem Cells.outS {S : Nat → Prop} {w w' : World} {A : Option Addr} {xs : List Value} (h : Cells w A xs) (ho : Out S w w') (hn : ∀ k, blk? A = some k → ¬ S k) : Cells w' A xs := h.outS' ho fun _ => hn
theorem InB.outS {S : Nat → Prop} {w w' : World} {A : Option Addr} {n c : Nat} {xs : List Int} (h : InB w A n c xs) (ho : Out S w w') (hn : ∀ k, blk? A = some k → ¬ S k) : InB w' A n c xs := ⟨h.cells.outS ho hn, h.byt, h.cap, h.len⟩
theorem ints_ne {k : IntKind} {xs : List Int} (h : ints k xs ≠ []) : xs ≠ [] := fun e => h (by rw [e]; rfl)
theorem InB.outS' {S : Nat → Prop} {w w' : World} {A : Option Addr} {n c : Nat} {xs : List Int} (h : InB w A n c xs) (ho : Out S w w') (hn : xs ≠ [] → ∀ k, blk? A = some k → ¬ S k) : InB w' A n c xs := ⟨h.cells.outS' ho (fun hne => hn (ints_ne hne)), h.byt, h.cap, h.len⟩
theorem InB.lt {w : World} {A : Option Addr} {n c : Nat} {xs : List Int} (h : InB w A n c xs) (hne : xs ≠ []) {k : Nat} (hk : blk? A = some k) : k < w.heap.size := by
  obtain ⟨b, o, rfl, hlt, _⟩ := h.cells (fun e => hne (by rw [ints, List.map_eq_nil_iff] at e; exact e))
  have e : b = k := by simpa [blk?] using hk
  omega
theorem OwnI.rebase {k : IntKind} {E : TypeId} {B B' : Nat} {w : World} {A : Option Addr} {N c : Nat} {xs : List Int} (h : OwnI k E B w A N c xs) (hb : ∀ q, blk? A = some q → B' ≤ q) : OwnI k E B' w A N c xs := by
  refine ⟨h.1, ?_⟩
  rcases h.2 with h2 | ⟨g, cap, cur, h1, h2, h3⟩
  · exact .inl h2
  · exact .inr ⟨g, cap, cur, h1, hb g (by injection h1 with h1; rw [h1]; rfl), h3⟩
theorem InB.alloc {w : World} {A : Option Addr} {n c : Nat} {xs : List Int} (h : InB w A n c xs) (o : Obj) : InB (w.alloc o) A n c xs := h.up (up_alloc w o)
/-- 'append' onto a row of the call's own, of elements of any size. -/
theorem append_G {P : Program} {w : World} {t ty e : TypeId} {z : Value} {s bytes base n c : Nat} {A : Option Addr} {xs : List Value}
    (ht : P.underlying t = some (.slice e)) (hinfo : (P.info? e).map (fun i => (i.zero, i.size, i.bytes)) = some (some z, s, bytes)) (hz : z.cells.size = s) (hs : 0 < s)
    (h : w.ownsRow base e s (.slice A n c) n xs) (B : Option Addr) (m d : Nat) (news : List Value) (hl : news.length = m * s) (hc : Cells w B news) (h1 : ∀ u ∈ news, u.oneCell' = true)
    (h63 : n + m ≤ 9223372036854775807) (hbytes : (n + m) * bytes ≤ 140737488355328) (hb : base ≤ w.heap.size) :
    ∃ A' c' w', (Builtin.append_ #[t, t] ty #[.slice A n c, .slice B m d]).run P w = .ok (.slice A' (n + m) c') w' ∧ Out (fun k => blk? A = some k) w w' ∧ w'.ownsRow base e s (.slice A' (n + m) c') (n + m) (xs ++ news) ∧ (blk? A' = blk? A ∨ blk? A' = some w.heap.size) := by
  obtain ⟨i, hi, hz0, hz1, hz2⟩ := info_parts hinfo
  cases B with
  | none =>
    have hm : news = [] := by
      cases news with
      | nil => rfl
      | cons x l =>
        obtain ⟨g, o, e, _⟩ := hc (by simp)
        cases e
    subst hm
    have hm0 : m = 0 := by
      have h2 : m * s = 0 := by rw [← hl]; rfl
      rcases Nat.mul_eq_zero.1 h2 with h3 | h3
      · exact h3
      · omega
    subst hm0
    refine ⟨A, c, w, ?_, Out.refl _ _, by simpa using h, .inl rfl⟩
    rcases h.2 with ⟨h1, h2⟩ | ⟨g, cap, cur, hv, _, _, hnc, _⟩
    · injection h1 with h1 h3 h4
      subst h1 h2 h4
      simp [Builtin.append_, run_underlying ht, sizeOf, typeInfo, hi, Builtin.lenOf, Builtin.firstCells]
    · injection hv with hv h3 h4
      subst hv h4
      simp [Builtin.append_, run_underlying ht, sizeOf, typeInfo, hi, Builtin.lenOf, Builtin.firstCells, hnc, storeCells]
  | some ad =>
    have hcells : ∀ j u, news[j]? = some u → w.cell? (ad.add j) = some u := fun j u hu => by
      obtain ⟨g, o, e, _, hh⟩ := hc (by intro h; rw [h] at hu; simp at hu)
      injection e with e
      subst e
      rw [add_flat]
      exact hh j u hu
    obtain ⟨v, w', h1, h2, h3, _, h5⟩ := run_append_own_at (P := P) w base t ty e i z s bytes ht hi hz0 hz1 hz2 hz hs (.slice A n c) n xs h ad m d news hl hcells h1 (by unfold maxLen; exact h63) hbytes hb
    obtain ⟨A', c', rfl⟩ := own_slice h2
    rw [ownBlock_slice, ownBlock_slice] at h5
    refine ⟨A', c', w', h1, ⟨h3.os, h3.tape, h3.output, h3.size, fun k hk hn => h3.block k hk (fun e => hn ?_)⟩, h2, h5⟩
    show A.map (·.block) = some k
    rw [← ownBlock_slice A n c]; exact e.symm
theorem wpList_appendG {P : Program} {w : World} {ops : Array Oper} {rest : List Oper} {o : Oper} {a : Act} {Q : Exit → Act → World → Prop} (hgd : Region.wanted o (yielded ops a.tmps) = true) (s x : Operand) (t : TypeId)
    (ho : o.op = .call { callee := .builtin .append, args := #[s, x], argTypes := #[t, t] }) (base : Nat) (e : TypeId) (z : Value) (sz bytes : Nat) (ht : P.underlying t = some (.slice e))
    (hinfo : (P.info? e).map (fun i => (i.zero, i.size, i.bytes)) = some (some z, sz, bytes)) (hz : z.cells.size = sz) (hsz : 0 < sz)
    (A0 : Option Addr) (n c0 : Nat) (xs : List Value) (hs : a.eval s = .slice A0 n c0) (hown : w.ownsRow base e sz (.slice A0 n c0) n xs)
    (B : Option Addr) (m d : Nat) (news : List Value) (hx : a.eval x = .slice B m d) (hl : news.length = m * sz) (hc : Cells w B news) (h1 : ∀ u ∈ news, u.oneCell' = true)
    (h63 : n + m ≤ 9223372036854775807) (hbytes : (n + m) * bytes ≤ 140737488355328) (hb : base ≤ w.heap.size)
    (h : ∀ A' N c' w', Hid (N = n + m) → Hid (w'.ownsRow base e sz (.slice A' N c') N (xs ++ news)) → Hid (Out (fun k => blk? A0 = some k) w w') → Hid (blk? A' = blk? A0 ∨ blk? A' = some w.heap.size) → wpList P ops Q rest (a.put o.dst (.slice A' N c')) w') : wpList P ops Q (o :: rest) a w := by
  refine wpList_wanted hgd fun K hK => ?_
  obtain ⟨A', c', w', hrun, h2, h3, h4⟩ := append_G (ty := o.type) ht hinfo hz hsz hown B m d news hl hc h1 h63 hbytes hb
  unfold Oper.wp execOp
  simp only [ho, resolve, invoke, builtin, Sem.run_bind, Sem.run_pure, Result.andThen_ok, List.map_toArray, List.map_cons, List.map_nil, hs, hx, hrun]
  exact hK _ _ (h A' (n + m) c' w' rfl h3 h2 h4)
/-- How much is missing to a multiple of 4. -/
def padN (n : Nat) : Nat := (4 - n % 4) % 4
theorem padN_lt (n : Nat) : padN n < 4 := by unfold padN; omega
/-- Bytes, and their zero bytes behind. -/
def padL (xs : List Int) : List Int := xs ++ List.replicate (padN xs.length) 0
theorem padL_length (xs : List Int) : (padL xs).length = xs.length + padN xs.length := by simp [padL]
theorem byt_padL {xs : List Int} (h : Byt xs) : Byt (padL xs) := h.append (by intro x hx; rw [List.mem_replicate] at hx; omega)
theorem num_be (n : Int) (h0 : 0 ≤ n) (s : Nat) : num 0 (be n s) = n % 256 ^ s := by
  have key : ∀ (s : Nat) (v : Int), num v (be n s) = v * 256 ^ s + n % 256 ^ s := by
    intro s
    induction s with
    | zero => intro v; simp [be, num]
    | succ s ih =>
      intro v
      simp only [be, num]
      rw [ih]
      have e1 : (2 : Int) ^ (8 * s) = 256 ^ s := by rw [Int.pow_mul]; rfl
      rw [e1]
      have hp : (0 : Int) < 256 ^ s := Int.pow_pos (by decide)
      have e2 : n % 256 ^ (s + 1) = n / 256 ^ s % 256 * 256 ^ s + n % 256 ^ s := by
        obtain ⟨k, rfl⟩ := Int.eq_ofNat_of_zero_le h0
        have := Nat.mod_mul (x := k) (a := 256 ^ s) (b := 256)
        rw [← Nat.pow_succ, Nat.add_comm, Nat.mul_comm] at this
        have h2 := congrArg (fun z : Nat => (z : Int)) this
        simp only [Int.natCast_add, Int.natCast_mul, Int.natCast_emod, Int.natCast_ediv, Int.natCast_pow] at h2
        exact h2
      rw [e2, Int.pow_succ]
      generalize (256 : Int) ^ s = p at *
      generalize n / p % 256 = q at *
      rw [Int.add_mul, Int.mul_assoc, Int.mul_comm 256 p, ← Int.mul_assoc]
      omega
  have := key s 0
  simpa using this
theorem num_be_eq {n : Int} {s : Nat} (h0 : 0 ≤ n) (h1 : n < 256 ^ s) : num 0 (be n s) = n := by rw [num_be n h0, Int.emod_eq_of_lt h0 h1]
end Go.Proofs.Ytccilbgbjikmpaa
namespace Go.Proofs.Ytccilbgbjikmpaa
open Go Go.RowKit
set_option linter.unusedVariables false
theorem info5 : (Try.prog.info? 5).map (fun i => (i.zero, i.size, i.bytes)) = some (some (.int .u8 0), 1, 1) := by kernel_rfl
/-- A call answers bytes of its own, and nothing that was there has turned. -/
def NewB (w : World) (ys : List Int) (e : Ending) (w' : World) : Prop := ∃ A N c, e = .returned (.slice A N c) ∧ OwnI .u8 5 w.heap.size w' A N c ys ∧ Up w w'
set_option maxHeartbeats 400000 in
theorem rput (A : Option Addr) (m c : Nat) (s : Nat) (xs : List Int) (n : Int) (w : World) (h : InB w A m c xs) (hk : m + s ≤ 140737488355328) (hs1 : 1 ≤ s) (hs8 : s ≤ 8) :
    Calls Try.prog 24 #[.slice A m c, .int .u64 n, .int .i64 (s : Int)] w (NewB w (xs ++ be n s)) := by
  have h1 : (1 : Int) ≤ (s : Int) := by omega
  have h8 : (s : Int) ≤ 8 := by omega
  have H := Lib.hid h
  clear h
  go_enter Try.func24, Try.ntmps24
  go_wp2_with (at_builtin; refine wpList_appendI rfl (.tmp 9) (.tmp 10) 23 rfl .u8 w.heap.size 5 1 Try.underlying23 info5 (some ⟨w.heap.size, 0, none⟩) 0 0 [] rfl (ownI_new _ _ _) A m c xs rfl H.out.len (H.out.cells.alloc _) (by omega) (by omega) (by simp) ((Below.refl _ _).alloc (Nat.le_refl _) _) ?_; intro A' N c' w' HN HW HB hsz)
  have HW2 : Hid (OwnI .u8 5 w.heap.size w' A' N c' xs) := by have := HW.out; rw [List.nil_append] at this; exact this
  have hN : N = m := by have := HN.out; omega
  have HNN := Lib.hid hN
  clear hN HN HW hsz
  go_loopw [7, 8] (fun v i wr => ∃ (t : Nat) (ys : List Int) (A1 : Option Addr) (N1 c1 : Nat), t ≤ s ∧ i = .int .i64 ((t : Int) - 1) ∧ Hid (ys ++ be n t = xs ++ be n s) ∧ v = .slice A1 N1 c1 ∧ Hid (OwnI .u8 5 w.heap.size wr A1 N1 c1 ys) ∧ Hid (Below w.heap.size w wr) ∧ Hid (N1 + t = m + s)) (fun _ i _ => (intOf i + 1).toNat)
  case atStart => exact ⟨s, xs, A', N, c', Nat.le_refl _, by go_num, Lib.hid rfl, rfl, HW2, HB, Lib.hid (by rw [HNN.out])⟩
  case round =>
    obtain ⟨t, ys, A1, N1, c1, ht, hi, hys, rfl, hw, hb, hlen⟩ := hrel
    have hsz : w.heap.size ≤ wr.heap.size := hb.out.size
    cases t with
    | zero =>
      obtain rfl : u8 = Value.int .i64 (-1) := by rw [hi]; rfl
      go_wp2
      go_ret
      have e := hys.out
      simp only [be, List.append_nil] at e
      subst e
      exact ⟨_, _, _, rfl, hw.out, hb.out⟩
    | succ r =>
      obtain rfl : u8 = Value.int .i64 (r : Int) := by rw [hi]; go_num
      go_wp2_with (at_builtin; refine wpList_appendI rfl (.tmp 25) (.tmp 32) 23 rfl .u8 w.heap.size 5 1 Try.underlying23 info5 A1 N1 c1 ys rfl (hw.out.alloc _) (some ⟨wr.heap.size, 0, none⟩) 1 1 [n / 2 ^ (8 * r) % 256] rfl rfl (cells_new _ _ _ _ rfl) (by have := hlen.out; omega) (by have := hlen.out; omega) (by simp; omega) (hb.out.alloc hsz _) ?_; intro A2 N2 c2 w2 HN2 HW2' HB2 hsz2)
      go_roundw
      case rel => exact ⟨r, ys ++ [n / 2 ^ (8 * r) % 256], A2, N2, c2, by omega, by go_num, Lib.hid (be_step hys.out), rfl, HW2', HB2, Lib.hid (by have := HN2.out; have := hlen.out; omega)⟩
      case measure => simp [intOf]
end Go.Proofs.Ytccilbgbjikmpaa
namespace Go.Proofs.Ytccilbgbjikmpaa
open Go Go.RowKit
set_option linter.unusedVariables false
/-! The reader: its small calls, and its numbers. -/
/-- Where a reader stands, and its first error. -/
structure R where
  at_ : Nat
  e : Int
def One (g : Nat) : Nat → Prop := fun k => k = g
end Go.Proofs.Ytccilbgbjikmpaa
namespace Go.Proofs.Ytccilbgbjikmpaa
open Go Go.RowKit
set_option linter.unusedVariables false
def chV (ty fl : Int) (v : Value) : Value := .agg #[.int .u8 ty, .int .u8 fl, v]
section
variable {b q g : Nat} {T : TypeId} {cs : Array Value} {w0 w : World} {xs : List Int}
end
theorem results_row_tmp {P : Program} {fn : Func} {p u : Tmp} {ty : TypeId} (h : fn.results = #[.cell p ty, .tmp u]) (tmps : Array Value) (w : World) (g : Nat) (t : TypeId) (cs : Array Value) (fr : Nat × Nat) (d : TypeDesc)
    (hp : tmps.getD p undef = .pointer (some ⟨g, 0, none⟩)) (hg : w.heap[g]? = some (.cells cs t fr))
    (hu : P.underlying ty = some d) (hd : (match d with | .struct _ | .array _ _ => true | _ => false) = true) (hi : (P.info? ty).map (·.size) = some cs.size) :
    (results fn tmps).run P w = .ok (.tuple #[.agg cs, tmps.getD u undef]) w := by
  have hp' : tmps[p]?.getD undef = .pointer (some ⟨g, 0, none⟩) := by simpa using hp
  simp [results, h, hp', asAddr, run_loadVar_row w g t ty cs fr d hg hu hd hi, Result.andThen]
/-- A chunk is answered, with bytes of its own; nothing has turned. -/
def ChPost (ty fl : Int) (ys : List Int) (w : World) (e : Ending) (w' : World) : Prop := ∃ A N c, e = .returned (.tuple #[chV ty fl (.slice A N c), .int .i64 0]) ∧ Hid (N = ys.length) ∧ Hid (OwnI .u8 5 w.heap.size w' A N c ys) ∧ Hid (Up w w')
/-- No chunk, but an error. -/
def ChErr (k : Int) (w : World) (e : Ending) (w' : World) : Prop := e = .returned (.tuple #[chV 0 0 (.slice none 0 0), .int .i64 k]) ∧ Hid (Up w w')
/-- Three stores into the result. -/
theorem set3 {w : World} {q : Nat} {cs : Array Value} {a b c : Value} {T : TypeId} (h : w.heap[q]? = some (.cells cs T (0, 0))) (hs : cs.size = 3) :
    (((w.setCell ⟨q, 0, none⟩ a).setCell ⟨q, 1, none⟩ b).setCell ⟨q, 2, none⟩ c).heap[q]? = some (.cells #[a, b, c] T (0, 0)) ∧ Out (fun k => k = q) w (((w.setCell ⟨q, 0, none⟩ a).setCell ⟨q, 1, none⟩ b).setCell ⟨q, 2, none⟩ c) := by
  refine ⟨?_, ((setCell_out _ _ _ _).trans (setCell_out _ _ _ _) (Sub.refl _ _)).trans (setCell_out _ _ _ _) (Sub.refl _ _)⟩
  rw [setCell_at _ (setCell_at _ (setCell_at _ h))]
  obtain ⟨l⟩ := cs
  match l, hs with
  | [x, y, z], _ => rfl
end Go.Proofs.Ytccilbgbjikmpaa
namespace Go.Proofs.Ytccilbgbjikmpaa
open Go Go.RowKit
set_option linter.unusedVariables false
theorem OwnI.base {k : IntKind} {E : TypeId} {B B' : Nat} {w : World} {A : Option Addr} {N c : Nat} {xs : List Int} (h : OwnI k E B w A N c xs) (hb : B' ≤ B) : OwnI k E B' w A N c xs := by
  refine ⟨h.1, ?_⟩
  rcases h.2 with h2 | ⟨g, cap, cur, h1, h2, h3⟩
  · exact .inl h2
  · exact .inr ⟨g, cap, cur, h1, Nat.le_trans hb h2, h3⟩
section
variable {g : Nat} {xs : List Int} {r : R}
end
end Go.Proofs.Ytccilbgbjikmpaa
