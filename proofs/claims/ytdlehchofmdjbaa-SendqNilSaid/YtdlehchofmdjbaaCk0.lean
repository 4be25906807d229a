import Derived.Test.YtdlehchofmdjbaaSteady
import Derived.Test.YtdlehchofmdjbaaBytes
import Derived.Maps.AppendAt
import Derived.Test.YtdlehchofmdjbaaChecked
import Derived.BigQuiet
namespace Go.Proofs.Ytdlehchofmdjbaa
open Go Go.RowKit
set_option linter.unusedVariables false
/-! Of no program. -/
/-- The block of an address. -/
def blk? (A : Option Addr) : Option Nat := A.map (·.block)
theorem own_blk {w w' : World} {base size n : Nat} {e : TypeId} {v : Value} {xs : List Value} (h : w.ownsRow base e size v n xs) (hk : ∀ g, v.ownBlock = some g → w'.heap[g]? = w.heap[g]?) : w'.ownsRow base e size v n xs := by
  refine ⟨h.1, ?_⟩
  rcases h.2 with h2 | ⟨g, cap, cur, hv, hg, hh, r⟩
  · exact .inl h2
  · subst hv
    exact .inr ⟨g, cap, cur, rfl, hg, by rw [hk g rfl]; exact hh, r⟩
theorem row_cell {w : World} {g n c base : Nat} {e : TypeId} {s : Nat} {xs : List Value} (h : w.ownsRow base e s (.slice (some ⟨g, 0, none⟩) n c) n xs) {j : Nat} {v : Value} (hj : xs[j]? = some v) : w.cell? ⟨g, j, none⟩ = some v := by
  rcases h.2 with ⟨h1, _⟩ | ⟨g', cap, cur, hv, _, hh, _, _, hsz, ht⟩
  · cases h1
  · injection hv with hv
    injection hv with hv
    injection hv with hv
    subst hv
    refine cell_of hh ?_
    rw [← ht, List.getElem?_take] at hj
    split at hj
    · simpa using hj
    · cases hj
theorem row_at {w : World} {A : Option Addr} {n c base : Nat} {e : TypeId} {s : Nat} {xs : List Value} (h : w.ownsRow base e s (.slice A n c) n xs) (hn : 0 < n) : ∃ g, A = some ⟨g, 0, none⟩ := by
  rcases h.2 with ⟨h1, h2⟩ | ⟨g', cap, cur, hv, _⟩
  · omega
  · injection hv with hv
    exact ⟨g', hv⟩
theorem row_lt {w : World} {A : Option Addr} {n c base : Nat} {e : TypeId} {s : Nat} {xs : List Value} (h : w.ownsRow base e s (.slice A n c) n xs) {k : Nat} (hk : blk? A = some k) : base ≤ k ∧ k < w.heap.size := World.ownsRow.lt h k (by rw [ownBlock_slice]; exact hk)
theorem row_cells {w : World} {A : Option Addr} {n c base : Nat} {e : TypeId} {s : Nat} {xs : List Value} (h : w.ownsRow base e s (.slice A n c) n xs) : Cells w A xs := fun hne => by
  rcases h.2 with ⟨h1, h2⟩ | ⟨g', cap, cur, hv, _, hh, _, _, hsz, ht⟩
  · have := h.1; subst h2; rw [Nat.zero_mul] at this; exact absurd (List.eq_nil_of_length_eq_zero this) hne
  · injection hv with hv
    subst hv
    exact ⟨g', 0, rfl, lt_of_blk hh, fun j u hu => by rw [Nat.zero_add]; exact row_cell h hu⟩
theorem Cells.blk {w w' : World} {A : Option Addr} {xs : List Value} (h : Cells w A xs) (hk : ∀ k, blk? A = some k → w'.heap[k]? = w.heap[k]?) : Cells w' A xs := fun hne => by
  obtain ⟨b, o, rfl, hlt, hc⟩ := h hne
  have e := hk b rfl
  refine ⟨b, o, rfl, ?_, fun j u hu => (World.cell?_of_block (w := w) e).trans (hc j u hu)⟩
  have h0 : w.heap[b]? = some w.heap[b] := Array.getElem?_eq_getElem hlt
  rw [h0] at e
  exact (Array.getElem?_eq_some_iff.1 e).1
theorem InB.blk {w w' : World} {A : Option Addr} {n c : Nat} {xs : List Int} (h : InB w A n c xs) (hk : ∀ k, blk? A = some k → w'.heap[k]? = w.heap[k]?) : InB w' A n c xs := ⟨h.cells.blk hk, h.byt, h.cap, h.len⟩
theorem Cells.outS' {S : Nat → Prop} {w w' : World} {A : Option Addr} {xs : List Value} (h : Cells w A xs) (ho : Out S w w') (hn : xs ≠ [] → ∀ k, blk? A = some k → ¬ S k) : Cells w' A xs := fun hne => by
  obtain ⟨b, o, rfl, hlt, hc⟩ := h hne
  exact ⟨b, o, rfl, Nat.lt_of_lt_of_le hlt ho.size, fun j u hu => (World.cell?_of_block (w := w) (ho.block b hlt (hn hne b rfl))).trans (hc j u hu)⟩
theorem Cells.outS {S : Nat → Prop} {w w' : World} {A : Option Addr} {xs : List Value} (h : Cells w A xs) (ho : Out S w w') (hn : ∀ k, blk? A = some k → ¬ S k) : Cells w' A xs := h.outS' ho fun _ => hn
theorem InB.outS {S : Nat → Prop} {w w' : World} {A : Option Addr} {n c : Nat} {xs : List Int} (h : InB w A n c xs) (ho : Out S w w') (hn : ∀ k, blk? A = some k → ¬ S k) : InB w' A n c xs := ⟨h.cells.outS ho hn, h.byt, h.cap, h.len⟩
theorem ints_ne {k : IntKind} {xs : List Int} (h : ints k xs ≠ []) : xs ≠ [] := fun e => h (by rw [e]; rfl)
theorem InB.outS' {S : Nat → Prop} {w w' : World} {A : Option Addr} {n c : Nat} {xs : List Int} (h : InB w A n c xs) (ho : Out S w w') (hn : xs ≠ [] → ∀ k, blk? A = some k → ¬ S k) : InB w' A n c xs := ⟨h.cells.outS' ho (fun hne => hn (ints_ne hne)), h.byt, h.cap, h.len⟩
theorem InB.lt {w : World} {A : Option Addr} {n c : Nat} {xs : List Int} (h : InB w A n c xs) (hne : xs ≠ []) {k : Nat} (hk : blk? A = some k) : k < w.heap.size := by
  obtain ⟨b, o, rfl, hlt, _⟩ := h.cells (fun e => hne (by rw [ints, List.map_eq_nil_iff] at e; exact e))
  have e : b = k := by simpa [blk?] using hk
  omega
theorem OwnI.rebase {k : IntKind} {E : TypeId} {B B' : Nat} {w : World} {A : Option Addr} {N c : Nat} {xs : List Int} (h : OwnI k E B w A N c xs) (hb : ∀ q, blk? A = some q → B' ≤ q) : OwnI k E B' w A N c xs := by
  refine ⟨h.1, ?_⟩
  rcases h.2 with h2 | ⟨g, cap, cur, h1, h2, h3⟩
  · exact .inl h2
  · exact .inr ⟨g, cap, cur, h1, hb g (by injection h1 with h1; rw [h1]; rfl), h3⟩
theorem InB.alloc {w : World} {A : Option Addr} {n c : Nat} {xs : List Int} (h : InB w A n c xs) (o : Obj) : InB (w.alloc o) A n c xs := h.up (up_alloc w o)
/-- 'append' onto a row of the call's own, of elements of any size. -/
theorem append_G {P : Program} {w : World} {t ty e : TypeId} {z : Value} {s bytes base n c : Nat} {A : Option Addr} {xs : List Value}
    (ht : P.underlying t = some (.slice e)) (hinfo : (P.info? e).map (fun i => (i.zero, i.size, i.bytes)) = some (some z, s, bytes)) (hz : z.cells.size = s) (hs : 0 < s)
    (h : w.ownsRow base e s (.slice A n c) n xs) (B : Option Addr) (m d : Nat) (news : List Value) (hl : news.length = m * s) (hc : Cells w B news) (h1 : ∀ u ∈ news, u.oneCell' = true)
    (h63 : n + m ≤ 9223372036854775807) (hbytes : (n + m) * bytes ≤ 140737488355328) (hb : base ≤ w.heap.size) :
    ∃ A' c' w', (Builtin.append_ #[t, t] ty #[.slice A n c, .slice B m d]).run P w = .ok (.slice A' (n + m) c') w' ∧ Out (fun k => blk? A = some k) w w' ∧ w'.ownsRow base e s (.slice A' (n + m) c') (n + m) (xs ++ news) ∧ (blk? A' = blk? A ∨ blk? A' = some w.heap.size) := by
  obtain ⟨i, hi, hz0, hz1, hz2⟩ := info_parts hinfo
  cases B with
  | none =>
    have hm : news = [] := by
      cases news with
      | nil => rfl
      | cons x l =>
        obtain ⟨g, o, e, _⟩ := hc (by simp)
        cases e
    subst hm
    have hm0 : m = 0 := by
      have h2 : m * s = 0 := by rw [← hl]; rfl
      rcases Nat.mul_eq_zero.1 h2 with h3 | h3
      · exact h3
      · omega
    subst hm0
    refine ⟨A, c, w, ?_, Out.refl _ _, by simpa using h, .inl rfl⟩
    rcases h.2 with ⟨h1, h2⟩ | ⟨g, cap, cur, hv, _, _, hnc, _⟩
    · injection h1 with h1 h3 h4
      subst h1 h2 h4
      simp [Builtin.append_, run_underlying ht, sizeOf, typeInfo, hi, Builtin.lenOf, Builtin.firstCells]
    · injection hv with hv h3 h4
      subst hv h4
      simp [Builtin.append_, run_underlying ht, sizeOf, typeInfo, hi, Builtin.lenOf, Builtin.firstCells, hnc, storeCells]
  | some ad =>
    have hcells : ∀ j u, news[j]? = some u → w.cell? (ad.add j) = some u := fun j u hu => by
      obtain ⟨g, o, e, _, hh⟩ := hc (by intro h; rw [h] at hu; simp at hu)
      injection e with e
      subst e
      rw [add_flat]
      exact hh j u hu
    obtain ⟨v, w', h1, h2, h3, _, h5⟩ := run_append_own_at (P := P) w base t ty e i z s bytes ht hi hz0 hz1 hz2 hz hs (.slice A n c) n xs h ad m d news hl hcells h1 (by unfold maxLen; exact h63) hbytes hb
    obtain ⟨A', c', rfl⟩ := own_slice h2
    rw [ownBlock_slice, ownBlock_slice] at h5
    refine ⟨A', c', w', h1, ⟨h3.os, h3.tape, h3.output, h3.size, fun k hk hn => h3.block k hk (fun e => hn ?_)⟩, h2, h5⟩
    show A.map (·.block) = some k
    rw [← ownBlock_slice A n c]; exact e.symm
theorem wpList_appendG {P : Program} {w : World} {ops : Array Oper} {rest : List Oper} {o : Oper} {a : Act} {Q : Exit → Act → World → Prop} (hgd : Region.wanted o (yielded ops a.tmps) = true) (s x : Operand) (t : TypeId)
    (ho : o.op = .call { callee := .builtin .append, args := #[s, x], argTypes := #[t, t] }) (base : Nat) (e : TypeId) (z : Value) (sz bytes : Nat) (ht : P.underlying t = some (.slice e))
    (hinfo : (P.info? e).map (fun i => (i.zero, i.size, i.bytes)) = some (some z, sz, bytes)) (hz : z.cells.size = sz) (hsz : 0 < sz)
    (A0 : Option Addr) (n c0 : Nat) (xs : List Value) (hs : a.eval s = .slice A0 n c0) (hown : w.ownsRow base e sz (.slice A0 n c0) n xs)
    (B : Option Addr) (m d : Nat) (news : List Value) (hx : a.eval x = .slice B m d) (hl : news.length = m * sz) (hc : Cells w B news) (h1 : ∀ u ∈ news, u.oneCell' = true)
    (h63 : n + m ≤ 9223372036854775807) (hbytes : (n + m) * bytes ≤ 140737488355328) (hb : base ≤ w.heap.size)
    (h : ∀ A' N c' w', Hid (N = n + m) → Hid (w'.ownsRow base e sz (.slice A' N c') N (xs ++ news)) → Hid (Out (fun k => blk? A0 = some k) w w') → Hid (blk? A' = blk? A0 ∨ blk? A' = some w.heap.size) → wpList P ops Q rest (a.put o.dst (.slice A' N c')) w') : wpList P ops Q (o :: rest) a w := by
  refine wpList_wanted hgd fun K hK => ?_
  obtain ⟨A', c', w', hrun, h2, h3, h4⟩ := append_G (ty := o.type) ht hinfo hz hsz hown B m d news hl hc h1 h63 hbytes hb
  unfold Oper.wp execOp
  simp only [ho, resolve, invoke, builtin, Sem.run_bind, Sem.run_pure, Result.andThen_ok, List.map_toArray, List.map_cons, List.map_nil, hs, hx, hrun]
  exact hK _ _ (h A' (n + m) c' w' rfl h3 h2 h4)
/-- How much is missing to a multiple of 4. -/
def padN (n : Nat) : Nat := (4 - n % 4) % 4
theorem padN_lt (n : Nat) : padN n < 4 := by unfold padN; omega
/-- Bytes, and their zero bytes behind. -/
def padL (xs : List Int) : List Int := xs ++ List.replicate (padN xs.length) 0
theorem padL_length (xs : List Int) : (padL xs).length = xs.length + padN xs.length := by simp [padL]
theorem byt_padL {xs : List Int} (h : Byt xs) : Byt (padL xs) := h.append (by intro x hx; rw [List.mem_replicate] at hx; omega)
theorem num_be (n : Int) (h0 : 0 ≤ n) (s : Nat) : num 0 (be n s) = n % 256 ^ s := by
  have key : ∀ (s : Nat) (v : Int), num v (be n s) = v * 256 ^ s + n % 256 ^ s := by
    intro s
    induction s with
    | zero => intro v; simp [be, num]
    | succ s ih =>
      intro v
      simp only [be, num]
      rw [ih]
      have e1 : (2 : Int) ^ (8 * s) = 256 ^ s := by rw [Int.pow_mul]; rfl
      rw [e1]
      have hp : (0 : Int) < 256 ^ s := Int.pow_pos (by decide)
      have e2 : n % 256 ^ (s + 1) = n / 256 ^ s % 256 * 256 ^ s + n % 256 ^ s := by
        obtain ⟨k, rfl⟩ := Int.eq_ofNat_of_zero_le h0
        have := Nat.mod_mul (x := k) (a := 256 ^ s) (b := 256)
        rw [← Nat.pow_succ, Nat.add_comm, Nat.mul_comm] at this
        have h2 := congrArg (fun z : Nat => (z : Int)) this
        simp only [Int.natCast_add, Int.natCast_mul, Int.natCast_emod, Int.natCast_ediv, Int.natCast_pow] at h2
        exact h2
      rw [e2, Int.pow_succ]
      generalize (256 : Int) ^ s = p at *
      generalize n / p % 256 = q at *
      rw [Int.add_mul, Int.mul_assoc, Int.mul_comm 256 p, ← Int.mul_assoc]
      omega
  have := key s 0
  simpa using this
theorem num_be_eq {n : Int} {s : Nat} (h0 : 0 ≤ n) (h1 : n < 256 ^ s) : num 0 (be n s) = n := by rw [num_be n h0, Int.emod_eq_of_lt h0 h1]
end Go.Proofs.Ytdlehchofmdjbaa
namespace Go.Proofs.Ytdlehchofmdjbaa
open Go Go.RowKit
set_option linter.unusedVariables false
theorem winfo5 : (Try.prog.info? 5).map (fun i => (i.zero, i.size, i.bytes)) = some (some (.int .u8 0), 1, 1) := by kernel_rfl
theorem wsize5 : (Try.prog.info? 5).map (·.size) = some 1 := by kernel_rfl
/-- make([]byte, n). -/
theorem make_bytes (n : Nat) (hn : n ≤ 281474976710656) (N : Int) (hN : N = (n : Int)) (W : World) : (Instr.makeSlice 29 (.int .i64 N) (.int .i64 N)).run Try.prog W =
    .ok (.slice (some ⟨W.heap.size, 0, none⟩) n n) (W.alloc (.cells (List.replicate n (.int .u8 0)).toArray 5)) := by
  subst hN
  obtain ⟨i0, hi, hz0, hz1, hz2⟩ := info_parts winfo5
  have h := run_make (P := Try.prog) W 29 5 i0 (.int .u8 0) Try.underlying29 hi hz0 .i64 .i64 n n (by omega) (Int.le_refl _) (by rw [hz2]; omega) (by omega)
  have e : madeCells (Value.int .u8 0).cells (n * 1) = (List.replicate n (.int .u8 0)).toArray := by
    apply Array.toList_inj.1
    show (madeCells #[Value.int .u8 0] (n * 1)).toList = _
    rw [toList_madeCells_one]; simp
  rw [hz1] at h
  simp only [Int.toNat_natCast] at h
  rw [e] at h
  exact h
theorem splice_zero (n k : Nat) (xs : List Value) (z : Value) (hn : xs.length = n) : splice (List.replicate (n + k) z) 0 xs = xs ++ List.replicate k z := by
  subst hn; simp [splice]
set_option maxHeartbeats 400000 in
theorem ext_any (A : Option Addr) (n c k : Nat) (xs : List Value) (w : World) (hn : xs.length = n) (hr : Cells w A xs) (h1 : ∀ u ∈ xs, u.oneCell' = true) (hk : n + k ≤ 281474976710656) :
    Calls Try.prog 57 #[.slice A n c, .int .i64 (k : Int)] w fun e w' => e = .returned (.slice (some ⟨w.heap.size, 0, none⟩) (n + k) (n + k)) ∧ Hid (w'.heap[w.heap.size]? = some (.cells (xs ++ List.replicate k (Value.int .u8 0)).toArray 5 (0, 0))) ∧ Below w.heap.size w w' := by
  have hmk := make_bytes (n + k) hk (↑n + ↑k) (by omega)
  have HN := Lib.hid hn
  clear hn
  go_enter Try.func57, Try.ntmps57
  go_wp2_with (with_reducible refine wpList_copy_splice rfl (.tmp 11) (.tmp 12) 29 29 rfl 5 Try.underlying29 wsize5 (some ⟨w.heap.size, 0, none⟩) A (n + k) (n + k) n c rfl rfl w.heap.size 0 (List.replicate (n + k) (.int .u8 0)) 5 (heap_alloc_new w _) xs (by rw [HN.out]; simp) ?hpos (by rw [HN.out]; simp) h1 w.heap.size w ((Below.refl _ _).alloc (Nat.le_refl _) _) (Nat.le_refl _) ?_)
  case hpos =>
    intro hp
    obtain ⟨b, o, e, hlt, hc⟩ := hr (by intro hx; rw [hx] at hp; simp at hp)
    exact ⟨⟨b, o, none⟩, e, fun j u hu => by rw [add_flat, World.cell?_alloc_lt _ _ ⟨b, o + j, none⟩ hlt]; exact hc j u hu⟩
  intro w2 hrow hbel
  go_wp2
  go_ret
  have hs := hrow.out
  rw [splice_zero n k xs _ HN.out] at hs
  exact ⟨rfl, hs, hbel⟩
theorem ownI_row {w0 w' : World} {ns : List Int} {m : Nat} (hm : ns.length = m) (h63 : m ≤ maxLen) (h : w'.heap[w0.heap.size]? = some (.cells (ints .u8 ns).toArray 5 (0, 0))) :
    OwnI .u8 5 w0.heap.size w' (some ⟨w0.heap.size, 0, none⟩) m m ns := by
  subst hm
  exact ⟨by simp [ints], .inr ⟨_, _, _, rfl, Nat.le_refl _, h, Nat.le_refl _, h63, by simp [ints], by simp only [Nat.mul_one]; exact List.take_of_length_le (by simp [ints])⟩⟩
theorem size_yes (s : Nat) (w : World) (h1 : 1 ≤ s) (h8 : s ≤ 8) : Calls Try.prog 56 #[.int .i64 (s : Int)] w fun e w' => e = .returned (.bool true) ∧ w = w' := by
  have a1 : (1 : Int) ≤ (s : Int) := by omega
  have a8 : (s : Int) ≤ 8 := by omega
  go_enter Try.func56, Try.ntmps56
  go_wp2
  go_ret
  exact ⟨rfl, rfl⟩
theorem prow_start {w' : World} {g s : Nat} {xs : List Int} {n : Int} (h : w'.heap[g]? = some (.cells (ints .u8 xs ++ List.replicate s (Value.int .u8 0)).toArray 5 (0, 0))) :
    Hid (w'.heap[g]? = some (.cells (ints .u8 (xs ++ List.replicate (s - 0) 0 ++ be n 0)).toArray 5 (0, 0))) := by
  show w'.heap[g]? = _
  rw [h]; simp [ints, be]
theorem put_at {xs ys : List Int} {m s j : Nat} (hm : xs.length = m) (hj : j < s) : (ints .u8 (xs ++ List.replicate (s - j) 0 ++ ys))[m + s - 1 - j]? = some (.int .u8 0) := by
  subst hm
  have h1 : xs.length + s - 1 - j = xs.length + (s - 1 - j) := by omega
  rw [h1, ints, List.append_assoc, List.map_append, List.getElem?_append_right (by simp)]
  simp only [List.length_map, Nat.add_sub_cancel_left, List.map_append]
  rw [List.getElem?_append_left (by simp; omega), List.getElem?_map, List.getElem?_replicate, if_pos (by omega)]
  rfl
theorem put_cell {wr : World} {g m s j : Nat} {xs : List Int} {n : Int} (h : wr.heap[g]? = some (.cells (ints .u8 (xs ++ List.replicate (s - j) 0 ++ be n j)).toArray 5 (0, 0))) (hm : xs.length = m) (hj : j < s) :
    wr.cell? ⟨g, m + s - 1 - j, none⟩ = some (.int .u8 0) := by
  rw [cell_of_row wr g _ _ 5 (0, 0) h]
  simpa using put_at hm hj
theorem put_free {wr : World} {g k : Nat} {cs : Array Value} (h : wr.heap[g]? = some (.cells cs 5 (0, 0))) : wr.frozen? ⟨g, k, none⟩ = false := frozen_of_row wr g k cs 5 h
theorem put_store {wr : World} {g m s j : Nat} {xs : List Int} {n : Int} (h : wr.heap[g]? = some (.cells (ints .u8 (xs ++ List.replicate (s - j) 0 ++ be n j)).toArray 5 (0, 0))) (hm : xs.length = m) (hj : j < s) :
    Hid ((wr.setCell ⟨g, m + s - 1 - j, none⟩ (.int .u8 (n / 2 ^ (8 * j) % 256))).heap[g]? = some (.cells (ints .u8 (xs ++ List.replicate (s - (j + 1)) 0 ++ be n (j + 1))).toArray 5 (0, 0))) := by
  show _ = _
  rw [heap_setCell_same wr g _ _ 5 _ h]
  congr 2
  apply Array.toList_inj.1
  subst hm
  rw [Array.toList_setIfInBounds]
  simp only [ints]
  rw [show xs.length + s - 1 - j = xs.length + (s - 1 - j) by omega, show s - j = (s - (j + 1)) + 1 by omega, List.replicate_succ', be]
  rw [List.append_assoc, List.append_assoc, List.append_assoc, List.map_append, List.map_append, List.map_append, List.map_append]
  rw [List.set_append_right _ _ (by simp), List.set_append_right _ _ (by simp only [List.length_map, List.length_replicate]; omega)]
  simp
  have : s - 1 - j - (s - (j + 1)) = 0 := by omega
  rw [this]; simp
/-- wire.Put: b and the s lowest bytes behind it, all of the call's own. -/
def WPut (w : World) (ys : List Int) (e : Ending) (w' : World) : Prop := ∃ A N c, e = .returned (.slice A N c) ∧ N = ys.length ∧ OwnI .u8 5 w.heap.size w' A N c ys ∧ Up w w'
set_option maxHeartbeats 400000 in
theorem put_any (A : Option Addr) (m c s : Nat) (xs : List Int) (n : Int) (w : World) (h : InB w A m c xs) (hk : m + s ≤ 281474976710656) (hs1 : 1 ≤ s) (hs8 : s ≤ 8) :
    Calls Try.prog 43 #[.slice A m c, .int .u64 n, .int .i64 (s : Int)] w (WPut w (xs ++ be n s)) := by
  have HM := Lib.hid h.len
  have h1 : (1 : Int) ≤ (s : Int) := by omega
  have h8 : (s : Int) ≤ 8 := by omega
  have HL := Lib.hid (show (ints .u8 xs).length = m by simp [ints, HM.out])
  have HR := Lib.hid h.cells
  have HO := Lib.hid (ints_one .u8 xs)
  clear h
  go_enter Try.func43, Try.ntmps43
  go_wp2_with (first
    | (go_at_call 56; refine (size_yes s _ hs1 hs8).mono ?_; rintro e w' ⟨rfl, rfl⟩)
    | (go_at_call 57; refine (ext_any A m c s (ints .u8 xs) _ HL.out HR.out HO.out hk).mono ?_; rintro e w' ⟨rfl, hrow, hbel⟩))
  clear HR HO
  have HB := Lib.hid hbel
  clear hbel
  go_loopw [18] (fun i wr => ∃ j : Nat, j ≤ s ∧ i = .int .i64 j ∧ Hid (wr.heap[w.heap.size]? = some (.cells (ints .u8 (xs ++ List.replicate (s - j) 0 ++ be n j)).toArray 5 (0, 0))) ∧ Below w.heap.size w wr) (fun i _ => s - (intOf i).toNat)
  case atStart => exact ⟨0, Nat.zero_le _, rfl, prow_start hrow.out, HB.out⟩
  case round =>
    obtain ⟨j, hj, rfl, hw, hb⟩ := hrel
    by_cases hlt : j < s
    · have hcell := put_cell hw.out HM.out hlt
      have hfr := put_free (k := m + s - 1 - j) hw.out
      go_wp2
      go_roundw
      case rel => exact ⟨j + 1, by omega, by go_num, put_store hw.out HM.out hlt, (hb.setCell (Nat.le_refl _) _)⟩
      case measure => simp [intOf]; omega
    · obtain rfl : j = s := by omega
      go_wp2
      go_ret
      have hq := hw.out
      rw [Nat.sub_self, List.replicate_zero, List.append_nil] at hq
      exact ⟨_, _, _, rfl, by rw [List.length_append, be_length, HM.out], ownI_row (by rw [List.length_append, be_length, HM.out]) (by unfold maxLen; omega) hq, hb⟩
end Go.Proofs.Ytdlehchofmdjbaa
namespace Go.Proofs.Ytdlehchofmdjbaa
open Go Go.RowKit
set_option linter.unusedVariables false
theorem info5 : (Try.prog.info? 5).map (fun i => (i.zero, i.size, i.bytes)) = some (some (.int .u8 0), 1, 1) := by kernel_rfl
end Go.Proofs.Ytdlehchofmdjbaa
namespace Go.Proofs.Ytdlehchofmdjbaa
open Go Go.RowKit
set_option linter.unusedVariables false
set_option linter.unusedSimpArgs false
/-! The writer. -/
/-- At g lies a writer that has these bytes; all of it lies within S. -/
structure IsW (S : Nat → Prop) (w : World) (g : Nat) (xs : List Int) : Prop where
  ex : ∃ A N c, w.heap[g]? = some (.cells #[.slice A N c] 73 (0, 0)) ∧ OwnI .u8 5 0 w A N c xs ∧ S g ∧ ∀ k, blk? A = some k → S k ∧ k ≠ g
theorem IsW.lt {S : Nat → Prop} {w : World} {g : Nat} {xs : List Int} (h : IsW S w g xs) : g < w.heap.size := by
  obtain ⟨A, N, c, h1, h2, h3, h4⟩ := h.ex
  exact lt_of_blk h1
theorem IsW.out {S T : Nat → Prop} {w w' : World} {g : Nat} {xs : List Int} (h : IsW S w g xs) (ho : Out T w w') (hd : ∀ k, S k → ¬ T k) : IsW S w' g xs := by
  obtain ⟨A, N, c, h1, h2, h3, h4⟩ := h.ex
  exact ⟨A, N, c, ho.blk h1 (hd g h3), ho.own h2 (fun k hk => hd k (h4 k (by rwa [ownBlock_slice] at hk)).1), h3, h4⟩
theorem IsW.up {S : Nat → Prop} {w w' : World} {g : Nat} {xs : List Int} (h : IsW S w g xs) (hu : Up w w') : IsW S w' g xs := h.out (hu.out No) (fun _ _ h => h)
/-- Behind a writer's method: these are its bytes now. -/
def WPost (S : Nat → Prop) (g : Nat) (xs : List Int) (w : World) (e : Ending) (w' : World) : Prop := e = .returned (.tuple #[]) ∧ ∃ S', IsW S' w' g xs ∧ Sub S' S w ∧ Out S w w'
theorem WPost.up {S : Nat → Prop} {g : Nat} {xs : List Int} {w w1 w' : World} {e : Ending} (h : WPost S g xs w1 e w') (hu : Up w w1) : WPost S g xs w e w' := by
  obtain ⟨h1, S', h2, h3, h4⟩ := h
  exact ⟨h1, S', h2, fun k hk => (h3 k hk).imp id (fun h => Nat.le_trans hu.size h), (hu.out S).trans h4 (Sub.refl _ _)⟩
theorem WPost.out {S S1 : Nat → Prop} {g : Nat} {xs : List Int} {w w1 w' : World} {e : Ending} (h : WPost S1 g xs w1 e w') (hs : Sub S1 S w) (hu : Out S w w1) : WPost S g xs w e w' := by
  obtain ⟨h1, S', h2, h3, h4⟩ := h
  exact ⟨h1, S', h2, hs.trans h3 hu.size, hu.trans h4 hs⟩
set_option maxRecDepth 100000 in
theorem wbytes {S : Nat → Prop} {g : Nat} {xs : List Int} (A : Option Addr) (m c : Nat) (ys : List Int) (w : World) (h : IsW S w g xs) (hy : InB w A m c ys) (hk : xs.length + m ≤ 1000000) :
    Calls Try.prog 42 #[.pointer (some ⟨g, 0, none⟩), .slice A m c] w (WPost S g (xs ++ ys) w) := by
  obtain ⟨A0, N, c0, h1, h2, h3, h4⟩ := h.ex
  have HY := Lib.hid hy
  have H1 := Lib.hid h1
  have H2 := Lib.hid h2
  have H3 := Lib.hid h3
  have H4 := Lib.hid h4
  have HL := Lib.hid h2.len
  have hc := cell_of h1 (j := 0) rfl
  have hN : N + m ≤ 1000000 := by have := h2.len; omega
  clear h h1 h2 h3 h4 hy hk
  go_enter Try.func42, Try.ntmps42
  go_wp2_with (at_builtin; refine wpList_appendG rfl (.tmp 8) (.tmp 9) 29 rfl 0 5 (.int .u8 0) 1 1 Try.underlying29 info5 rfl (by decide) A0 N c0 (ints .u8 xs) rfl H2.out A m c (ints .u8 ys) rfl (by rw [ints_length, HY.out.len, Nat.mul_one]) HY.out.cells (ints_one .u8 ys) (by omega) (by omega) (Nat.zero_le _) ?_; intro A' N' c' w' HN HW HO HB; have h1' := HO.out.blk H1.out (fun e => (H4.out g e).2 rfl); have hc' := cell_of h1' (j := 0) rfl; have hf' := frozen_at (j := 0) h1')
  go_end0
  have hso := setCell_out w' g 0 (.slice A' N' c')
  have hown : OwnI .u8 5 0 w' A' N' c' (xs ++ ys) := by unfold OwnI; rw [ints_append]; exact HW.out
  refine ⟨rfl, fun k => S k ∨ blk? A' = some k, ⟨A', N', c', by rw [setCell_at _ h1']; rfl, hso.own hown (fun q hq e => ?_), .inl H3.out, fun k hk => ⟨.inr hk, fun e => ?_⟩⟩, fun k hk => ?_, (HO.out.mono fun k hk => (H4.out k hk).1).trans (hso.mono fun k hk => by rw [hk]; exact H3.out) (Sub.refl _ _)⟩
  · rw [ownBlock_slice] at hq
    subst e
    rcases HB.out with hb | hb
    · exact (H4.out q (by rw [← hb]; exact hq)).2 rfl
    · have h9 : blk? A' = some q := hq
      rw [hb] at h9; injection h9 with h9
      have := lt_of_blk H1.out; omega
  · subst e
    rcases HB.out with hb | hb
    · exact (H4.out k (by rw [← hb]; exact hk)).2 rfl
    · rw [hb] at hk; injection hk with hk
      have := lt_of_blk H1.out; omega
  · rcases hk with hk | hk
    · exact .inl hk
    · rcases HB.out with hb | hb
      · exact .inl (H4.out k (by rw [← hb]; exact hk)).1
      · rw [hb] at hk; injection hk with hk
        exact .inr (by omega)
set_option maxRecDepth 100000 in
theorem wnumber {S : Nat → Prop} {g : Nat} {xs : List Int} (n : Int) (s : Nat) (w : World) (h : IsW S w g xs) (h1 : 1 ≤ s) (h8 : s ≤ 8) (hk : xs.length ≤ 900000) :
    Calls Try.prog 35 #[.pointer (some ⟨g, 0, none⟩), .int .u64 n, .int .i64 (s : Int)] w (WPost S g (xs ++ be n s) w) := by
  have H := Lib.hid h
  have HK := Lib.hid hk
  clear h hk
  go_enter Try.func35, Try.ntmps35
  go_wp2_with fail
  refine (put_any none 0 0 s [] n w (inB_nil w) (by omega) h1 h8).mono ?_
  rintro e w1 ⟨A, N, c, rfl, hN, hO, hu⟩
  have HN := Lib.hid hN
  have HO := Lib.hid hO
  have HU := Lib.hid hu
  clear hN hO hu
  go_wp2_with fail
  have hl : N = s := by rw [HN.out]; simp [be_length]
  refine (wbytes A N c (be n s) w1 (H.out.up HU.out) (by have := own_inB HO.out (by simpa using be_byt n s); simpa using this) (by have := HK.out; omega)).mono ?_
  intro e w2 hp
  have HP := Lib.hid (hp.up HU.out)
  obtain ⟨rfl, -⟩ := hp
  go_wp2_with fail
  go_end0
  exact HP.out
set_option maxRecDepth 100000 in
theorem wtwo {S : Nat → Prop} {g : Nat} {xs : List Int} (n : Int) (w : World) (h : IsW S w g xs) (h0 : 0 ≤ n) (h1 : n < 65536) (hk : xs.length ≤ 900000) :
    Calls Try.prog 27 #[.pointer (some ⟨g, 0, none⟩), .int .u16 n] w (WPost S g (xs ++ be n 2) w) := by
  have H := Lib.hid h
  have HK := Lib.hid hk
  clear h hk
  go_enter Try.func27, Try.ntmps27
  go_wp2_with fail
  refine (wnumber n 2 w H.out (by omega) (by omega) HK.out).mono ?_
  intro e w2 hp
  have HP := Lib.hid hp
  obtain ⟨rfl, -⟩ := hp
  go_wp2_with fail
  go_end0
  exact HP.out
set_option maxRecDepth 100000 in
theorem wfour {S : Nat → Prop} {g : Nat} {xs : List Int} (n : Int) (w : World) (h : IsW S w g xs) (h0 : 0 ≤ n) (h1 : n < 4294967296) (hk : xs.length ≤ 900000) :
    Calls Try.prog 26 #[.pointer (some ⟨g, 0, none⟩), .int .u32 n] w (WPost S g (xs ++ be n 4) w) := by
  have H := Lib.hid h
  have HK := Lib.hid hk
  clear h hk
  go_enter Try.func26, Try.ntmps26
  go_wp2_with fail
  refine (wnumber n 4 w H.out (by omega) (by omega) HK.out).mono ?_
  intro e w2 hp
  have HP := Lib.hid hp
  obtain ⟨rfl, -⟩ := hp
  go_wp2_with fail
  go_end0
  exact HP.out
end Go.Proofs.Ytdlehchofmdjbaa
