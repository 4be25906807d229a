import Derived.Test.YtdlgdlgpmfccmaaSteady
import Derived.Test.YtdlgdlgpmfccmaaBytes
import Derived.Maps.AppendAt
import Derived.Test.YtdlgdlgpmfccmaaChecked
import Derived.Lib.Bytes
namespace Go.Proofs.Ytdlgdlgpmfccmaa
open Go Go.RowKit
set_option linter.unusedVariables false
/-! Of no program. -/
/-- The block of an address. -/
def blk? (A : Option Addr) : Option Nat := A.map (·.block)
theorem row_lt {w : World} {A : Option Addr} {n c base : Nat} {e : TypeId} {s : Nat} {xs : List Value} (h : w.ownsRow base e s (.slice A n c) n xs) {k : Nat} (hk : blk? A = some k) : base ≤ k ∧ k < w.heap.size := World.ownsRow.lt h k (by rw [ownBlock_slice]; exact hk)
theorem Cells.blk {w w' : World} {A : Option Addr} {xs : List Value} (h : Cells w A xs) (hk : ∀ k, blk? A = some k → w'.heap[k]? = w.heap[k]?) : Cells w' A xs := fun hne => by
  obtain ⟨b, o, rfl, hlt, hc⟩ := h hne
  have e := hk b rfl
  refine ⟨b, o, rfl, ?_, fun j u hu => (World.cell?_of_block (w := w) e).trans (hc j u hu)⟩
  have h0 : w.heap[b]? = some w.heap[b] := Array.getElem?_eq_getElem hlt
  rw [h0] at e
  exact (Array.getElem?_eq_some_iff.1 e).1
theorem InB.blk {w w' : World} {A : Option Addr} {n c : Nat} {xs : List Int} (h : InB w A n c xs) (hk : ∀ k, blk? A = some k → w'.heap[k]? = w.heap[k]?) : InB w' A n c xs := ⟨h.cells.blk hk, h.byt, h.cap, h.len⟩
theorem InB.lt {w : World} {A : Option Addr} {n c : Nat} {xs : List Int} (h : InB w A n c xs) (hne : xs ≠ []) {k : Nat} (hk : blk? A = some k) : k < w.heap.size := by
  obtain ⟨b, o, rfl, hlt, _⟩ := h.cells (fun e => hne (by rw [ints, List.map_eq_nil_iff] at e; exact e))
  have e : b = k := by simpa [blk?] using hk
  omega
theorem OwnI.rebase {k : IntKind} {E : TypeId} {B B' : Nat} {w : World} {A : Option Addr} {N c : Nat} {xs : List Int} (h : OwnI k E B w A N c xs) (hb : ∀ q, blk? A = some q → B' ≤ q) : OwnI k E B' w A N c xs := by
  refine ⟨h.1, ?_⟩
  rcases h.2 with h2 | ⟨g, cap, cur, h1, h2, h3⟩
  · exact .inl h2
  · exact .inr ⟨g, cap, cur, h1, hb g (by injection h1 with h1; rw [h1]; rfl), h3⟩
theorem InB.alloc {w : World} {A : Option Addr} {n c : Nat} {xs : List Int} (h : InB w A n c xs) (o : Obj) : InB (w.alloc o) A n c xs := h.up (up_alloc w o)
/-- 'append' onto a row of the call's own, of elements of any size. -/
theorem append_G {P : Program} {w : World} {t ty e : TypeId} {z : Value} {s bytes base n c : Nat} {A : Option Addr} {xs : List Value}
    (ht : P.underlying t = some (.slice e)) (hinfo : (P.info? e).map (fun i => (i.zero, i.size, i.bytes)) = some (some z, s, bytes)) (hz : z.cells.size = s) (hs : 0 < s)
    (h : w.ownsRow base e s (.slice A n c) n xs) (B : Option Addr) (m d : Nat) (news : List Value) (hl : news.length = m * s) (hc : Cells w B news) (h1 : ∀ u ∈ news, u.oneCell' = true)
    (h63 : n + m ≤ 9223372036854775807) (hbytes : (n + m) * bytes ≤ 140737488355328) (hb : base ≤ w.heap.size) :
    ∃ A' c' w', (Builtin.append_ #[t, t] ty #[.slice A n c, .slice B m d]).run P w = .ok (.slice A' (n + m) c') w' ∧ Out (fun k => blk? A = some k) w w' ∧ w'.ownsRow base e s (.slice A' (n + m) c') (n + m) (xs ++ news) ∧ (blk? A' = blk? A ∨ blk? A' = some w.heap.size) := by
  obtain ⟨i, hi, hz0, hz1, hz2⟩ := info_parts hinfo
  cases B with
  | none =>
    have hm : news = [] := by
      cases news with
      | nil => rfl
      | cons x l =>
        obtain ⟨g, o, e, _⟩ := hc (by simp)
        cases e
    subst hm
    have hm0 : m = 0 := by
      have h2 : m * s = 0 := by rw [← hl]; rfl
      rcases Nat.mul_eq_zero.1 h2 with h3 | h3
      · exact h3
      · omega
    subst hm0
    refine ⟨A, c, w, ?_, Out.refl _ _, by simpa using h, .inl rfl⟩
    rcases h.2 with ⟨h1, h2⟩ | ⟨g, cap, cur, hv, _, _, hnc, _⟩
    · injection h1 with h1 h3 h4
      subst h1 h2 h4
      simp [Builtin.append_, run_underlying ht, sizeOf, typeInfo, hi, Builtin.lenOf, Builtin.firstCells]
    · injection hv with hv h3 h4
      subst hv h4
      simp [Builtin.append_, run_underlying ht, sizeOf, typeInfo, hi, Builtin.lenOf, Builtin.firstCells, hnc, storeCells]
  | some ad =>
    have hcells : ∀ j u, news[j]? = some u → w.cell? (ad.add j) = some u := fun j u hu => by
      obtain ⟨g, o, e, _, hh⟩ := hc (by intro h; rw [h] at hu; simp at hu)
      injection e with e
      subst e
      rw [add_flat]
      exact hh j u hu
    obtain ⟨v, w', h1, h2, h3, _, h5⟩ := run_append_own_at (P := P) w base t ty e i z s bytes ht hi hz0 hz1 hz2 hz hs (.slice A n c) n xs h ad m d news hl hcells h1 (by unfold maxLen; exact h63) hbytes hb
    obtain ⟨A', c', rfl⟩ := own_slice h2
    rw [ownBlock_slice, ownBlock_slice] at h5
    refine ⟨A', c', w', h1, ⟨h3.os, h3.tape, h3.output, h3.size, fun k hk hn => h3.block k hk (fun e => hn ?_)⟩, h2, h5⟩
    show A.map (·.block) = some k
    rw [← ownBlock_slice A n c]; exact e.symm
theorem wpList_appendG {P : Program} {w : World} {ops : Array Oper} {rest : List Oper} {o : Oper} {a : Act} {Q : Exit → Act → World → Prop} (hgd : Region.wanted o (yielded ops a.tmps) = true) (s x : Operand) (t : TypeId)
    (ho : o.op = .call { callee := .builtin .append, args := #[s, x], argTypes := #[t, t] }) (base : Nat) (e : TypeId) (z : Value) (sz bytes : Nat) (ht : P.underlying t = some (.slice e))
    (hinfo : (P.info? e).map (fun i => (i.zero, i.size, i.bytes)) = some (some z, sz, bytes)) (hz : z.cells.size = sz) (hsz : 0 < sz)
    (A0 : Option Addr) (n c0 : Nat) (xs : List Value) (hs : a.eval s = .slice A0 n c0) (hown : w.ownsRow base e sz (.slice A0 n c0) n xs)
    (B : Option Addr) (m d : Nat) (news : List Value) (hx : a.eval x = .slice B m d) (hl : news.length = m * sz) (hc : Cells w B news) (h1 : ∀ u ∈ news, u.oneCell' = true)
    (h63 : n + m ≤ 9223372036854775807) (hbytes : (n + m) * bytes ≤ 140737488355328) (hb : base ≤ w.heap.size)
    (h : ∀ A' N c' w', Hid (N = n + m) → Hid (w'.ownsRow base e sz (.slice A' N c') N (xs ++ news)) → Hid (Out (fun k => blk? A0 = some k) w w') → Hid (blk? A' = blk? A0 ∨ blk? A' = some w.heap.size) → wpList P ops Q rest (a.put o.dst (.slice A' N c')) w') : wpList P ops Q (o :: rest) a w := by
  refine wpList_wanted hgd fun K hK => ?_
  obtain ⟨A', c', w', hrun, h2, h3, h4⟩ := append_G (ty := o.type) ht hinfo hz hsz hown B m d news hl hc h1 h63 hbytes hb
  unfold Oper.wp execOp
  simp only [ho, resolve, invoke, builtin, Sem.run_bind, Sem.run_pure, Result.andThen_ok, List.map_toArray, List.map_cons, List.map_nil, hs, hx, hrun]
  exact hK _ _ (h A' (n + m) c' w' rfl h3 h2 h4)
/-- How much is missing to a multiple of 4. -/
def padN (n : Nat) : Nat := (4 - n % 4) % 4
/-- Bytes, and their zero bytes behind. -/
def padL (xs : List Int) : List Int := xs ++ List.replicate (padN xs.length) 0
theorem byt_padL {xs : List Int} (h : Byt xs) : Byt (padL xs) := h.append (by intro x hx; rw [List.mem_replicate] at hx; omega)
end Go.Proofs.Ytdlgdlgpmfccmaa
namespace Go.Proofs.Ytdlgdlgpmfccmaa
open Go Go.RowKit
set_option linter.unusedVariables false
theorem winfo5 : (Try.prog.info? 5).map (fun i => (i.zero, i.size, i.bytes)) = some (some (.int .u8 0), 1, 1) := by kernel_rfl
theorem wsize5 : (Try.prog.info? 5).map (·.size) = some 1 := by kernel_rfl
/-- make([]byte, n). -/
theorem make_bytes (n : Nat) (hn : n ≤ 281474976710656) (N : Int) (hN : N = (n : Int)) (W : World) : (Instr.makeSlice 26 (.int .i64 N) (.int .i64 N)).run Try.prog W =
    .ok (.slice (some ⟨W.heap.size, 0, none⟩) n n) (W.alloc (.cells (List.replicate n (.int .u8 0)).toArray 5)) := by
  subst hN
  obtain ⟨i0, hi, hz0, hz1, hz2⟩ := info_parts winfo5
  have h := run_make (P := Try.prog) W 26 5 i0 (.int .u8 0) Try.underlying26 hi hz0 .i64 .i64 n n (by omega) (Int.le_refl _) (by rw [hz2]; omega) (by omega)
  have e : madeCells (Value.int .u8 0).cells (n * 1) = (List.replicate n (.int .u8 0)).toArray := by
    apply Array.toList_inj.1
    show (madeCells #[Value.int .u8 0] (n * 1)).toList = _
    rw [toList_madeCells_one]; simp
  rw [hz1] at h
  simp only [Int.toNat_natCast] at h
  rw [e] at h
  exact h
theorem splice_zero (n k : Nat) (xs : List Value) (z : Value) (hn : xs.length = n) : splice (List.replicate (n + k) z) 0 xs = xs ++ List.replicate k z := by
  subst hn; simp [splice]
set_option maxHeartbeats 400000 in
theorem ext_any (A : Option Addr) (n c k : Nat) (xs : List Value) (w : World) (hn : xs.length = n) (hr : Cells w A xs) (h1 : ∀ u ∈ xs, u.oneCell' = true) (hk : n + k ≤ 281474976710656) :
    Calls Try.prog 23 #[.slice A n c, .int .i64 (k : Int)] w fun e w' => e = .returned (.slice (some ⟨w.heap.size, 0, none⟩) (n + k) (n + k)) ∧ Hid (w'.heap[w.heap.size]? = some (.cells (xs ++ List.replicate k (Value.int .u8 0)).toArray 5 (0, 0))) ∧ Below w.heap.size w w' := by
  have hmk := make_bytes (n + k) hk (↑n + ↑k) (by omega)
  have HN := Lib.hid hn
  clear hn
  go_enter Try.func23, Try.ntmps23
  go_wp2_with (with_reducible refine wpList_copy_splice rfl (.tmp 11) (.tmp 12) 26 26 rfl 5 Try.underlying26 wsize5 (some ⟨w.heap.size, 0, none⟩) A (n + k) (n + k) n c rfl rfl w.heap.size 0 (List.replicate (n + k) (.int .u8 0)) 5 (heap_alloc_new w _) xs (by rw [HN.out]; simp) ?hpos (by rw [HN.out]; simp) h1 w.heap.size w ((Below.refl _ _).alloc (Nat.le_refl _) _) (Nat.le_refl _) ?_)
  case hpos =>
    intro hp
    obtain ⟨b, o, e, hlt, hc⟩ := hr (by intro hx; rw [hx] at hp; simp at hp)
    exact ⟨⟨b, o, none⟩, e, fun j u hu => by rw [add_flat, World.cell?_alloc_lt _ _ ⟨b, o + j, none⟩ hlt]; exact hc j u hu⟩
  intro w2 hrow hbel
  go_wp2
  go_ret
  have hs := hrow.out
  rw [splice_zero n k xs _ HN.out] at hs
  exact ⟨rfl, hs, hbel⟩
theorem ownI_row {w0 w' : World} {ns : List Int} {m : Nat} (hm : ns.length = m) (h63 : m ≤ maxLen) (h : w'.heap[w0.heap.size]? = some (.cells (ints .u8 ns).toArray 5 (0, 0))) :
    OwnI .u8 5 w0.heap.size w' (some ⟨w0.heap.size, 0, none⟩) m m ns := by
  subst hm
  exact ⟨by simp [ints], .inr ⟨_, _, _, rfl, Nat.le_refl _, h, Nat.le_refl _, h63, by simp [ints], by simp only [Nat.mul_one]; exact List.take_of_length_le (by simp [ints])⟩⟩
theorem size_yes (s : Nat) (w : World) (h1 : 1 ≤ s) (h8 : s ≤ 8) : Calls Try.prog 22 #[.int .i64 (s : Int)] w fun e w' => e = .returned (.bool true) ∧ w = w' := by
  have a1 : (1 : Int) ≤ (s : Int) := by omega
  have a8 : (s : Int) ≤ 8 := by omega
  go_enter Try.func22, Try.ntmps22
  go_wp2
  go_ret
  exact ⟨rfl, rfl⟩
theorem prow_start {w' : World} {g s : Nat} {xs : List Int} {n : Int} (h : w'.heap[g]? = some (.cells (ints .u8 xs ++ List.replicate s (Value.int .u8 0)).toArray 5 (0, 0))) :
    Hid (w'.heap[g]? = some (.cells (ints .u8 (xs ++ List.replicate (s - 0) 0 ++ be n 0)).toArray 5 (0, 0))) := by
  show w'.heap[g]? = _
  rw [h]; simp [ints, be]
theorem put_at {xs ys : List Int} {m s j : Nat} (hm : xs.length = m) (hj : j < s) : (ints .u8 (xs ++ List.replicate (s - j) 0 ++ ys))[m + s - 1 - j]? = some (.int .u8 0) := by
  subst hm
  have h1 : xs.length + s - 1 - j = xs.length + (s - 1 - j) := by omega
  rw [h1, ints, List.append_assoc, List.map_append, List.getElem?_append_right (by simp)]
  simp only [List.length_map, Nat.add_sub_cancel_left, List.map_append]
  rw [List.getElem?_append_left (by simp; omega), List.getElem?_map, List.getElem?_replicate, if_pos (by omega)]
  rfl
theorem put_cell {wr : World} {g m s j : Nat} {xs : List Int} {n : Int} (h : wr.heap[g]? = some (.cells (ints .u8 (xs ++ List.replicate (s - j) 0 ++ be n j)).toArray 5 (0, 0))) (hm : xs.length = m) (hj : j < s) :
    wr.cell? ⟨g, m + s - 1 - j, none⟩ = some (.int .u8 0) := by
  rw [cell_of_row wr g _ _ 5 (0, 0) h]
  simpa using put_at hm hj
theorem put_free {wr : World} {g k : Nat} {cs : Array Value} (h : wr.heap[g]? = some (.cells cs 5 (0, 0))) : wr.frozen? ⟨g, k, none⟩ = false := frozen_of_row wr g k cs 5 h
theorem put_store {wr : World} {g m s j : Nat} {xs : List Int} {n : Int} (h : wr.heap[g]? = some (.cells (ints .u8 (xs ++ List.replicate (s - j) 0 ++ be n j)).toArray 5 (0, 0))) (hm : xs.length = m) (hj : j < s) :
    Hid ((wr.setCell ⟨g, m + s - 1 - j, none⟩ (.int .u8 (n / 2 ^ (8 * j) % 256))).heap[g]? = some (.cells (ints .u8 (xs ++ List.replicate (s - (j + 1)) 0 ++ be n (j + 1))).toArray 5 (0, 0))) := by
  show _ = _
  rw [heap_setCell_same wr g _ _ 5 _ h]
  congr 2
  apply Array.toList_inj.1
  subst hm
  rw [Array.toList_setIfInBounds]
  simp only [ints]
  rw [show xs.length + s - 1 - j = xs.length + (s - 1 - j) by omega, show s - j = (s - (j + 1)) + 1 by omega, List.replicate_succ', be]
  rw [List.append_assoc, List.append_assoc, List.append_assoc, List.map_append, List.map_append, List.map_append, List.map_append]
  rw [List.set_append_right _ _ (by simp), List.set_append_right _ _ (by simp only [List.length_map, List.length_replicate]; omega)]
  simp
  have : s - 1 - j - (s - (j + 1)) = 0 := by omega
  rw [this]; simp
/-- wire.Put: b and the s lowest bytes behind it, all of the call's own. -/
def WPut (w : World) (ys : List Int) (e : Ending) (w' : World) : Prop := ∃ A N c, e = .returned (.slice A N c) ∧ N = ys.length ∧ OwnI .u8 5 w.heap.size w' A N c ys ∧ Up w w'
set_option maxHeartbeats 400000 in
theorem put_any (A : Option Addr) (m c s : Nat) (xs : List Int) (n : Int) (w : World) (h : InB w A m c xs) (hk : m + s ≤ 281474976710656) (hs1 : 1 ≤ s) (hs8 : s ≤ 8) :
    Calls Try.prog 14 #[.slice A m c, .int .u64 n, .int .i64 (s : Int)] w (WPut w (xs ++ be n s)) := by
  have HM := Lib.hid h.len
  have h1 : (1 : Int) ≤ (s : Int) := by omega
  have h8 : (s : Int) ≤ 8 := by omega
  have HL := Lib.hid (show (ints .u8 xs).length = m by simp [ints, HM.out])
  have HR := Lib.hid h.cells
  have HO := Lib.hid (ints_one .u8 xs)
  clear h
  go_enter Try.func14, Try.ntmps14
  go_wp2_with (first
    | (go_at_call 22; refine (size_yes s _ hs1 hs8).mono ?_; rintro e w' ⟨rfl, rfl⟩)
    | (go_at_call 23; refine (ext_any A m c s (ints .u8 xs) _ HL.out HR.out HO.out hk).mono ?_; rintro e w' ⟨rfl, hrow, hbel⟩))
  clear HR HO
  have HB := Lib.hid hbel
  clear hbel
  go_loopw [18] (fun i wr => ∃ j : Nat, j ≤ s ∧ i = .int .i64 j ∧ Hid (wr.heap[w.heap.size]? = some (.cells (ints .u8 (xs ++ List.replicate (s - j) 0 ++ be n j)).toArray 5 (0, 0))) ∧ Below w.heap.size w wr) (fun i _ => s - (intOf i).toNat)
  case atStart => exact ⟨0, Nat.zero_le _, rfl, prow_start hrow.out, HB.out⟩
  case round =>
    obtain ⟨j, hj, rfl, hw, hb⟩ := hrel
    by_cases hlt : j < s
    · have hcell := put_cell hw.out HM.out hlt
      have hfr := put_free (k := m + s - 1 - j) hw.out
      go_wp2
      go_roundw
      case rel => exact ⟨j + 1, by omega, by go_num, put_store hw.out HM.out hlt, (hb.setCell (Nat.le_refl _) _)⟩
      case measure => simp [intOf]; omega
    · obtain rfl : j = s := by omega
      go_wp2
      go_ret
      have hq := hw.out
      rw [Nat.sub_self, List.replicate_zero, List.append_nil] at hq
      exact ⟨_, _, _, rfl, by rw [List.length_append, be_length, HM.out], ownI_row (by rw [List.length_append, be_length, HM.out]) (by unfold maxLen; omega) hq, hb⟩
theorem or_byte (v x : Int) (h0 : 0 ≤ v) (h1 : v < 72057594037927936) (h2 : 0 ≤ x) (h3 : x < 256) : bits .or .u64 (IntKind.u64.wrap (v * 256)) (IntKind.u64.wrap x) = v * 256 + x := by
  rw [IntKind.wrap_u64, IntKind.wrap_u64, Int.emod_eq_of_lt (by omega) (by omega), Int.emod_eq_of_lt h2 (by omega)]
  obtain ⟨n, rfl⟩ := Int.eq_ofNat_of_zero_le h0
  obtain ⟨y, rfl⟩ := Int.eq_ofNat_of_zero_le h2
  have e1 : ((n : Int) * 256) = ((n * 256 : Nat) : Int) := by omega
  rw [e1, u64_or_nat _ _ (by omega) (by omega)]
  have := Nat.two_pow_add_eq_or_of_lt (show y < 2 ^ 8 by omega) n
  rw [show n * 256 = 2 ^ 8 * n by omega, ← this]
  omega
theorem get_step {xs : List Int} {a j s m : Nat} (hb : ∀ x ∈ xs, 0 ≤ x ∧ x < 256) (hm : xs.length = m) (hj : j < s) (hs : s ≤ 8) (ha : a + s ≤ m) :
    bits .or .u64 (IntKind.u64.wrap (num 0 ((xs.drop a).take j) * 256)) (IntKind.u64.wrap (xs[a + j]?.getD 0)) = num 0 ((xs.drop a).take (j + 1)) := by
  have hlt : a + j < xs.length := by omega
  have hlen : ((xs.drop a).take j).length = j := by simp; omega
  have hn := num_bd ((xs.drop a).take j) (fun x hx => hb x (List.mem_of_mem_drop (List.mem_of_mem_take hx)))
  rw [hlen] at hn
  have hp : (256 : Int) ^ j ≤ 72057594037927936 := by
    match j, (show j < 8 by omega) with
    | 0, _ => decide
    | 1, _ => decide
    | 2, _ => decide
    | 3, _ => decide
    | 4, _ => decide
    | 5, _ => decide
    | 6, _ => decide
    | 7, _ => decide
  have hx := hb xs[a + j] (List.getElem_mem hlt)
  rw [List.getElem?_eq_getElem hlt, Option.getD_some, or_byte _ _ hn.1 (by omega) hx.1 hx.2, List.take_succ_eq_append_getElem (by simp; omega), num_snoc]
  simp
theorem get_cell {w : World} {b o a j m : Nat} {xs : List Int} (hc : ∀ (k : Nat) (u : Value), (ints .u8 xs)[k]? = some u → w.cell? ⟨b, o + k, none⟩ = some u) (hm : xs.length = m) (h : a + j < m) : w.cell? ⟨b, o + (a + j), none⟩ = some (.int .u8 (xs.getD (a + j) 0)) := by
  refine hc _ _ ?_
  have : a + j < xs.length := by omega
  simp [ints, List.getD, this]
theorem reaches_any (A : Option Addr) (m c : Nat) (at_ n : Int) (b : Bool) (w : World) (hm : (m : Int) ≤ 9223372036854775807) (h0 : 0 ≤ at_) (h1 : at_ ≤ 9223372036854775807) (hb : decide (n ≤ (m : Int) - at_) = b) :
    Calls Try.prog 32 #[.slice A m c, .int .i64 at_, .int .i64 n] w fun e w' => e = .returned (.bool b) ∧ w = w' := by
  go_enter Try.func32, Try.ntmps32
  go_wp2
  go_ret
  exact ⟨by rw [← hb]; rfl, rfl⟩
set_option maxHeartbeats 400000 in
theorem get_any (A : Option Addr) (m c a s : Nat) (xs : List Int) (w : World) (h : InB w A m c xs) (hk : m ≤ 140737488355328) (ha : a + s ≤ m) (hs1 : 1 ≤ s) (hs8 : s ≤ 8) :
    Calls Try.prog 27 #[.slice A m c, .int .i64 (a : Int), .int .i64 (s : Int)] w fun e w' => e = .returned (.tuple #[.int .u64 (num 0 ((xs.drop a).take s)), .int .i64 0]) ∧ w = w' := by
  have h63 : (m : Int) ≤ 9223372036854775807 := by omega
  have ha0 : decide ((a : Int) < 0) = false := by simp
  obtain ⟨b, o, rfl, hlt, hc⟩ := h.cells (by intro e; have := h.len; rw [ints, List.map_eq_nil_iff] at e; subst e; simp at this; omega)
  have HC := Lib.hid hc
  have HM := Lib.hid h.len
  have HB := Lib.hid h.byt
  clear h hc
  go_enter Try.func27, Try.ntmps27
  go_wp2_with (first
    | (go_at_call 22; refine (size_yes s _ hs1 hs8).mono ?_; rintro e w' ⟨rfl, rfl⟩)
    | (go_at_call 32; refine (reaches_any _ m c a s true _ h63 (by omega) (by omega) (by simp; omega)).mono ?_; rintro e w' ⟨rfl, rfl⟩))
  go_loop [8, 23] (fun v i => ∃ j : Nat, j ≤ s ∧ i = .int .i64 j ∧ v = .int .u64 (num 0 ((xs.drop a).take j))) (fun _ i => s - (intOf i).toNat)
  case atStart => exact ⟨0, Nat.zero_le _, rfl, rfl⟩
  case round =>
    obtain ⟨j, hj, rfl, rfl⟩ := hrel
    by_cases hjs : j < s
    · have hcell := get_cell HC.out HM.out (show a + j < m by omega)
      go_wp2
      go_round
      case rel => exact ⟨j + 1, by omega, by go_num, by rw [get_step HB.out HM.out hjs hs8 ha]⟩
      case measure => simp [intOf]; omega
    · obtain rfl : j = s := by omega
      go_wp2
      go_ret2
      exact ⟨rfl, rfl⟩
theorem get_short (A : Option Addr) (m c a s : Nat) (w : World) (hk : m ≤ 140737488355328) (ha : m < a + s) (ha2 : a ≤ 140737488355328) (hs1 : 1 ≤ s) (hs8 : s ≤ 8) :
    Calls Try.prog 27 #[.slice A m c, .int .i64 (a : Int), .int .i64 (s : Int)] w fun e w' => e = .returned (.tuple #[.int .u64 0, .int .i64 3]) ∧ w = w' := by
  have h63 : (m : Int) ≤ 9223372036854775807 := by omega
  have ha0 : decide ((a : Int) < 0) = false := by simp
  go_enter Try.func27, Try.ntmps27
  go_wp2_with (first
    | (go_at_call 22; refine (size_yes s _ hs1 hs8).mono ?_; rintro e w' ⟨rfl, rfl⟩)
    | (go_at_call 32; refine (reaches_any _ m c a s false _ h63 (by omega) (by omega) (by simp; omega)).mono ?_; rintro e w' ⟨rfl, rfl⟩))
  go_ret2
  exact ⟨rfl, rfl⟩
end Go.Proofs.Ytdlgdlgpmfccmaa
namespace Go.Proofs.Ytdlgdlgpmfccmaa
open Go Go.RowKit
set_option linter.unusedVariables false
theorem info5 : (Try.prog.info? 5).map (fun i => (i.zero, i.size, i.bytes)) = some (some (.int .u8 0), 1, 1) := by kernel_rfl
set_option maxHeartbeats 400000 in
theorem rpart_ok (A : Option Addr) (m c a n : Nat) (xs : List Int) (w : World) (h : InB w A m c xs) (hk : m ≤ 140737488355328) (ha : a + n ≤ m) :
    Calls Try.prog 28 #[.slice A m c, .int .i64 (a : Int), .int .i64 (n : Int)] w fun e w' => ∃ A' N c', e = .returned (.tuple #[.slice A' N c', .int .i64 0]) ∧ N = n ∧ OwnI .u8 5 w.heap.size w' A' N c' ((xs.drop a).take n) ∧ Up w w' := by
  have HC := Lib.hid (show Cells w (A.map (·.add a)) (ints .u8 ((xs.drop a).take n)) by have := h.cells.cut a n; simpa [ints, List.map_take, List.map_drop] using this)
  have HL := Lib.hid (show ((xs.drop a).take n).length = n by simp [h.len]; omega)
  have ha0 : decide ((a : Int) < 0) = false := by simp
  have hn0 : decide ((n : Int) < 0) = false := by simp
  have g1 : decide ((m : Int) < (a : Int)) = false := by simp; omega
  have g2 : decide ((m : Int) - (a : Int) < (n : Int)) = false := by simp; omega
  have hcap := h.cap
  have hmi : (m : Int) ≤ 140737488355328 := by omega
  clear h
  by_cases hca : c = a
  · subst hca
    obtain rfl : n = 0 := by omega
    obtain rfl : m = c := by omega
    have HC' := Lib.hid (show Cells w A (ints .u8 ((xs.drop m).take 0)) by simpa [ints] using Cells.nil w A)
    go_enter Try.func28, Try.ntmps28
    go_wp2_with (at_builtin; refine wpList_appendI rfl (.tmp 26) (.tmp 32) 26 rfl .u8 w.heap.size 5 1 Try.underlying26 info5 (some ⟨w.heap.size, 0, none⟩) 0 0 [] rfl (ownI_new _ _ _) A 0 0 ((xs.drop m).take 0) rfl HL.out (HC'.out.alloc _) (by omega) (by omega) (by simp) ((Below.refl _ _).alloc (Nat.le_refl _) _) ?_; intro A' N c' w' HN HW HB hsz)
    go_ret2
    exact ⟨A', N, c', rfl, by have := HN.out; omega, by have := HW.out; rw [List.nil_append] at this; exact this, HB.out⟩
  · go_enter Try.func28, Try.ntmps28
    go_wp2_with (at_builtin; refine wpList_appendI rfl (.tmp 26) (.tmp 32) 26 rfl .u8 w.heap.size 5 1 Try.underlying26 info5 (some ⟨w.heap.size, 0, none⟩) 0 0 [] rfl (ownI_new _ _ _) (A.map (·.add a)) (a + n - a) (c - a) ((xs.drop a).take n) rfl (by rw [HL.out]; omega) (HC.out.alloc _) (by omega) (by omega) (by simp) ((Below.refl _ _).alloc (Nat.le_refl _) _) ?_; intro A' N c' w' HN HW HB hsz)
    go_ret2
    exact ⟨A', N, c', rfl, by have := HN.out; omega, by have := HW.out; rw [List.nil_append] at this; exact this, HB.out⟩
theorem get_num {l : List Int} {x : Int} (hb : Byt l) (hl : l.length < 8) (hx : 0 ≤ x ∧ x < 256) : IntKind.u64.wrap (IntKind.u64.wrap (num 0 l * 256) + x) = num 0 (l ++ [x]) := by
  have h1 := num_u64 (l ++ [x]) (hb.append (by intro y hy; simp at hy; subst hy; exact hx)) (by simp; omega)
  rw [num_snoc] at h1 ⊢
  have h2 := num_u64 l hb (by omega)
  rw [IntKind.wrap_u64, IntKind.wrap_u64]
  omega
set_option maxHeartbeats 400000 in
theorem rget_ok (A : Option Addr) (m c a s : Nat) (xs : List Int) (w : World) (h : InB w A m c xs) (hk : m ≤ 140737488355328) (ha : a + s ≤ m) (hs1 : 1 ≤ s) (hs8 : s ≤ 8) :
    Calls Try.prog 21 #[.slice A m c, .int .i64 (a : Int), .int .i64 (s : Int)] w fun e w' => e = .returned (.tuple #[.int .u64 (num 0 ((xs.drop a).take s)), .int .i64 0]) ∧ Up w w' := by
  have h1 : (1 : Int) ≤ (s : Int) := by omega
  have h8 : (s : Int) ≤ 8 := by omega
  have ha0 : (0 : Int) ≤ (a : Int) := by omega
  have H := Lib.hid h
  have HY := Lib.hid ((h.byt.drop a).take s)
  clear h
  go_enter Try.func21, Try.ntmps21
  go_wp2_with fail
  refine (rpart_ok A m c a s xs _ H.out hk ha).mono ?_
  rintro e w1 ⟨A', N, c', rfl, hN, hO, hu⟩
  have HO := Lib.hid hO
  have HU := Lib.hid hu
  subst hN
  clear hO hu
  obtain ⟨g, rfl, g1, g2⟩ := HO.out.at_ (by omega)
  go_wp2_with fail
  go_loop [10, 11] (fun v i => ∃ k : Nat, k ≤ N ∧ i = .int .i64 k ∧ v = .int .u64 (num 0 (((xs.drop a).take N).take k))) (fun _ i => N - (intOf i).toNat)
  case atStart => exact ⟨0, Nat.zero_le _, rfl, rfl⟩
  case round =>
    obtain ⟨k, hk1, rfl, rfl⟩ := hrel
    by_cases hlt : k < N
    · obtain ⟨x, hx⟩ : ∃ x, ((xs.drop a).take N)[k]? = some x := ⟨_, List.getElem?_eq_getElem (by rw [HO.out.len]; exact hlt)⟩
      have hcell := HO.out.cellAt hx
      have hxb := HY.out x (List.mem_of_getElem? hx)
      have hnum := get_num (l := ((xs.drop a).take N).take k) (HY.out.take k) (by rw [List.length_take, HO.out.len]; omega) hxb
      have hst := Lib.hid (show ((xs.drop a).take N).take (k + 1) = ((xs.drop a).take N).take k ++ [x] by
        obtain ⟨hl, he⟩ := List.getElem?_eq_some_iff.1 hx
        rw [List.take_succ_eq_append_getElem hl, he])
      have b1 := hxb.1
      have b2 := hxb.2
      have HNM := Lib.hid hnum
      clear hx hnum hxb
      go_wp2
      go_round
      case rel => exact ⟨k + 1, by omega, by go_num, by rw [HNM.out, hst.out]⟩
      case measure => simp [intOf]; omega
    · obtain rfl : k = N := by omega
      have hfull := Lib.hid (show ((xs.drop a).take k).take k = (xs.drop a).take k from List.take_of_length_le (by rw [List.length_take]; omega))
      go_wp2
      go_ret2
      refine ⟨?_, HU.out⟩
      conv => rhs; rw [← hfull.out]
      rfl
theorem rnum_ok (A : Option Addr) (m c a s : Nat) (xs : List Int) (w : World) (h : InB w A m c xs) (hk : m ≤ 140737488355328) (ha : a + s ≤ m) (hs1 : 1 ≤ s) (hs8 : s ≤ 7) :
    Calls Try.prog 20 #[.slice A m c, .int .i64 (a : Int), .int .i64 (s : Int)] w fun e w' => e = .returned (.int .i64 (num 0 ((xs.drop a).take s))) ∧ Up w w' := by
  have H := Lib.hid h
  have hb := num_bd ((xs.drop a).take s) ((h.byt.drop a).take s)
  have hl : ((xs.drop a).take s).length = s := by simp [h.len]; omega
  rw [hl] at hb
  have hp : (256 : Int) ^ s ≤ 256 ^ 7 := by
    match s, hs8 with
    | 0, _ => decide
    | 1, _ => decide
    | 2, _ => decide
    | 3, _ => decide
    | 4, _ => decide
    | 5, _ => decide
    | 6, _ => decide
    | 7, _ => decide
  have b1 := hb.1
  have b2 : num 0 ((xs.drop a).take s) ≤ 9223372036854775807 := by
    have : (256 : Int) ^ 7 = 72057594037927936 := by decide
    omega
  clear h hb hl hp
  go_enter Try.func20, Try.ntmps20
  go_wp2_with fail
  refine (rget_ok A m c a s xs _ H.out hk ha hs1 (by omega)).mono ?_
  rintro e w1 ⟨rfl, hu⟩
  go_wp2_with fail
  go_ret
  exact ⟨rfl, hu⟩
end Go.Proofs.Ytdlgdlgpmfccmaa
namespace Go.Proofs.Ytdlgdlgpmfccmaa
open Go Go.RowKit
set_option linter.unusedVariables false
set_option linter.unusedSimpArgs false
/-! The reference's SameChunk, SameHello, SamePiece. -/
theorem conv_up {A : Option Addr} {n c : Nat} {xs : List Int} {w w' : World} (h : InB w A n c xs) (hu : Up w w') : (convert 26 9 (.slice A n c)).run Try.prog w' = .ok (.string (strOfNums xs)) w' := conv_I (P := Try.prog) Try.underlying26 Try.underlying5 Try.underlying9 (h.up hu).isI
theorem map_u8 : ∀ {xs ys : List Int}, Byt xs → Byt ys → xs.map (fun n => UInt8.ofNat n.toNat) = ys.map (fun n => UInt8.ofNat n.toNat) → xs = ys
  | [], [], _, _, _ => rfl
  | [], _ :: _, _, _, h => by simp at h
  | _ :: _, [], _, _, h => by simp at h
  | x :: xs, y :: ys, hx, hy, h => by
    simp only [List.map_cons, List.cons.injEq] at h
    have h1 := hx x (by simp)
    have h2 := hy y (by simp)
    have h3 := congrArg UInt8.toNat h.1
    simp only [UInt8.toNat_ofNat'] at h3
    have h4 : x = y := by omega
    rw [h4, map_u8 (fun z hz => hx z (by simp [hz])) (fun z hz => hy z (by simp [hz])) h.2]
theorem str_eq {xs ys : List Int} (hx : Byt xs) (hy : Byt ys) : ((strOfNums xs).toList == (strOfNums ys).toList) = decide (xs = ys) := by
  by_cases h : xs = ys
  · subst h; simp
  · rw [decide_eq_false h, beq_eq_false_iff_ne]
    intro e
    rw [Lib.strOfNums_toList, Lib.strOfNums_toList] at e
    exact h (map_u8 hx hy e)
def RetB (b : Bool) (w : World) (e : Ending) (w' : World) : Prop := e = .returned (.bool b) ∧ Hid (Up w w')
end Go.Proofs.Ytdlgdlgpmfccmaa
