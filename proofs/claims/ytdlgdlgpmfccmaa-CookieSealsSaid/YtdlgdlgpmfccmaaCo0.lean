import Derived.Test.YtdlgdlgpmfccmaaCk0
import Derived.Test.YtdlgdlgpmfccmaaCrcC6
import Derived.StillTailTactics
import Derived.Deep.DeepCutAuto
namespace Go.Proofs.Ytdlgdlgpmfccmaa
open Go Go.RowKit
set_option linter.unusedVariables false
set_option linter.unusedSimpArgs false
/-! The reference's Put. -/
/-- A call answers bytes of its own, and nothing that was there has turned. -/
def NewB (w : World) (ys : List Int) (e : Ending) (w' : World) : Prop := ∃ A N c, e = .returned (.slice A N c) ∧ N = ys.length ∧ OwnI .u8 5 w.heap.size w' A N c ys ∧ Up w w'
set_option maxHeartbeats 400000 in
theorem rput (A : Option Addr) (m c : Nat) (s : Nat) (xs : List Int) (n : Int) (w : World) (h : InB w A m c xs) (hk : m + s ≤ 140737488355328) (hs1 : 1 ≤ s) (hs8 : s ≤ 8) :
    Calls Try.prog 17 #[.slice A m c, .int .u64 n, .int .i64 (s : Int)] w (NewB w (xs ++ be n s)) := by
  have h1 : (1 : Int) ≤ (s : Int) := by omega
  have h8 : (s : Int) ≤ 8 := by omega
  have H := Lib.hid h
  clear h
  go_enter Try.func17, Try.ntmps17
  go_wp2_with (at_builtin; refine wpList_appendI rfl (.tmp 9) (.tmp 10) 26 rfl .u8 w.heap.size 5 1 Try.underlying26 info5 (some ⟨w.heap.size, 0, none⟩) 0 0 [] rfl (ownI_new _ _ _) A m c xs rfl H.out.len (H.out.cells.alloc _) (by omega) (by omega) (by simp) ((Below.refl _ _).alloc (Nat.le_refl _) _) ?_; intro A' N c' w' HN HW HB hsz)
  have HW2 : Hid (OwnI .u8 5 w.heap.size w' A' N c' xs) := by have := HW.out; rw [List.nil_append] at this; exact this
  have hN : N = m := by have := HN.out; omega
  have HNN := Lib.hid hN
  clear hN HN HW hsz
  go_loopw [7, 8] (fun v i wr => ∃ (t : Nat) (ys : List Int) (A1 : Option Addr) (N1 c1 : Nat), t ≤ s ∧ i = .int .i64 ((t : Int) - 1) ∧ Hid (ys ++ be n t = xs ++ be n s) ∧ v = .slice A1 N1 c1 ∧ Hid (OwnI .u8 5 w.heap.size wr A1 N1 c1 ys) ∧ Hid (Below w.heap.size w wr) ∧ Hid (N1 + t = m + s)) (fun _ i _ => (intOf i + 1).toNat)
  case atStart => exact ⟨s, xs, A', N, c', Nat.le_refl _, by go_num, Lib.hid rfl, rfl, HW2, HB, Lib.hid (by rw [HNN.out])⟩
  case round =>
    obtain ⟨t, ys, A1, N1, c1, ht, hi, hys, rfl, hw, hb, hlen⟩ := hrel
    have hsz : w.heap.size ≤ wr.heap.size := hb.out.size
    cases t with
    | zero =>
      obtain rfl : u8 = Value.int .i64 (-1) := by rw [hi]; rfl
      go_wp2
      go_ret
      have e := hys.out
      simp only [be, List.append_nil] at e
      subst e
      exact ⟨_, _, _, rfl, hw.out.len.symm, hw.out, hb.out⟩
    | succ r =>
      obtain rfl : u8 = Value.int .i64 (r : Int) := by rw [hi]; go_num
      go_wp2_with (at_builtin; refine wpList_appendI rfl (.tmp 25) (.tmp 32) 26 rfl .u8 w.heap.size 5 1 Try.underlying26 info5 A1 N1 c1 ys rfl (hw.out.alloc _) (some ⟨wr.heap.size, 0, none⟩) 1 1 [n / 2 ^ (8 * r) % 256] rfl rfl (cells_new _ _ _ _ rfl) (by have := hlen.out; omega) (by have := hlen.out; omega) (by simp; omega) (hb.out.alloc hsz _) ?_; intro A2 N2 c2 w2 HN2 HW2' HB2 hsz2)
      go_roundw
      case rel => exact ⟨r, ys ++ [n / 2 ^ (8 * r) % 256], A2, N2, c2, by omega, by go_num, Lib.hid (be_step hys.out), rfl, HW2', HB2, Lib.hid (by have := HN2.out; have := hlen.out; omega)⟩
      case measure => simp [intOf]
end Go.Proofs.Ytdlgdlgpmfccmaa
namespace Go.Proofs.Ytdlgdlgpmfccmaa
open Go Go.RowKit
set_option linter.unusedVariables false
set_option linter.unusedSimpArgs false
/-! What a cookie says; its bytes. -/
/-- What a cookie says. -/
structure Cr where
  t : Int
  a : Int
  b : Int
  c : Int
  d : Int
  e : Int
  f : Int
  g : Int
namespace Cr
def zero : Cr := ⟨0, 0, 0, 0, 0, 0, 0, 0⟩
def cells (x : Cr) : Array Value := #[.int .i64 x.t, .int .u32 x.a, .int .u32 x.b, .int .u32 x.c, .int .u32 x.d, .int .u32 x.e, .int .u32 x.f, .int .u32 x.g]
def val (x : Cr) : Value := .agg x.cells
/-- Its numbers fit their kinds. -/
structure Ok (x : Cr) : Prop where
  t : -9223372036854775808 ≤ x.t ∧ x.t < 9223372036854775808
  a : 0 ≤ x.a ∧ x.a < 4294967296
  b : 0 ≤ x.b ∧ x.b < 4294967296
  c : 0 ≤ x.c ∧ x.c < 4294967296
  d : 0 ≤ x.d ∧ x.d < 4294967296
  e : 0 ≤ x.e ∧ x.e < 4294967296
  f : 0 ≤ x.f ∧ x.f < 4294967296
  g : 0 ≤ x.g ∧ x.g < 4294967296
/-- It may be sealed. -/
def fit (x : Cr) : Prop := (0 ≤ x.t ∧ x.t ≤ 1099511627776) ∧ (x.a ≠ 0 ∧ x.b ≠ 0)
instance (x : Cr) : Decidable x.fit := by unfold fit; exact inferInstance
/-- The bytes ahead of the sum. -/
def body (x : Cr) : List Int := ((((((be x.t 8 ++ be x.a 4) ++ be x.b 4) ++ be x.c 4) ++ be x.d 4) ++ be x.e 4) ++ be x.f 4) ++ be x.g 4
theorem body_length (x : Cr) : x.body.length = 36 := by simp [body, be_length]
theorem byt_body (x : Cr) : Byt x.body := (((((((be_byt _ _).append (be_byt _ _)).append (be_byt _ _)).append (be_byt _ _)).append (be_byt _ _)).append (be_byt _ _)).append (be_byt _ _)).append (be_byt _ _)
/-- The sum of bytes under a key. -/
def sum (key : Int) (xs : List Int) : Nat := Crc.more 0 (nats (be key 8 ++ (xs ++ be key 8)))
theorem sum_lt {key : Int} {xs : List Int} (h : Byt xs) : sum key xs < 4294967296 := Crc.more_lt (by omega) (nats_lt ((be_byt _ _).append (h.append (be_byt _ _))))
def enc (key : Int) (x : Cr) : List Int := x.body ++ be (sum key x.body : Nat) 4
theorem enc_length (key : Int) (x : Cr) : (enc key x).length = 40 := by simp [enc, body_length, be_length]
theorem byt_enc (key : Int) (x : Cr) : Byt (enc key x) := x.byt_body.append (be_byt _ _)
/-- The number at a place. -/
def nm (xs : List Int) (i n : Nat) : Int := num 0 ((xs.drop i).take n)
/-- What bytes say. -/
def dec (xs : List Int) : Cr := ⟨wrap64 (nm xs 0 8), nm xs 8 4, nm xs 12 4, nm xs 16 4, nm xs 20 4, nm xs 24 4, nm xs 28 4, nm xs 32 4⟩
/-- What is answered to bytes. -/
def opn (key : Int) (xs : List Int) : Cr × Int :=
  if xs.length < 40 then (zero, 3) else if 40 < xs.length then (zero, 2) else if nm xs 36 4 ≠ (sum key (xs.take 36) : Nat) then (zero, 5)
  else if (dec xs).fit then (dec xs, 0) else (zero, 2)
end Cr
/-- Fresh, as the document has it. -/
def Cr.young (t now life : Int) : Bool := decide (0 ≤ life) && (decide (t ≤ now) && decide (now - t ≤ life))
/-- A block that holds a crumb. -/
def CrAt (w : World) (q : Nat) (x : Cr) : Prop := w.heap[q]? = some (.cells x.cells 25 (0, 0))
theorem CrAt.up {w w' : World} {q : Nat} {x : Cr} (h : CrAt w q x) (hu : Up w w') : CrAt w' q x := (hu.block _ (lt_of_blk h)).trans h
theorem crAt_new (w : World) (x : Cr) : CrAt (w.alloc (.cells x.cells 25)) w.heap.size x := new_at w _
/-- mayBeSealed. -/
def RetS (b : Bool) (w : World) (e : Ending) (w' : World) : Prop := e = .returned (.bool b) ∧ w = w'
set_option maxRecDepth 100000 in
set_option maxHeartbeats 2000000 in
theorem may_any (x : Cr) (w : World) : Calls Try.prog 13 #[x.val] w (RetB (decide x.fit) w) := by
  obtain ⟨t, a, b, c, d, e, f, g⟩ := x
  show Calls Try.prog 13 #[.agg #[.int .i64 t, .int .u32 a, .int .u32 b, .int .u32 c, .int .u32 d, .int .u32 e, .int .u32 f, .int .u32 g]] w _
  have HU := Lib.hid (up_alloc w (.cells #[.int .i64 t, .int .u32 a, .int .u32 b, .int .u32 c, .int .u32 d, .int .u32 e, .int .u32 f, .int .u32 g] 25))
  have hfit : decide (Cr.fit ⟨t, a, b, c, d, e, f, g⟩) = (decide (0 ≤ t) && decide (t ≤ 1099511627776) && !decide (a = 0) && !decide (b = 0)) := by
    unfold Cr.fit; rw [Bool.eq_iff_iff]; simp [and_assoc]
  rw [hfit]
  clear hfit
  rcases Decidable.em (a = 0) with rfl | h3 <;> rcases Decidable.em (b = 0) with rfl | h4 <;> by_cases h1 : 0 ≤ t <;> by_cases h2 : t ≤ 1099511627776
  all_goals first
    | (exfalso; omega)
    | (go_enter Try.func13, Try.ntmps13
       go_wp2_with fail
       go_ret
       exact ⟨by simp [*], HU⟩)
end Go.Proofs.Ytdlgdlgpmfccmaa
namespace Go.Proofs.Ytdlgdlgpmfccmaa
open Go Go.RowKit
set_option linter.unusedVariables false
set_option linter.unusedSimpArgs false
/-! Where the numbers stand. -/
def ptr (q j : Nat) : Value := .pointer (some ⟨q, j, none⟩)
def PtrsPost (q : Nat) (w : World) (e : Ending) (w' : World) : Prop := e = .returned (.agg #[ptr q 1, ptr q 2, ptr q 3, ptr q 4, ptr q 5, ptr q 6, ptr q 7]) ∧ Hid (Up w w')
set_option maxRecDepth 100000 in
set_option maxHeartbeats 4000000 in
theorem behind_any (q : Nat) (w : World) : Calls Try.prog 15 #[.pointer (some ⟨q, 0, none⟩)] w (PtrsPost q w) := by
  go_enter Try.func15, Try.ntmps15
  go_upto_region 1 with (fail)
  go_still_tail 22, (by kernel_rfl)
  change wpList _ _ _ _ _ ((w.alloc (.cells #[.pointer none, .pointer none, .pointer none, .pointer none, .pointer none, .pointer none, .pointer none] 42)).drew)
  have hb0 : ((w.alloc (.cells #[.pointer none, .pointer none, .pointer none, .pointer none, .pointer none, .pointer none, .pointer none] 42)).drew).heap[w.heap.size]? = some (.cells #[.pointer none, .pointer none, .pointer none, .pointer none, .pointer none, .pointer none, .pointer none] 42 (0, 0)) := new_at w _
  have HB := Lib.hid (show Below w.heap.size w ((w.alloc (.cells #[.pointer none, .pointer none, .pointer none, .pointer none, .pointer none, .pointer none, .pointer none] 42)).drew) from Up.trans (up_alloc w _) (Up.drew _))
  generalize ((w.alloc (.cells #[.pointer none, .pointer none, .pointer none, .pointer none, .pointer none, .pointer none, .pointer none] 42)).drew) = w1 at hb0 HB ⊢
  have HB0 := Lib.hid hb0
  go_wp2_with (with_reducible refine wpList_store_row rfl 42 _ _ rfl w.heap.size #[ptr q 1, ptr q 2, ptr q 3, ptr q 4, ptr q 5, ptr q 6, ptr q 7] rfl rfl 42 _ hb0 (by kernel_rfl) rfl (by simp [ptr, Value.oneCell']) ?_)
  exact bodyPost_ret (results_cell_row rfl _ _ _ 42 _ (0, 0) _ rfl (setRow_heap _ _ _ _ _ _ HB0.out) Try.underlying42 rfl (by kernel_rfl)) rfl ⟨rfl, Lib.hid (below_setRow HB.out (Nat.le_refl _) _)⟩
theorem OwnI.base {k : IntKind} {E : TypeId} {B B' : Nat} {w : World} {A : Option Addr} {N c : Nat} {xs : List Int} (h : OwnI k E B w A N c xs) (hb : B' ≤ B) : OwnI k E B' w A N c xs := by
  refine ⟨h.1, ?_⟩
  rcases h.2 with h2 | ⟨g, cap, cur, h1, h2, h3⟩
  · exact .inl h2
  · exact .inr ⟨g, cap, cur, h1, Nat.le_trans hb h2, h3⟩
/-- An element of an array of seven pointers. -/
theorem index_arr (cs : Array Value) (h7 : cs.size = 7) (i : Nat) (v : Value) (hv : cs[i]? = some v) (x : Int) (hx : x = (i : Int)) (w : World) : (Instr.index 42 (.agg cs) (.int .i64 x)).run Try.prog w = .ok v w := by
  have hlt : i < 7 := by have := (Array.getElem?_eq_some_iff.1 hv).1; omega
  subst hx
  have hs : ∀ w, (sizeOf 41).run Try.prog w = .ok 1 w := by
    intro w
    have hi : (Try.prog.info? 41).map (·.size) = some 1 := by kernel_rfl
    cases hq : Try.prog.info? 41 with
    | none => simp [hq] at hi
    | some j => simp [hq] at hi; simp [sizeOf, typeInfo, hq, hi]
  have hp : (part 41 cs i).run Try.prog w = .ok v w := by
    have ha : (isAgg 41).run Try.prog w = .ok false w := by simp [isAgg, run_underlying Try.underlying41, Result.andThen]
    simp [part, ha, Result.andThen, hv]
  simp [Instr.index, run_underlying Try.underlying42, asIntOf, Result.andThen, hs, hlt, hp]
theorem results_row_tmp {P : Program} {fn : Func} {p u : Tmp} {ty : TypeId} (h : fn.results = #[.cell p ty, .tmp u]) (tmps : Array Value) (w : World) (g : Nat) (t : TypeId) (cs : Array Value) (fr : Nat × Nat) (d : TypeDesc)
    (hp : tmps.getD p undef = .pointer (some ⟨g, 0, none⟩)) (hg : w.heap[g]? = some (.cells cs t fr))
    (hu : P.underlying ty = some d) (hd : (match d with | .struct _ | .array _ _ => true | _ => false) = true) (hi : (P.info? ty).map (·.size) = some cs.size) :
    (results fn tmps).run P w = .ok (.tuple #[.agg cs, tmps.getD u undef]) w := by
  have hp' : tmps[p]?.getD undef = .pointer (some ⟨g, 0, none⟩) := by simpa using hp
  simp [results, h, hp', asAddr, run_loadVar_row w g t ty cs fr d hg hu hd hi, Result.andThen]
/-- The program's number. -/
theorem number_any (A : Option Addr) (m c a s : Nat) (xs : List Int) (w : World) (h : InB w A m c xs) (hk : m ≤ 140737488355328) (ha : a + s ≤ m) (hs1 : 1 ≤ s) (hs8 : s ≤ 8) (x : Int) (hx : x = (a : Int)) (y : Int) (hy : y = (s : Int)) :
    Calls Try.prog 19 #[.slice A m c, .int .i64 x, .int .i64 y] w fun e w' => e = .returned (.int .u64 (Cr.nm xs a s)) ∧ w' = w := by
  subst hx hy
  have H := Lib.hid h
  clear h
  go_enter Try.func19, Try.ntmps19
  go_wp2_with fail
  refine (get_any A m c a s xs w H.out hk ha hs1 hs8).mono ?_
  rintro e w1 ⟨rfl, rfl⟩
  go_wp2_with fail
  go_ret
  exact ⟨rfl, rfl⟩
theorem more_assoc (a b c : List Int) : Crc.more (Crc.more (Crc.more 0 (nats a)) (nats b)) (nats c) = Crc.more 0 (nats (a ++ (b ++ c))) := by
  rw [Crc.more_more, Crc.more_more, ← nats_append, ← nats_append]
/-- The program's sum. -/
theorem csum_any (key : Int) (A : Option Addr) (m c : Nat) (xs : List Int) (w : World) (h : InB w A m c xs) (hk : m ≤ 140737488355328) :
    Calls Try.prog 16 #[.int .u64 key, .slice A m c] w fun e w' => e = .returned (.int .u64 (Cr.sum key xs : Nat)) ∧ Up w w' := by
  have H := Lib.hid h
  have HS := Lib.hid (Cr.sum_lt (key := key) h.byt)
  clear h
  go_enter Try.func16, Try.ntmps16
  go_wp2_with fail
  refine (put_any none 0 0 8 [] key w (inB_nil w) (by omega) (by omega) (by omega)).mono ?_
  rintro e w1 ⟨A1, N1, c1, rfl, hN1, hO1, hu1⟩
  obtain rfl : N1 = 8 := by rw [hN1]; simp [be_length]
  rw [List.nil_append] at hO1
  have HI1 := Lib.hid (own_inB hO1 (be_byt _ _))
  have HU1 := Lib.hid hu1
  clear hO1 hu1 hN1
  go_wp2_with fail
  refine (sum_c A1 8 c1 (be key 8) w1 HI1.out (by omega)).mono ?_
  rintro e w2 ⟨rfl, hu2⟩
  have HU2 := Lib.hid (HU1.out.trans hu2)
  have HX2 := Lib.hid hu2
  clear hu2
  go_wp2_with fail
  refine (more_c A m c xs _ w2 (Crc.more_lt (by omega) (nats_lt HI1.out.byt)) (H.out.up HU2.out) hk).mono ?_
  rintro e w3 ⟨rfl, hu3⟩
  have HU3 := Lib.hid (HU2.out.trans hu3)
  have HX3 := Lib.hid (HX2.out.trans hu3)
  clear hu3
  go_wp2_with fail
  refine (more_c A1 8 c1 (be key 8) _ w3 (Crc.more_lt (Crc.more_lt (by omega) (nats_lt HI1.out.byt)) (nats_lt H.out.byt)) (HI1.out.up HX3.out) (by omega)).mono ?_
  rintro e w4 ⟨rfl, hu4⟩
  have HU4 := Lib.hid (HU3.out.trans hu4)
  clear hu4
  rw [more_assoc]
  have hlt := HS.out
  unfold Cr.sum at hlt
  go_wp2_with fail
  go_ret
  exact ⟨rfl, HU4.out⟩
end Go.Proofs.Ytdlgdlgpmfccmaa
