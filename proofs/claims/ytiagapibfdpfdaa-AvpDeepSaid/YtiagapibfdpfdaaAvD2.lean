import Derived.Test.YtiagapibfdpfdaaAvD1
import Derived.Test.YtiagapibfdpfdaaAvL2
import Derived.Test.YtiagapibfdpfdaaAvX
import Derived.BigQuiet
namespace Go.Proofs.Ytiagapibfdpfdaa
open Go Go.RowKit
set_option linter.unusedVariables false
set_option linter.unusedSimpArgs false
/-! Groups within groups: the program's open. -/
def nest (c0 cd : Int) (data : List Int) : Nat → Av.Avp
  | 0 => ⟨c0, 0, false, false, data⟩
  | j + 1 => ⟨cd, 0, false, false, encAs [nest c0 cd data j]⟩
def chain (c0 cd : Int) (data : List Int) (d : Nat) : Nat → List (Nat × Av.Avp)
  | 0 => [(d, nest c0 cd data 0)]
  | j + 1 => (d, nest c0 cd data (j + 1)) :: chain c0 cd data (d + 1) j
theorem nest_size {c0 cd : Int} {data : List Int} (hd : data.length ≤ 100) (j : Nat) : (encAs [nest c0 cd data j]).length ≤ 112 + 8 * j := by
  induction j with
  | zero =>
    simp only [encAs, List.flatMap_cons, List.flatMap_nil, List.append_nil, encA_length]
    have : avLen (nest c0 cd data 0) = 8 + data.length := rfl
    have := padN_lt (avLen (nest c0 cd data 0))
    omega
  | succ j ih =>
    have h1 : (encAs [nest c0 cd data (j + 1)]).length = avLen (nest c0 cd data (j + 1)) + padN (avLen (nest c0 cd data (j + 1))) := by
      simp only [encAs, List.flatMap_cons, List.flatMap_nil, List.append_nil, encA_length]
    have h2 : avLen (nest c0 cd data (j + 1)) = 8 + (encAs [nest c0 cd data j]).length := rfl
    have h3 : (encAs [nest c0 cd data j]).length % 4 = 0 := by
      simp only [encAs, List.flatMap_cons, List.flatMap_nil, List.append_nil, encA_length]
      unfold padN; omega
    have h4 : padN (avLen (nest c0 cd data (j + 1))) = 0 := by rw [h2]; unfold padN; omega
    omega
theorem nest_ok {c0 cd : Int} {data : List Int} (h0 : 0 ≤ c0 ∧ c0 < 4294967296) (h1 : 0 ≤ cd ∧ cd < 4294967296) (hb : Byt data) : ∀ j, AvOK (nest c0 cd data j)
  | 0 => ⟨h0, ⟨Int.le_refl 0, by show (0 : Int) < 4294967296; omega⟩, hb⟩
  | j + 1 => ⟨h1, ⟨Int.le_refl 0, by show (0 : Int) < 4294967296; omega⟩, byt_encAs fun a ha => by rw [List.mem_singleton] at ha; subst ha; exact nest_ok h0 h1 hb j⟩
theorem nest_get {c0 cd : Int} {data : List Int} (h0 : 0 ≤ c0 ∧ c0 < 4294967296) (h1 : 0 ≤ cd ∧ cd < 4294967296) (hb : Byt data) (hd : data.length ≤ 100) {j : Nat} (hj : j ≤ 14) : GetRes (encAs [nest c0 cd data j]) ([nest c0 cd data j], 0, 0) :=
  getRes_encAs (fun a ha => by rw [List.mem_singleton] at ha; subst ha; exact nest_ok h0 h1 hb j) (by have := nest_size (c0 := c0) (cd := cd) hd j; omega) (by simp)
theorem chain_length (c0 cd : Int) (data : List Int) (d j : Nat) : (chain c0 cd data d j).length = j + 1 := by
  induction j generalizing d with
  | zero => rfl
  | succ j ih => simp [chain, ih]
/-- The one group's code, where it lies. -/
structure Grp (q : Nat) (A : Option Addr) (gb : Nat) (cd : Int) (w : World) : Prop where
  cell : w.cell? ⟨gb, 0, none⟩ = some (.int .u32 cd)
  ne : gb ≠ q
  far : blk? A ≠ some gb
theorem Grp.step {q gb : Nat} {A A' : Option Addr} {cd : Int} {w w' : World} (h : Grp q A gb cd w) (g : Go2 q A A' w w') : Grp q A' gb cd w' := by
  refine ⟨cell_out h.cell g.out (fun e => ?_), h.ne, fun e => ?_⟩
  · rcases e with e | e
    · exact h.ne e
    · exact h.far e
  · rcases g.row with hr | hr
    · rw [hr] at e; exact h.far e
    · have h1 := hr gb e; have h2 := cell_lt h.cell; simp only at h2; omega
theorem Op.alen {B q : Nat} {G : Value} {A : Option Addr} {n c : Nat} {items : List (Nat × AvB)} {w : World} (h : Op B q G A n c items w) {k : Nat} (hk : blk? A = some k) : B ≤ k ∧ k < w.heap.size := row_lt h.row hk
/-- A new block stays. -/
theorem Op.keepNew {B q pb : Nat} {G : Value} {A A' : Option Addr} {n c : Nat} {items : List (Nat × AvB)} {w w1 w2 : World} {o : Obj} (h : Op B q G A n c items w) (hp : w1.heap[pb]? = some o) (hpb : w.heap.size ≤ pb) (g : Go2 q A A' w1 w2) : w2.heap[pb]? = some o := by
  refine g.out.blk hp (fun e => ?_)
  have hq := lt_of_blk h.top
  rcases e with e | e
  · omega
  · have := (h.alen e).2; omega
theorem fld580 (b o : Nat) (w : World) : (Instr.fieldAt 58 (.pointer (some ⟨b, o, none⟩)) 0).run Try.prog w = .ok (.pointer (some ⟨b, o, none⟩)) w := by kernel_rfl
def OpenPost (B q : Nat) (G : Value) (A : Option Addr) (items : List (Nat × AvB)) (ch : List (Nat × Av.Avp)) (w : World) (e : Ending) (w' : World) : Prop := e = .returned (.tuple #[]) ∧ ∃ A' n' c' more, Hid (Op B q G A' n' c' (items ++ more) w') ∧ Hid (more.map pureI = ch) ∧ Hid (Go2 q A A' w w')
def DeepPost (q : Nat) (A : Option Addr) (w : World) (e : Ending) (w' : World) : Prop := e = .panicked [{ v := .iface 69 (.agg #[.int .i64 12]), recovered := false }] ∧ ∃ A', Hid (Go2 q A A' w w')
set_option maxRecDepth 100000 in
set_option maxHeartbeats 4000000 in
theorem open_0 (B q gb : Nat) (c0 cd : Int) (data : List Int) (A : Option Addr) (n k : Nat) (items : List (Nat × AvB)) (AL : Option Addr) (cL : Nat) (x : AvB) (d : Nat) (w : World) (h : Op B q (.slice (some ⟨gb, 0, none⟩) 1 1) A n k items w) (hG : Grp q A gb cd w) (hL : InL w AL 1 cL [x]) (hF : Far q A w x) (hB : B ≤ w.heap.size) (hx : x.pure = nest c0 cd data 0) (hcc : c0 ≠ cd) (hd8 : d < 8) (hn : n ≤ 100) : Calls Try.prog 34 #[.pointer (some ⟨q, 0, none⟩), .slice AL 1 cL, .int .i64 (d : Int)] w (OpenPost B q (.slice (some ⟨gb, 0, none⟩) 1 1) A items (chain c0 cd data d 0) w) := by
  have H := Lib.hid h
  have HG := Lib.hid hG
  have HL := Lib.hid hL
  have HF := Lib.hid hF
  have HB := Lib.hid hB
  clear h hG hL hF hB
  obtain ⟨c, v, m, p, A9, n9, k9, bs⟩ := x
  go_enter Try.func34, Try.ntmps34
  go_wp2_with fail
  go_loopw [10] (fun v wr => (v = .int .i64 0 ∧ Hid (wr = w)) ∨ (v = .int .i64 1 ∧ Hid (∃ A' n' c' more, Op B q (.slice (some ⟨gb, 0, none⟩) 1 1) A' n' c' (items ++ more) wr ∧ more.map pureI = chain c0 cd data d 0 ∧ Go2 q A A' w wr))) (fun v _ => 1 - (intOf v).toNat)
  case atStart => exact .inl ⟨rfl, Lib.hid rfl⟩
  case round =>
    rcases hrel with ⟨rfl, hw⟩ | ⟨rfl, hw⟩
    · have hwe := hw.out
      clear hw
      subst hwe
      obtain ⟨w, rfl⟩ : ∃ wx, wx = wr := ⟨_, rfl⟩
      have hx1 : c = c0 ∧ v = 0 := by injection hx with e1 e2; exact ⟨e1, e2⟩
      have HXP := Lib.hid hx
      clear hx
      obtain ⟨rfl, rfl⟩ := hx1
      have hcd := hcc
      obtain ⟨x', ga, o, hx, rfl, k0, k1, k2, k3, k4, hci⟩ := HL.out.at_ (k := 0) (by omega)
      obtain rfl : ⟨c, 0, m, p, A9, n9, k9, bs⟩ = x' := by simpa using hx
      rw [Nat.zero_mul, Nat.add_zero] at k0 k1 k2 k3 k4
      clear hx hci
      simp only at k0 k1 k2 k3 k4
      have HCB := Lib.hid (new_at w (.cells #[.int .u32 c, .int .u32 0, .bool m, .bool p, .slice A9 n9 k9] 38))
      have HUa := Lib.hid (up_alloc w (.cells #[.int .u32 c, .int .u32 0, .bool m, .bool p, .slice A9 n9 k9] 38))
      go_upto_region 3 with (fail)
      generalize w.alloc (.cells #[.int .u32 c, .int .u32 0, .bool m, .bool p, .slice A9 n9 k9] 38) = wa at HCB HUa ⊢
      obtain ⟨pb, hpb⟩ : ∃ pb, w.heap.size = pb := ⟨_, rfl⟩
      rw [hpb] at HCB
      simp only [hpb]
      have HPB := Lib.hid (show w.heap.size ≤ pb from Nat.le_of_eq hpb)
      clear k0 k1 k2 k3 k4 hpb
      have y0 := cell_of HCB.out (j := 0) rfl
      have y1 := cell_of HCB.out (j := 1) rfl
      have y2 := cell_of HCB.out (j := 2) rfl
      have y3 := cell_of HCB.out (j := 3) rfl
      have y4 := cell_of HCB.out (j := 4) rfl
      go_wp2_with fail
      refine (add_ok B q _ A n k items c 0 m p A9 n9 k9 bs d wa (H.out.up HUa.out) (HF.out.step (HUa.out.out _) (.inl rfl)) hd8 (by omega) (Nat.le_trans HB.out HUa.out.size)).mono ?_
      rintro e w2 ⟨rfl, A2, n2, k2, HO2, HG2⟩
      have G2 := Lib.hid ((Go2.up (q := q) (A := A) HUa.out).trans HG2.out)
      have HC2 := Lib.hid (H.out.keepNew HCB.out HPB.out HG2.out)
      have HGr := Lib.hid (HG.out.step G2.out)
      have HF2 := Lib.hid (HF.out.step G2.out.out G2.out.row)
      have hn2 : n2 = n + 1 := by have h1 := HO2.out.len; have h2 := H.out.len; rw [List.length_append, List.length_singleton] at h1; omega
      clear y0 y1 y2 y3 y4
      have x0 := cell_of HC2.out (j := 0) rfl
      have x1 := cell_of HC2.out (j := 1) rfl
      have x2 := cell_of HC2.out (j := 2) rfl
      have x3 := cell_of HC2.out (j := 3) rfl
      have x4 := cell_of HC2.out (j := 4) rfl
      have q0 := cell_of HO2.out.top (j := 0) rfl
      have hgr := HGr.out.cell
      go_upto_region 4 with (fail)
      go_quiet ((go_at_call 41; exact Calls.quiet_of_same (contains_f gb c cd _ hgr hcd)))
      have U3 := Lib.hid (up_drewN w2 nq)
      generalize w2.drewN nq = w3 at U3 ⊢
      have HEND := Lib.hid (show ∃ A' n' c' more, Op B q (.slice (some ⟨gb, 0, none⟩) 1 1) A' n' c' (items ++ more) w3 ∧ more.map pureI = chain c cd data d 0 ∧ Go2 q A A' w w3 from ⟨A2, n2, k2, _, HO2.out.up U3.out, by show [(d, _)] = [(d, _)]; rw [← HXP.out], G2.out.trans (Go2.up U3.out)⟩)
      go_wp2_with fail
      go_roundw
      case rel => exact .inr ⟨rfl, HEND⟩
      case measure => simp [intOf]
    · obtain ⟨A', n', c', more, h1, h2, h3⟩ := hw.out
      have K1 := Lib.hid h1
      have K2 := Lib.hid h2
      have K3 := Lib.hid h3
      clear hw h1 h2 h3
      go_wp2_with fail
      go_end0
      exact ⟨rfl, A', n', c', more, K1, K2, K3⟩
set_option maxRecDepth 100000 in
set_option maxHeartbeats 4000000 in
theorem open_s (B q gb NN : Nat) (c0 cd : Int) (data : List Int) (A : Option Addr) (n k : Nat) (items : List (Nat × AvB)) (AL : Option Addr) (cL : Nat) (x : AvB) (d : Nat) (w : World) (h : Op B q (.slice (some ⟨gb, 0, none⟩) 1 1) A n k items w) (hG : Grp q A gb cd w) (hL : InL w AL 1 cL [x]) (hF : Far q A w x) (hB : B ≤ w.heap.size) (j : Nat) (hx : x.pure = nest c0 cd data (j + 1)) (hget : GetRes (encAs [nest c0 cd data j]) ([nest c0 cd data j], 0, 0)) (hd8 : d < 8) (hn : n ≤ 100)
    (IH : ∀ (A : Option Addr) (n k : Nat) (items : List (Nat × AvB)) (AL : Option Addr) (cL : Nat) (x : AvB) (w : World), Op B q (.slice (some ⟨gb, 0, none⟩) 1 1) A n k items w → Grp q A gb cd w → InL w AL 1 cL [x] → Far q A w x → B ≤ w.heap.size → x.pure = nest c0 cd data j → n ≤ NN → Calls Try.prog 34 #[.pointer (some ⟨q, 0, none⟩), .slice AL 1 cL, .int .i64 ((d + 1 : Nat) : Int)] w (OpenPost B q (.slice (some ⟨gb, 0, none⟩) 1 1) A items (chain c0 cd data (d + 1) j) w)) (hNN : n + 1 ≤ NN) : Calls Try.prog 34 #[.pointer (some ⟨q, 0, none⟩), .slice AL 1 cL, .int .i64 (d : Int)] w (OpenPost B q (.slice (some ⟨gb, 0, none⟩) 1 1) A items (chain c0 cd data d (j + 1)) w) := by
  have HGET := Lib.hid hget
  have HIH := Lib.hid IH
  clear IH hget
  have H := Lib.hid h
  have HG := Lib.hid hG
  have HL := Lib.hid hL
  have HF := Lib.hid hF
  have HB := Lib.hid hB
  clear h hG hL hF hB
  obtain ⟨c, v, m, p, A9, n9, k9, bs⟩ := x
  go_enter Try.func34, Try.ntmps34
  go_wp2_with fail
  go_loopw [10] (fun v wr => (v = .int .i64 0 ∧ Hid (wr = w)) ∨ (v = .int .i64 1 ∧ Hid (∃ A' n' c' more, Op B q (.slice (some ⟨gb, 0, none⟩) 1 1) A' n' c' (items ++ more) wr ∧ more.map pureI = chain c0 cd data d (j + 1) ∧ Go2 q A A' w wr))) (fun v _ => 1 - (intOf v).toNat)
  case atStart => exact .inl ⟨rfl, Lib.hid rfl⟩
  case round =>
    rcases hrel with ⟨rfl, hw⟩ | ⟨rfl, hw⟩
    · have hwe := hw.out
      clear hw
      subst hwe
      obtain ⟨w, rfl⟩ : ∃ wx, wx = wr := ⟨_, rfl⟩
      have hx1 : c = cd ∧ v = 0 ∧ bs = encAs [nest c0 cd data j] := by injection hx with e1 e2 e3 e4 e5; exact ⟨e1, e2, e5⟩
      have HXP := Lib.hid hx
      clear hx
      obtain ⟨rfl, rfl, hbs⟩ := hx1
      have HBS := Lib.hid hbs
      clear hbs
      obtain ⟨x', ga, o, hx, rfl, k0, k1, k2, k3, k4, hci⟩ := HL.out.at_ (k := 0) (by omega)
      obtain rfl : ⟨c, 0, m, p, A9, n9, k9, bs⟩ = x' := by simpa using hx
      rw [Nat.zero_mul, Nat.add_zero] at k0 k1 k2 k3 k4
      clear hx hci
      simp only at k0 k1 k2 k3 k4
      have HCB := Lib.hid (new_at w (.cells #[.int .u32 c, .int .u32 0, .bool m, .bool p, .slice A9 n9 k9] 38))
      have HUa := Lib.hid (up_alloc w (.cells #[.int .u32 c, .int .u32 0, .bool m, .bool p, .slice A9 n9 k9] 38))
      go_upto_region 3 with (fail)
      generalize w.alloc (.cells #[.int .u32 c, .int .u32 0, .bool m, .bool p, .slice A9 n9 k9] 38) = wa at HCB HUa ⊢
      obtain ⟨pb, hpb⟩ : ∃ pb, w.heap.size = pb := ⟨_, rfl⟩
      rw [hpb] at HCB
      simp only [hpb]
      have HPB := Lib.hid (show w.heap.size ≤ pb from Nat.le_of_eq hpb)
      clear k0 k1 k2 k3 k4 hpb
      have y0 := cell_of HCB.out (j := 0) rfl
      have y1 := cell_of HCB.out (j := 1) rfl
      have y2 := cell_of HCB.out (j := 2) rfl
      have y3 := cell_of HCB.out (j := 3) rfl
      have y4 := cell_of HCB.out (j := 4) rfl
      go_wp2_with fail
      refine (add_ok B q _ A n k items c 0 m p A9 n9 k9 bs d wa (H.out.up HUa.out) (HF.out.step (HUa.out.out _) (.inl rfl)) hd8 (by omega) (Nat.le_trans HB.out HUa.out.size)).mono ?_
      rintro e w2 ⟨rfl, A2, n2, k2, HO2, HG2⟩
      have G2 := Lib.hid ((Go2.up (q := q) (A := A) HUa.out).trans HG2.out)
      have HC2 := Lib.hid (H.out.keepNew HCB.out HPB.out HG2.out)
      have HGr := Lib.hid (HG.out.step G2.out)
      have HF2 := Lib.hid (HF.out.step G2.out.out G2.out.row)
      have hn2 : n2 = n + 1 := by have h1 := HO2.out.len; have h2 := H.out.len; rw [List.length_append, List.length_singleton] at h1; omega
      clear y0 y1 y2 y3 y4
      have x0 := cell_of HC2.out (j := 0) rfl
      have x1 := cell_of HC2.out (j := 1) rfl
      have x2 := cell_of HC2.out (j := 2) rfl
      have x3 := cell_of HC2.out (j := 3) rfl
      have x4 := cell_of HC2.out (j := 4) rfl
      have q0 := cell_of HO2.out.top (j := 0) rfl
      have hgr := HGr.out.cell
      go_upto_region 4 with (fail)
      go_quiet ((go_at_call 41; exact Calls.quiet_of_same (contains_t gb c _ hgr)))
      have U3 := Lib.hid (up_drewN w2 nq)
      generalize w2.drewN nq = w3 at U3 ⊢
      have HO3 := Lib.hid (HO2.out.up U3.out)
      have G3 := Lib.hid (G2.out.trans (Go2.up U3.out))
      have HGr3 := Lib.hid (HGr.out.step (Go2.up U3.out))
      have HF3 := Lib.hid (HF2.out.step (U3.out.out _) (.inl rfl))
      have HC3 := Lib.hid (blk_up HC2.out U3.out)
      clear x0 x1 x2 x3 x4 q0 hgr HO2 HC2 HF2 HGr G2 U3
      have x0 := cell_of HC3.out (j := 0) rfl
      have x1 := cell_of HC3.out (j := 1) rfl
      have x2 := cell_of HC3.out (j := 2) rfl
      have x3 := cell_of HC3.out (j := 3) rfl
      have x4 := cell_of HC3.out (j := 4) rfl
      go_wp2_with fail
      refine (inside_ok ⟨c, 0, m, p, A9, n9, k9, bs⟩ [nest c0 c data j] w3 HF3.out.av (by rw [HBS.out]; exact HGET.out)).mono ?_
      rintro e w4 ⟨l4, A4, n4, c4, rfl, he4, hL4, hu4⟩
      have U4 := Lib.hid hu4.out
      obtain ⟨y, rfl⟩ : ∃ y, l4 = [y] := by
        have h1 := congrArg List.length he4.out
        rw [List.length_map] at h1
        match l4, h1 with
        | [y], _ => exact ⟨y, rfl⟩
      have HYP := Lib.hid (show y.pure = nest c0 c data j by simpa using he4.out)
      have hn4 : n4 = 1 := hL4.out.len.symm
      subst hn4
      have HO4 := Lib.hid (HO3.out.up U4.out)
      have G4 := Lib.hid (G3.out.trans (Go2.up U4.out))
      have HGr4 := Lib.hid (HGr3.out.step (Go2.up U4.out))
      have HY4 := Lib.hid (show Far q A2 w4 y from ⟨(hL4.out.av y (by simp)).1.avIn, fun _ kk hk => by
        have h1 := (row_lt (hL4.out.av y (by simp)).1.own hk).1
        have h2 := lt_of_blk HO3.out.top
        exact ⟨by omega, fun e => by have h3 := (HO3.out.alen e).2; omega⟩⟩)
      have HB4 := Lib.hid (show B ≤ w4.heap.size from Nat.le_trans HB.out G4.out.out.size)
      have hIH := HIH.out A2 n2 k2 _ A4 c4 y w4 HO4.out HGr4.out hL4.out.inL HY4.out HB4.out HYP.out (by omega)
      have HIH4 := Lib.hid hIH
      clear hIH x0 x1 x2 x3 x4
      go_wp2_with fail
      refine HIH4.out.mono ?_
      rintro e w5 ⟨rfl, A5, n5, k5, more, K1, K2, K3⟩
      have HEND := Lib.hid (show ∃ A' n' c' more, Op B q (.slice (some ⟨gb, 0, none⟩) 1 1) A' n' c' (items ++ more) w5 ∧ more.map pureI = chain c0 c data d (j + 1) ∧ Go2 q A A' w w5 from ⟨A5, n5, k5, (d, ⟨c, 0, m, p, A9, n9, k9, bs⟩) :: more, by have := K1.out; rw [List.append_assoc] at this; exact this, by rw [List.map_cons, K2.out]; show (d, _) :: _ = (d, _) :: _; rw [← HXP.out], G4.out.trans K3.out⟩)
      go_wp2_with fail
      go_roundw
      case rel => exact .inr ⟨rfl, HEND⟩
      case measure => simp [intOf]
    · obtain ⟨A', n', c', more, h1, h2, h3⟩ := hw.out
      have K1 := Lib.hid h1
      have K2 := Lib.hid h2
      have K3 := Lib.hid h3
      clear hw h1 h2 h3
      go_wp2_with fail
      go_end0
      exact ⟨rfl, A', n', c', more, K1, K2, K3⟩
set_option maxRecDepth 100000 in
set_option maxHeartbeats 4000000 in
theorem open_d0 (B q gb : Nat) (c0 cd : Int) (data : List Int) (A : Option Addr) (n k : Nat) (items : List (Nat × AvB)) (AL : Option Addr) (cL : Nat) (x : AvB) (d : Nat) (w : World) (h : Op B q (.slice (some ⟨gb, 0, none⟩) 1 1) A n k items w) (hG : Grp q A gb cd w) (hL : InL w AL 1 cL [x]) (hF : Far q A w x) (hB : B ≤ w.heap.size) (hd8 : 8 ≤ d) : Calls Try.prog 34 #[.pointer (some ⟨q, 0, none⟩), .slice AL 1 cL, .int .i64 (d : Int)] w (DeepPost q A w) := by
  have H := Lib.hid h
  have HG := Lib.hid hG
  have HL := Lib.hid hL
  have HF := Lib.hid hF
  have HB := Lib.hid hB
  clear h hG hL hF hB
  obtain ⟨c, v, m, p, A9, n9, k9, bs⟩ := x
  go_enter Try.func34, Try.ntmps34
  go_wp2_with fail
  go_loopw [10] (fun v wr => v = .int .i64 0 ∧ Hid (wr = w)) (fun v _ => 1 - (intOf v).toNat)
  case atStart => exact ⟨rfl, Lib.hid rfl⟩
  case round =>
    obtain ⟨rfl, hw⟩ := hrel
    have hwe := hw.out
    clear hw
    subst hwe
    obtain ⟨w, rfl⟩ : ∃ wx, wx = wr := ⟨_, rfl⟩
    obtain ⟨x', ga, o, hx, rfl, k0, k1, k2, k3, k4, hci⟩ := HL.out.at_ (k := 0) (by omega)
    obtain rfl : ⟨c, v, m, p, A9, n9, k9, bs⟩ = x' := by simpa using hx
    rw [Nat.zero_mul, Nat.add_zero] at k0 k1 k2 k3 k4
    clear hx hci
    simp only at k0 k1 k2 k3 k4
    have HCB := Lib.hid (new_at w (.cells #[.int .u32 c, .int .u32 v, .bool m, .bool p, .slice A9 n9 k9] 38))
    have HUa := Lib.hid (up_alloc w (.cells #[.int .u32 c, .int .u32 v, .bool m, .bool p, .slice A9 n9 k9] 38))
    go_upto_region 3 with (fail)
    generalize w.alloc (.cells #[.int .u32 c, .int .u32 v, .bool m, .bool p, .slice A9 n9 k9] 38) = wa at HCB HUa ⊢
    obtain ⟨pb, hpb⟩ : ∃ pb, w.heap.size = pb := ⟨_, rfl⟩
    rw [hpb] at HCB
    simp only [hpb]
    have HPB := Lib.hid (show w.heap.size ≤ pb from Nat.le_of_eq hpb)
    clear k0 k1 k2 k3 k4 hpb
    have y0 := cell_of HCB.out (j := 0) rfl
    have y1 := cell_of HCB.out (j := 1) rfl
    have y2 := cell_of HCB.out (j := 2) rfl
    have y3 := cell_of HCB.out (j := 3) rfl
    have y4 := cell_of HCB.out (j := 4) rfl
    go_wp2_with fail
    refine (add_deep q undef c v m p A9 n9 k9 d wa hd8).mono ?_
    rintro e w2 ⟨rfl, hu2⟩
    exact ⟨rfl, rfl, A, Lib.hid (Go2.up (Up.trans HUa.out hu2.out))⟩
set_option maxRecDepth 100000 in
set_option maxHeartbeats 4000000 in
theorem open_ds (B q gb NN : Nat) (c0 cd : Int) (data : List Int) (A : Option Addr) (n k : Nat) (items : List (Nat × AvB)) (AL : Option Addr) (cL : Nat) (x : AvB) (d : Nat) (w : World) (h : Op B q (.slice (some ⟨gb, 0, none⟩) 1 1) A n k items w) (hG : Grp q A gb cd w) (hL : InL w AL 1 cL [x]) (hF : Far q A w x) (hB : B ≤ w.heap.size) (j : Nat) (hx : x.pure = nest c0 cd data (j + 1)) (hget : GetRes (encAs [nest c0 cd data j]) ([nest c0 cd data j], 0, 0)) (hd8 : d < 8) (hn : n ≤ 100)
    (IH : ∀ (A : Option Addr) (n k : Nat) (items : List (Nat × AvB)) (AL : Option Addr) (cL : Nat) (x : AvB) (w : World), Op B q (.slice (some ⟨gb, 0, none⟩) 1 1) A n k items w → Grp q A gb cd w → InL w AL 1 cL [x] → Far q A w x → B ≤ w.heap.size → x.pure = nest c0 cd data j → n ≤ NN → Calls Try.prog 34 #[.pointer (some ⟨q, 0, none⟩), .slice AL 1 cL, .int .i64 ((d + 1 : Nat) : Int)] w (DeepPost q A w)) (hNN : n + 1 ≤ NN) : Calls Try.prog 34 #[.pointer (some ⟨q, 0, none⟩), .slice AL 1 cL, .int .i64 (d : Int)] w (DeepPost q A w) := by
  have HGET := Lib.hid hget
  have HIH := Lib.hid IH
  clear IH hget
  have H := Lib.hid h
  have HG := Lib.hid hG
  have HL := Lib.hid hL
  have HF := Lib.hid hF
  have HB := Lib.hid hB
  clear h hG hL hF hB
  obtain ⟨c, v, m, p, A9, n9, k9, bs⟩ := x
  go_enter Try.func34, Try.ntmps34
  go_wp2_with fail
  go_loopw [10] (fun v wr => v = .int .i64 0 ∧ Hid (wr = w)) (fun v _ => 1 - (intOf v).toNat)
  case atStart => exact ⟨rfl, Lib.hid rfl⟩
  case round =>
    obtain ⟨rfl, hw⟩ := hrel
    have hwe := hw.out
    clear hw
    subst hwe
    obtain ⟨w, rfl⟩ : ∃ wx, wx = wr := ⟨_, rfl⟩
    have hx1 : c = cd ∧ v = 0 ∧ bs = encAs [nest c0 cd data j] := by injection hx with e1 e2 e3 e4 e5; exact ⟨e1, e2, e5⟩
    have HXP := Lib.hid hx
    clear hx
    obtain ⟨rfl, rfl, hbs⟩ := hx1
    have HBS := Lib.hid hbs
    clear hbs
    obtain ⟨x', ga, o, hx, rfl, k0, k1, k2, k3, k4, hci⟩ := HL.out.at_ (k := 0) (by omega)
    obtain rfl : ⟨c, 0, m, p, A9, n9, k9, bs⟩ = x' := by simpa using hx
    rw [Nat.zero_mul, Nat.add_zero] at k0 k1 k2 k3 k4
    clear hx hci
    simp only at k0 k1 k2 k3 k4
    have HCB := Lib.hid (new_at w (.cells #[.int .u32 c, .int .u32 0, .bool m, .bool p, .slice A9 n9 k9] 38))
    have HUa := Lib.hid (up_alloc w (.cells #[.int .u32 c, .int .u32 0, .bool m, .bool p, .slice A9 n9 k9] 38))
    go_upto_region 3 with (fail)
    generalize w.alloc (.cells #[.int .u32 c, .int .u32 0, .bool m, .bool p, .slice A9 n9 k9] 38) = wa at HCB HUa ⊢
    obtain ⟨pb, hpb⟩ : ∃ pb, w.heap.size = pb := ⟨_, rfl⟩
    rw [hpb] at HCB
    simp only [hpb]
    have HPB := Lib.hid (show w.heap.size ≤ pb from Nat.le_of_eq hpb)
    clear k0 k1 k2 k3 k4 hpb
    have y0 := cell_of HCB.out (j := 0) rfl
    have y1 := cell_of HCB.out (j := 1) rfl
    have y2 := cell_of HCB.out (j := 2) rfl
    have y3 := cell_of HCB.out (j := 3) rfl
    have y4 := cell_of HCB.out (j := 4) rfl
    go_wp2_with fail
    refine (add_ok B q _ A n k items c 0 m p A9 n9 k9 bs d wa (H.out.up HUa.out) (HF.out.step (HUa.out.out _) (.inl rfl)) hd8 (by omega) (Nat.le_trans HB.out HUa.out.size)).mono ?_
    rintro e w2 ⟨rfl, A2, n2, k2, HO2, HG2⟩
    have G2 := Lib.hid ((Go2.up (q := q) (A := A) HUa.out).trans HG2.out)
    have HC2 := Lib.hid (H.out.keepNew HCB.out HPB.out HG2.out)
    have HGr := Lib.hid (HG.out.step G2.out)
    have HF2 := Lib.hid (HF.out.step G2.out.out G2.out.row)
    have hn2 : n2 = n + 1 := by have h1 := HO2.out.len; have h2 := H.out.len; rw [List.length_append, List.length_singleton] at h1; omega
    clear y0 y1 y2 y3 y4
    have x0 := cell_of HC2.out (j := 0) rfl
    have x1 := cell_of HC2.out (j := 1) rfl
    have x2 := cell_of HC2.out (j := 2) rfl
    have x3 := cell_of HC2.out (j := 3) rfl
    have x4 := cell_of HC2.out (j := 4) rfl
    have q0 := cell_of HO2.out.top (j := 0) rfl
    have hgr := HGr.out.cell
    go_upto_region 4 with (fail)
    go_quiet ((go_at_call 41; exact Calls.quiet_of_same (contains_t gb c _ hgr)))
    have U3 := Lib.hid (up_drewN w2 nq)
    generalize w2.drewN nq = w3 at U3 ⊢
    have HO3 := Lib.hid (HO2.out.up U3.out)
    have G3 := Lib.hid (G2.out.trans (Go2.up U3.out))
    have HGr3 := Lib.hid (HGr.out.step (Go2.up U3.out))
    have HF3 := Lib.hid (HF2.out.step (U3.out.out _) (.inl rfl))
    have HC3 := Lib.hid (blk_up HC2.out U3.out)
    clear x0 x1 x2 x3 x4 q0 hgr HO2 HC2 HF2 HGr G2 U3
    have x0 := cell_of HC3.out (j := 0) rfl
    have x1 := cell_of HC3.out (j := 1) rfl
    have x2 := cell_of HC3.out (j := 2) rfl
    have x3 := cell_of HC3.out (j := 3) rfl
    have x4 := cell_of HC3.out (j := 4) rfl
    go_wp2_with fail
    refine (inside_ok ⟨c, 0, m, p, A9, n9, k9, bs⟩ [nest c0 c data j] w3 HF3.out.av (by rw [HBS.out]; exact HGET.out)).mono ?_
    rintro e w4 ⟨l4, A4, n4, c4, rfl, he4, hL4, hu4⟩
    have U4 := Lib.hid hu4.out
    obtain ⟨y, rfl⟩ : ∃ y, l4 = [y] := by
      have h1 := congrArg List.length he4.out
      rw [List.length_map] at h1
      match l4, h1 with
      | [y], _ => exact ⟨y, rfl⟩
    have HYP := Lib.hid (show y.pure = nest c0 c data j by simpa using he4.out)
    have hn4 : n4 = 1 := hL4.out.len.symm
    subst hn4
    have HO4 := Lib.hid (HO3.out.up U4.out)
    have G4 := Lib.hid (G3.out.trans (Go2.up U4.out))
    have HGr4 := Lib.hid (HGr3.out.step (Go2.up U4.out))
    have HY4 := Lib.hid (show Far q A2 w4 y from ⟨(hL4.out.av y (by simp)).1.avIn, fun _ kk hk => by
      have h1 := (row_lt (hL4.out.av y (by simp)).1.own hk).1
      have h2 := lt_of_blk HO3.out.top
      exact ⟨by omega, fun e => by have h3 := (HO3.out.alen e).2; omega⟩⟩)
    have HB4 := Lib.hid (show B ≤ w4.heap.size from Nat.le_trans HB.out G4.out.out.size)
    have hIH := HIH.out A2 n2 k2 _ A4 c4 y w4 HO4.out HGr4.out hL4.out.inL HY4.out HB4.out HYP.out (by omega)
    have HIH4 := Lib.hid hIH
    clear hIH x0 x1 x2 x3 x4
    go_wp2_with fail
    refine HIH4.out.mono ?_
    rintro e w5 ⟨rfl, A5, K3⟩
    exact ⟨rfl, rfl, A5, Lib.hid (G4.out.trans K3.out)⟩
theorem open_ok (B q gb : Nat) (c0 cd : Int) (data : List Int) (h0 : 0 ≤ c0 ∧ c0 < 4294967296) (h1 : 0 ≤ cd ∧ cd < 4294967296) (hb : Byt data) (hdl : data.length ≤ 100) (hcc : c0 ≠ cd) : ∀ (j d : Nat), d + j < 8 → ∀ (A : Option Addr) (n k : Nat) (items : List (Nat × AvB)) (AL : Option Addr) (cL : Nat) (x : AvB) (w : World), Op B q (.slice (some ⟨gb, 0, none⟩) 1 1) A n k items w → Grp q A gb cd w → InL w AL 1 cL [x] → Far q A w x → B ≤ w.heap.size → x.pure = nest c0 cd data j → n ≤ d + 20 → Calls Try.prog 34 #[.pointer (some ⟨q, 0, none⟩), .slice AL 1 cL, .int .i64 (d : Int)] w (OpenPost B q (.slice (some ⟨gb, 0, none⟩) 1 1) A items (chain c0 cd data d j) w)
  | 0, d, hdj, A, n, k, items, AL, cL, x, w, hO, hG, hL, hF, hB, hx, hn => open_0 B q gb c0 cd data A n k items AL cL x d w hO hG hL hF hB hx hcc (by omega) (by omega)
  | j + 1, d, hdj, A, n, k, items, AL, cL, x, w, hO, hG, hL, hF, hB, hx, hn => open_s B q gb (d + 21) c0 cd data A n k items AL cL x d w hO hG hL hF hB j hx (nest_get h0 h1 hb hdl (by omega)) (by omega) (by omega)
      (fun A n k items AL cL x w a1 a2 a3 a4 a5 a6 a7 => open_ok B q gb c0 cd data h0 h1 hb hdl hcc j (d + 1) (by omega) A n k items AL cL x w a1 a2 a3 a4 a5 a6 (by omega)) (by omega)
theorem open_deep (B q gb : Nat) (c0 cd : Int) (data : List Int) (h0 : 0 ≤ c0 ∧ c0 < 4294967296) (h1 : 0 ≤ cd ∧ cd < 4294967296) (hb : Byt data) (hdl : data.length ≤ 100) : ∀ (j d : Nat), d ≤ 8 → 8 ≤ d + j → j ≤ 14 → ∀ (A : Option Addr) (n k : Nat) (items : List (Nat × AvB)) (AL : Option Addr) (cL : Nat) (x : AvB) (w : World), Op B q (.slice (some ⟨gb, 0, none⟩) 1 1) A n k items w → Grp q A gb cd w → InL w AL 1 cL [x] → Far q A w x → B ≤ w.heap.size → x.pure = nest c0 cd data j → n ≤ d + 20 → Calls Try.prog 34 #[.pointer (some ⟨q, 0, none⟩), .slice AL 1 cL, .int .i64 (d : Int)] w (DeepPost q A w)
  | 0, d, hd, hdj, hj, A, n, k, items, AL, cL, x, w, hO, hG, hL, hF, hB, hx, hn => open_d0 B q gb c0 cd data A n k items AL cL x d w hO hG hL hF hB (by omega)
  | j + 1, d, hd, hdj, hj, A, n, k, items, AL, cL, x, w, hO, hG, hL, hF, hB, hx, hn => by
    by_cases h8 : 8 ≤ d
    · exact open_d0 B q gb c0 cd data A n k items AL cL x d w hO hG hL hF hB h8
    · exact open_ds B q gb (d + 21) c0 cd data A n k items AL cL x d w hO hG hL hF hB j hx (nest_get h0 h1 hb hdl (by omega)) (by omega) (by omega)
        (fun A n k items AL cL x w a1 a2 a3 a4 a5 a6 a7 => open_deep B q gb c0 cd data h0 h1 hb hdl j (d + 1) (by omega) (by omega) (by omega) A n k items AL cL x w a1 a2 a3 a4 a5 a6 (by omega)) (by omega)
end Go.Proofs.Ytiagapibfdpfdaa
