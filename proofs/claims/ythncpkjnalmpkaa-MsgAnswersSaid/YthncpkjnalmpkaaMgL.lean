import Derived.Test.YthncpkjnalmpkaaMgK
import Derived.Test.YthncpkjnalmpkaaCk1
namespace Go.Proofs.Ythncpkjnalmpkaa
open Go Go.RowKit Mg
set_option linter.unusedVariables false
set_option linter.unusedSimpArgs false
/-! Head. -/
theorem results_row_tmp {P : Program} {fn : Func} {p u : Tmp} {ty : TypeId} (h : fn.results = #[.cell p ty, .tmp u]) (tmps : Array Value) (w : World) (g : Nat) (t : TypeId) (cs : Array Value) (fr : Nat × Nat) (d : TypeDesc)
    (hp : tmps.getD p undef = .pointer (some ⟨g, 0, none⟩)) (hg : w.heap[g]? = some (.cells cs t fr))
    (hu : P.underlying ty = some d) (hd : (match d with | .struct _ | .array _ _ => true | _ => false) = true) (hi : (P.info? ty).map (·.size) = some cs.size) :
    (results fn tmps).run P w = .ok (.tuple #[.agg cs, tmps.getD u undef]) w := by
  have hp' : tmps[p]?.getD undef = .pointer (some ⟨g, 0, none⟩) := by simpa using hp
  simp [results, h, hp', asAddr, run_loadVar_row w g t ty cs fr d hg hu hd hi, Result.andThen]

def noA (m : Msg) : MsB := ⟨m.req, m.prox, m.fail, m.again, m.code, m.app, m.hop, m.end_, none, 0, 0, []⟩
def HPost (b : List Int) (w : World) (e : Ending) (w' : World) : Prop := ∃ m k, e = .returned (.tuple #[msV (noA m), .int .i64 k]) ∧ Hid (headM b = (m, k)) ∧ Hid (Up w w')
theorem hPost_no {b : List Int} {w w' : World} {e : Ending} {k : Int} (he : e = .returned (.tuple #[.agg #[.bool false, .bool false, .bool false, .bool false, .int .u32 0, .int .u32 0, .int .u32 0, .int .u32 0, .slice none 0 0], .int .i64 k])) (hk : headE b = k) (h0 : k ≠ 0) (hu : Up w w') : HPost b w e w' :=
  ⟨noM, k, he, Lib.hid (by unfold headM; rw [hk, if_neg h0]), Lib.hid hu⟩
theorem rawM_flags {b : List Int} (hb : Byt b) : withF (noA { rawM b with req := false, prox := false, fail := false, again := false }) (bitB (b.getD 4 0)) = noA (rawM b) := by
  have h := getD_byt hb 4
  unfold withF noA rawM bitB
  simp only [bitF]
  have e : decide (b.getD 4 0 / 128 % 2 = 1) = decide (b.getD 4 0 / 128 = 1) := by
    rw [decide_eq_decide]; omega
  rw [e]
theorem cellB {w : World} {g o m c : Nat} {b : List Int} (h : InB w (some ⟨g, o, none⟩) m c b) {j : Nat} (hj : j < m) : w.cell? ⟨g, o + j, none⟩ = some (.int .u8 (b.getD j 0)) := by
  obtain ⟨g', o', e, hlt, hc⟩ := h.cells (by intro e; have := h.len; rw [ints, List.map_eq_nil_iff] at e; subst e; simp at this; omega)
  injection e with e; injection e with e1 e2; subst e1; subst e2
  refine hc j _ ?_
  have hj2 : j < b.length := by rw [h.len]; exact hj
  simp [ints, List.getD_eq_getElem?_getD, List.getElem?_eq_getElem hj2]
theorem InB.some_ {w : World} {A : Option Addr} {m c : Nat} {b : List Int} (h : InB w A m c b) (hm : 0 < m) : ∃ g o, A = some ⟨g, o, none⟩ := by
  obtain ⟨g', o', e, hlt, hc⟩ := h.cells (by intro e; have := h.len; rw [ints, List.map_eq_nil_iff] at e; subst e; simp at this; omega)
  exact ⟨g', o', e⟩
set_option maxRecDepth 100000 in
set_option maxHeartbeats 8000000 in
theorem mhead_short (A : Option Addr) (n c : Nat) (b : List Int) (w : World) (h : InB w A n c b) (hn : n < 20) : Calls Try.prog 16 #[.slice A n c] w (HPost b w) := by
  have HE := Lib.hid (show headE b = 3 by unfold headE; rw [if_pos (by rw [h.len]; exact hn)])
  clear h
  have HU := Lib.hid (up_alloc w (.cells #[.bool false, .bool false, .bool false, .bool false, .int .u32 0, .int .u32 0, .int .u32 0, .int .u32 0, .slice none 0 0] 25))
  have HQ := Lib.hid (new_at w (.cells #[.bool false, .bool false, .bool false, .bool false, .int .u32 0, .int .u32 0, .int .u32 0, .int .u32 0, .slice none 0 0] 25))
  have d1 : decide ((n : Int) < 20) = true := decide_eq_true (by omega)
  go_enter Try.func16, Try.ntmps16
  go_upto_region 1 with (fail)
  obtain ⟨q, HQE⟩ : ∃ q, Hid (w.heap.size = q) := ⟨_, Lib.hid rfl⟩
  rw [HQE.out] at HQ ⊢
  generalize w.alloc (.cells #[.bool false, .bool false, .bool false, .bool false, .int .u32 0, .int .u32 0, .int .u32 0, .int .u32 0, .slice none 0 0] 25) = wa at HU HQ ⊢
  go_wp2_with (with_reducible refine wpList_store_row rfl 25 _ _ rfl q #[.bool false, .bool false, .bool false, .bool false, .int .u32 0, .int .u32 0, .int .u32 0, .int .u32 0, .slice none 0 0] rfl rfl 25 _ HQ.out (by kernel_rfl) rfl (by simp [Value.oneCell']) ?_)
  refine bodyPost_ret (results_row_tmp (fn := Try.f16) (p := 2) (u := 3) (ty := 25) rfl _ _ q 25 _ (0, 0) _ rfl (setRow_heap _ _ _ _ _ _ HQ.out) Try.underlying25 rfl (by kernel_rfl)) rfl ?_
  exact hPost_no rfl HE.out (by decide) (below_setRow HU.out (by rw [HQE.out]; exact Nat.le_refl _) _)
set_option maxRecDepth 100000 in
set_option maxHeartbeats 20000000 in
theorem mhead_long (A : Option Addr) (n c : Nat) (b : List Int) (w : World) (h : InB w A n c b) (hm : n ≤ 140737488355328) (hn : 20 ≤ n) : Calls Try.prog 16 #[.slice A n c] w (HPost b w) := by
  obtain ⟨g, o, rfl⟩ := h.some_ (by omega)
  have hbyt := h.byt
  have HE := Lib.hid (show headE b = if b.getD 0 0 ≠ 1 then 2 else if 4096 < lenM b then 4 else if b.length < lenM b then 3
  else if lenM b < b.length ∨ lenM b % 4 ≠ 0 ∨ mixM (rawM b) = true then 2 else 0 by unfold headE; rw [if_neg (by rw [h.len]; omega)])
  rw [h.len] at HE
  have HI := Lib.hid h
  obtain ⟨L, HL⟩ : ∃ L : Nat, Hid (num 0 ((b.drop 1).take 3) = (L : Int)) := ⟨_, Lib.hid (Int.eq_ofNat_of_zero_le (num24 h.byt 1 3 (.inl rfl)).1).choose_spec⟩
  have HLM := Lib.hid (show lenM b = L by unfold lenM; rw [HL.out]; rfl)
  have hL24 : L < 16777216 := by have := (num24 h.byt 1 3 (.inl rfl)).2; rw [HL.out, p256_3'] at this; omega
  rw [HLM.out] at HE
  have b0 := (getD_byt h.byt 0).1
  have b1 := (getD_byt h.byt 0).2
  obtain ⟨b00, HB0⟩ : ∃ x : Int, Hid (b.getD 0 0 = x) := ⟨_, Lib.hid rfl⟩
  obtain ⟨b04, HB4⟩ : ∃ x : Int, Hid (b.getD 4 0 = x) := ⟨_, Lib.hid rfl⟩
  have b2 := (getD_byt h.byt 4).1
  have b3 := (getD_byt h.byt 4).2
  rw [HB4.out] at b2 b3
  rw [HB0.out] at HE b0 b1
  clear h
  have HU := Lib.hid (up_alloc w (.cells #[.bool false, .bool false, .bool false, .bool false, .int .u32 0, .int .u32 0, .int .u32 0, .int .u32 0, .slice none 0 0] 25))
  have HQ := Lib.hid (new_at w (.cells #[.bool false, .bool false, .bool false, .bool false, .int .u32 0, .int .u32 0, .int .u32 0, .int .u32 0, .slice none 0 0] 25))
  have d1 : decide ((n : Int) < 20) = false := decide_eq_false (by omega)
  go_enter Try.func16, Try.ntmps16
  go_upto_region 1 with (fail)
  obtain ⟨q, HQE⟩ : ∃ q, Hid (w.heap.size = q) := ⟨_, Lib.hid rfl⟩
  rw [HQE.out] at HQ ⊢
  generalize w.alloc (.cells #[.bool false, .bool false, .bool false, .bool false, .int .u32 0, .int .u32 0, .int .u32 0, .int .u32 0, .slice none 0 0] 25) = wa at HU HQ ⊢
  have HIa := Lib.hid (HI.out.up HU.out)
  go_wp2_with fail
  refine (mnumber_any _ n c 1 3 b wa HIa.out hm (by omega) (by omega) (by omega)).mono ?_
  rw [HL.out]
  rintro e w' ⟨rfl, hw⟩
  obtain rfl := hw.symm
  have c0 : wa.cell? ⟨g, o, none⟩ = some (.int .u8 b00) := by have := cellB HIa.out (j := 0) (by omega); rw [HB0.out] at this; exact this
  by_cases hv : b00 = 1
  case neg =>
    have d2 : (b00 != 1) = true := by simpa using hv
    go_wp2_with (with_reducible refine wpList_store_row rfl 25 _ _ rfl q #[.bool false, .bool false, .bool false, .bool false, .int .u32 0, .int .u32 0, .int .u32 0, .int .u32 0, .slice none 0 0] rfl rfl 25 _ HQ.out (by kernel_rfl) rfl (by simp [Value.oneCell']) ?_)
    refine bodyPost_ret (results_row_tmp (fn := Try.f16) (p := 2) (u := 3) (ty := 25) rfl _ _ q 25 _ (0, 0) _ rfl (setRow_heap _ _ _ _ _ _ HQ.out) Try.underlying25 rfl (by kernel_rfl)) rfl ?_
    exact hPost_no rfl (by rw [HE.out, if_pos hv]) (by decide) (below_setRow HU.out (by rw [HQE.out]; exact Nat.le_refl _) _)
  subst hv
  have HE := Lib.hid (show headE b = if 4096 < L then 4 else if n < L then 3 else if L < n ∨ L % 4 ≠ 0 ∨ mixM (rawM b) = true then 2 else 0 by rw [HE.out, if_neg (fun h => h rfl)])
  by_cases h4 : 4096 < L
  case pos =>
    have d3 : decide (4096 < (L : Int)) = true := decide_eq_true (by omega)
    go_wp2_with (with_reducible refine wpList_store_row rfl 25 _ _ rfl q #[.bool false, .bool false, .bool false, .bool false, .int .u32 0, .int .u32 0, .int .u32 0, .int .u32 0, .slice none 0 0] rfl rfl 25 _ HQ.out (by kernel_rfl) rfl (by simp [Value.oneCell']) ?_)
    refine bodyPost_ret (results_row_tmp (fn := Try.f16) (p := 2) (u := 3) (ty := 25) rfl _ _ q 25 _ (0, 0) _ rfl (setRow_heap _ _ _ _ _ _ HQ.out) Try.underlying25 rfl (by kernel_rfl)) rfl ?_
    exact hPost_no rfl (by rw [HE.out, if_pos h4]) (by decide) (below_setRow HU.out (by rw [HQE.out]; exact Nat.le_refl _) _)
  have d3 : decide (4096 < (L : Int)) = false := decide_eq_false (by omega)
  have HE := Lib.hid (show headE b = if n < L then 3 else if L < n ∨ L % 4 ≠ 0 ∨ mixM (rawM b) = true then 2 else 0 by rw [HE.out, if_neg h4])
  by_cases hs : n < L
  case pos =>
    have d4 : decide ((n : Int) < (L : Int)) = true := decide_eq_true (by omega)
    go_wp2_with (with_reducible refine wpList_store_row rfl 25 _ _ rfl q #[.bool false, .bool false, .bool false, .bool false, .int .u32 0, .int .u32 0, .int .u32 0, .int .u32 0, .slice none 0 0] rfl rfl 25 _ HQ.out (by kernel_rfl) rfl (by simp [Value.oneCell']) ?_)
    refine bodyPost_ret (results_row_tmp (fn := Try.f16) (p := 2) (u := 3) (ty := 25) rfl _ _ q 25 _ (0, 0) _ rfl (setRow_heap _ _ _ _ _ _ HQ.out) Try.underlying25 rfl (by kernel_rfl)) rfl ?_
    exact hPost_no rfl (by rw [HE.out, if_pos hs]) (by decide) (below_setRow HU.out (by rw [HQE.out]; exact Nat.le_refl _) _)
  have d4 : decide ((n : Int) < (L : Int)) = false := decide_eq_false (by omega)
  have HE := Lib.hid (show headE b = if L < n ∨ L % 4 ≠ 0 ∨ mixM (rawM b) = true then 2 else 0 by rw [HE.out, if_neg hs])
  by_cases hs2 : L < n
  case pos =>
    have d5 : decide ((L : Int) < (n : Int)) = true := decide_eq_true (by omega)
    go_wp2_with (with_reducible refine wpList_store_row rfl 25 _ _ rfl q #[.bool false, .bool false, .bool false, .bool false, .int .u32 0, .int .u32 0, .int .u32 0, .int .u32 0, .slice none 0 0] rfl rfl 25 _ HQ.out (by kernel_rfl) rfl (by simp [Value.oneCell']) ?_)
    refine bodyPost_ret (results_row_tmp (fn := Try.f16) (p := 2) (u := 3) (ty := 25) rfl _ _ q 25 _ (0, 0) _ rfl (setRow_heap _ _ _ _ _ _ HQ.out) Try.underlying25 rfl (by kernel_rfl)) rfl ?_
    exact hPost_no rfl (by rw [HE.out, if_pos (.inl hs2)]) (by decide) (below_setRow HU.out (by rw [HQE.out]; exact Nat.le_refl _) _)
  have d5 : decide ((L : Int) < (n : Int)) = false := decide_eq_false (by omega)
  go_upto_region 10 with (fail)
  by_cases hp : L % 4 = 0
  case neg =>
    have HPN := Lib.hid (show padN L ≠ 0 by unfold padN; omega)
    have d6 : (((padN L : Nat) : Int) != 0) = true := by simp; exact HPN.out
    go_wp2_with fail
    refine (pad_any L wa (by omega)).mono ?_
    rintro e wx ⟨rfl, hw⟩
    obtain rfl := hw
    go_wp2_with (with_reducible refine wpList_store_row rfl 25 _ _ rfl q #[.bool false, .bool false, .bool false, .bool false, .int .u32 0, .int .u32 0, .int .u32 0, .int .u32 0, .slice none 0 0] rfl rfl 25 _ HQ.out (by kernel_rfl) rfl (by simp [Value.oneCell']) ?_)
    refine bodyPost_ret (results_row_tmp (fn := Try.f16) (p := 2) (u := 3) (ty := 25) rfl _ _ q 25 _ (0, 0) _ rfl (setRow_heap _ _ _ _ _ _ HQ.out) Try.underlying25 rfl (by kernel_rfl)) rfl ?_
    exact hPost_no rfl (by rw [HE.out, if_pos (.inr (.inl hp))]) (by decide) (below_setRow HU.out (by rw [HQE.out]; exact Nat.le_refl _) _)
  have HLN := Lib.hid (show L = n by omega)
  have HPN := Lib.hid (show padN L = 0 by unfold padN; omega)
  have HE := Lib.hid (show headE b = if mixM (rawM b) = true then 2 else 0 by
    rw [HE.out]
    by_cases hx : mixM (rawM b) = true
    · rw [if_pos (.inr (.inr hx)), if_pos hx]
    · rw [if_neg (by rintro (h | h | h); exact hs2 h; exact h hp; exact hx h), if_neg hx])
  go_wp2_with fail
  refine (pad_any L wa (by omega)).mono ?_
  rw [HPN.out]
  rintro e wx ⟨rfl, hw⟩
  obtain rfl := hw
  clear hs hs2 hp h4 b0 b1 d1 d3 d4 d5 c0
  obtain ⟨C, HC⟩ : ∃ x : Int, Hid (num 0 ((b.drop 5).take 3) = x) := ⟨_, Lib.hid rfl⟩
  go_wp2_with fail
  refine (mnumber_any _ n c 5 3 b wa HIa.out hm (by omega) (by omega) (by omega)).mono ?_
  rw [HC.out]
  rintro e w0 ⟨rfl, hw⟩
  obtain rfl := hw.symm
  obtain ⟨P, HP⟩ : ∃ x : Int, Hid (num 0 ((b.drop 8).take 4) = x) := ⟨_, Lib.hid rfl⟩
  go_wp2_with fail
  refine (mnumber_any _ n c 8 4 b wa HIa.out hm (by omega) (by omega) (by omega)).mono ?_
  rw [HP.out]
  rintro e w1 ⟨rfl, hw⟩
  obtain rfl := hw.symm
  obtain ⟨H, HH⟩ : ∃ x : Int, Hid (num 0 ((b.drop 12).take 4) = x) := ⟨_, Lib.hid rfl⟩
  go_wp2_with fail
  refine (mnumber_any _ n c 12 4 b wa HIa.out hm (by omega) (by omega) (by omega)).mono ?_
  rw [HH.out]
  rintro e w2 ⟨rfl, hw⟩
  obtain rfl := hw.symm
  obtain ⟨N, HNN⟩ : ∃ x : Int, Hid (num 0 ((b.drop 16).take 4) = x) := ⟨_, Lib.hid rfl⟩
  go_wp2_with fail
  refine (mnumber_any _ n c 16 4 b wa HIa.out hm (by omega) (by omega) (by omega)).mono ?_
  rw [HNN.out]
  rintro e w3 ⟨rfl, hw⟩
  obtain rfl := hw.symm
  go_upto_region 13 with (fail)
  obtain ⟨p, HPP⟩ : ∃ p, Hid (wa.heap.size = p) := ⟨_, Lib.hid rfl⟩
  have HX := Lib.hid (new_at wa (.cells #[.bool false, .bool false, .bool false, .bool false, .int .u32 C, .int .u32 P, .int .u32 H, .int .u32 N, .slice none 0 0] 25))
  have HUb := Lib.hid (up_alloc wa (.cells #[.bool false, .bool false, .bool false, .bool false, .int .u32 C, .int .u32 P, .int .u32 H, .int .u32 N, .slice none 0 0] 25))
  rw [HPP.out] at HX ⊢
  generalize wa.alloc (.cells #[.bool false, .bool false, .bool false, .bool false, .int .u32 C, .int .u32 P, .int .u32 H, .int .u32 N, .slice none 0 0] 25) = wb at HX HUb ⊢
  have hqp : q < p := by have := lt_of_blk HQ.out; have := HPP.out; omega
  have HQb := Lib.hid (blk_up HQ.out HUb.out)
  have c4 : wb.cell? ⟨g, o + 4, none⟩ = some (.int .u8 b04) := by have := cellB (HIa.out.up HUb.out) (j := 4) (by omega); rw [HB4.out] at this; exact this
  have HX2 := Lib.hid (show wb.heap[p]? = some (msO (noA { rawM b with req := false, prox := false, fail := false, again := false })) by rw [HX.out, ← HC.out, ← HP.out, ← HH.out, ← HNN.out]; rfl)
  have HFX := Lib.hid (show withF (noA { rawM b with req := false, prox := false, fail := false, again := false }) (bitB b04) = noA (rawM b) by rw [← HB4.out]; exact rawM_flags hbyt)
  clear HX HC HP HH HNN
  go_wp2_with fail
  refine (raise_any _ p b04 wb HX2.out b2 b3).mono ?_
  rw [HFX.out]
  rintro e wc ⟨rfl, hblk, hout⟩
  have HQc := Lib.hid (hout.out.blk HQb.out (by omega))
  have HUc := Lib.hid (show Up w wc from Below.out (Up.trans HU.out HUb.out) hout.out (fun k hk => by have := HQE.out; omega) (Up.trans HU.out HUb.out).size)
  have HBK := Lib.hid hblk.out
  clear hblk hout HX2 HFX c4 HQb HUb HPP
  have z0 : wc.cell? ⟨p, 0, none⟩ = some (.bool (rawM b).req) := cell_of HBK.out (j := 0) rfl
  have z1 : wc.cell? ⟨p, 1, none⟩ = some (.bool (rawM b).prox) := cell_of HBK.out (j := 1) rfl
  have z2 : wc.cell? ⟨p, 2, none⟩ = some (.bool (rawM b).fail) := cell_of HBK.out (j := 2) rfl
  have z3 : wc.cell? ⟨p, 3, none⟩ = some (.bool (rawM b).again) := cell_of HBK.out (j := 3) rfl
  have z4 : wc.cell? ⟨p, 4, none⟩ = some (.int .u32 (rawM b).code) := cell_of HBK.out (j := 4) rfl
  have z5 : wc.cell? ⟨p, 5, none⟩ = some (.int .u32 (rawM b).app) := cell_of HBK.out (j := 5) rfl
  have z6 : wc.cell? ⟨p, 6, none⟩ = some (.int .u32 (rawM b).hop) := cell_of HBK.out (j := 6) rfl
  have z7 : wc.cell? ⟨p, 7, none⟩ = some (.int .u32 (rawM b).end_) := cell_of HBK.out (j := 7) rfl
  have z8 : wc.cell? ⟨p, 8, none⟩ = some (.slice none 0 0) := cell_of HBK.out (j := 8) rfl
  cases hmx : mixM (rawM b)
  case true =>
    have HMX := Lib.hid hmx
    clear hmx
    go_wp2_with fail
    refine (agree_any (noA (rawM b)) _).mono ?_
    rw [show (noA (rawM b)).pure = rawM b from rfl, HMX.out]
    rintro e wd ⟨rfl, hud⟩
    have HQd := Lib.hid (blk_up HQc.out hud)
    have HUd := Lib.hid (Up.trans HUc.out hud)
    clear z0 z1 z2 z3 z4 z5 z6 z7 z8
    simp only [Bool.not_true, Bool.not_false]
    go_wp2_with (with_reducible refine wpList_store_row rfl 25 _ _ rfl q #[.bool false, .bool false, .bool false, .bool false, .int .u32 0, .int .u32 0, .int .u32 0, .int .u32 0, .slice none 0 0] rfl rfl 25 _ HQd.out (by kernel_rfl) rfl (by simp [Value.oneCell']) ?_)
    refine bodyPost_ret (results_row_tmp (fn := Try.f16) (p := 2) (u := 3) (ty := 25) rfl _ _ q 25 _ (0, 0) _ rfl (setRow_heap _ _ _ _ _ _ HQd.out) Try.underlying25 rfl (by kernel_rfl)) rfl ?_
    exact hPost_no rfl (by rw [HE.out, HMX.out, if_pos rfl]) (by decide) (below_setRow HUd.out (by rw [HQE.out]; exact Nat.le_refl _) _)
  case false =>
    have HMX := Lib.hid hmx
    clear hmx
    go_wp2_with fail
    refine (agree_any (noA (rawM b)) _).mono ?_
    rw [show (noA (rawM b)).pure = rawM b from rfl, HMX.out]
    rintro e wd ⟨rfl, hud⟩
    have HQd := Lib.hid (blk_up HQc.out hud)
    have HUd := Lib.hid (Up.trans HUc.out hud)
    have HBd := Lib.hid (blk_up HBK.out hud)
    clear z0 z1 z2 z3 z4 z5 z6 z7 z8 hud
    have z0 : wd.cell? ⟨p, 0, none⟩ = some (.bool (rawM b).req) := cell_of HBd.out (j := 0) rfl
    have z1 : wd.cell? ⟨p, 1, none⟩ = some (.bool (rawM b).prox) := cell_of HBd.out (j := 1) rfl
    have z2 : wd.cell? ⟨p, 2, none⟩ = some (.bool (rawM b).fail) := cell_of HBd.out (j := 2) rfl
    have z3 : wd.cell? ⟨p, 3, none⟩ = some (.bool (rawM b).again) := cell_of HBd.out (j := 3) rfl
    have z4 : wd.cell? ⟨p, 4, none⟩ = some (.int .u32 (rawM b).code) := cell_of HBd.out (j := 4) rfl
    have z5 : wd.cell? ⟨p, 5, none⟩ = some (.int .u32 (rawM b).app) := cell_of HBd.out (j := 5) rfl
    have z6 : wd.cell? ⟨p, 6, none⟩ = some (.int .u32 (rawM b).hop) := cell_of HBd.out (j := 6) rfl
    have z7 : wd.cell? ⟨p, 7, none⟩ = some (.int .u32 (rawM b).end_) := cell_of HBd.out (j := 7) rfl
    have z8 : wd.cell? ⟨p, 8, none⟩ = some (.slice none 0 0) := cell_of HBd.out (j := 8) rfl
    simp only [Bool.not_true, Bool.not_false]
    go_wp2_with (with_reducible refine wpList_store_row rfl 25 _ _ rfl q #[.bool (rawM b).req, .bool (rawM b).prox, .bool (rawM b).fail, .bool (rawM b).again, .int .u32 (rawM b).code, .int .u32 (rawM b).app, .int .u32 (rawM b).hop, .int .u32 (rawM b).end_, .slice none 0 0] rfl rfl 25 _ HQd.out (by kernel_rfl) rfl (by simp [Value.oneCell']) ?_)
    refine bodyPost_ret (results_row_tmp (fn := Try.f16) (p := 2) (u := 3) (ty := 25) rfl _ _ q 25 _ (0, 0) _ rfl (setRow_heap _ _ _ _ _ _ HQd.out) Try.underlying25 rfl (by kernel_rfl)) rfl ?_
    exact ⟨rawM b, 0, rfl, Lib.hid (by unfold headM; rw [HE.out, HMX.out]; rfl), Lib.hid (below_setRow HUd.out (by rw [HQE.out]; exact Nat.le_refl _) _)⟩
end Go.Proofs.Ythncpkjnalmpkaa
