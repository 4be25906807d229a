import Derived.Test.YtfbjhialjepodaaNtSend
import Derived.Lib.Bytes
namespace Go.Proofs.Ytfbjhialjepodaa

open Go Go.RowKit
set_option linter.unusedVariables false
theorem conv_up {A : Option Addr} {n c : Nat} {xs : List Int} {w w' : World} (h : InB w A n c xs) (hu : Up w w') : (convert 38 9 (.slice A n c)).run Try.prog w' = .ok (.string (strOfNums xs)) w' := conv_I (P := Try.prog) Try.underlying38 Try.underlying5 Try.underlying9 (h.up hu).isI
theorem map_u8 : ∀ {xs ys : List Int}, Byt xs → Byt ys → xs.map (fun n => UInt8.ofNat n.toNat) = ys.map (fun n => UInt8.ofNat n.toNat) → xs = ys
  | [], [], _, _, _ => rfl
  | [], _ :: _, _, _, h => by simp at h
  | _ :: _, [], _, _, h => by simp at h
  | x :: xs, y :: ys, hx, hy, h => by
    simp only [List.map_cons, List.cons.injEq] at h
    have h1 := hx x (by simp)
    have h2 := hy y (by simp)
    have h3 := congrArg UInt8.toNat h.1
    simp only [UInt8.toNat_ofNat'] at h3
    have h4 : x = y := by omega
    rw [h4, map_u8 (fun z hz => hx z (by simp [hz])) (fun z hz => hy z (by simp [hz])) h.2]
theorem str_eq {xs ys : List Int} (hx : Byt xs) (hy : Byt ys) : ((strOfNums xs).toList == (strOfNums ys).toList) = decide (xs = ys) := by
  by_cases h : xs = ys
  · subst h; simp
  · rw [decide_eq_false h, beq_eq_false_iff_ne]
    intro e
    rw [Lib.strOfNums_toList, Lib.strOfNums_toList] at e
    exact h (map_u8 hx hy e)
set_option maxRecDepth 100000 in
set_option maxHeartbeats 1000000 in
theorem same_0 (fh fp th tp gh gp uh up : Int) (tn un : Bool) (A B : Option Addr) (n m c d : Nat) (w : World) (hn : ¬ ((fh = gh ∧ fp = gp ∧ th = uh ∧ tp = up) ∧ tn = un)) :
    Calls Try.prog 23 #[.agg #[.int .i64 fh, .int .i64 fp, .int .i64 th, .int .i64 tp, .slice A n c, .bool tn], .agg #[.int .i64 gh, .int .i64 gp, .int .i64 uh, .int .i64 up, .slice B m d, .bool un]] w fun e w' => e = .returned (.bool false) ∧ Up w w' := by
  have HN := Lib.hid hn
  clear hn
  go_enter Try.func23, Try.ntmps23
  go_upto_region 1 with (fail)
  have HU := Lib.hid ((up_alloc w (.cells #[.int .i64 fh, .int .i64 fp, .int .i64 th, .int .i64 tp, .slice A n c, .bool tn] 46)).trans (up_alloc _ (.cells #[.int .i64 gh, .int .i64 gp, .int .i64 uh, .int .i64 up, .slice B m d, .bool un] 46)))
  go_wp2_with fail
  all_goals first
    | (exfalso; exact HN.out ⟨⟨by assumption, by assumption, by assumption, by assumption⟩, by assumption⟩)
    | (go_ret; exact ⟨rfl, by simpa [*] using HU.out⟩)
set_option maxRecDepth 100000 in
set_option maxHeartbeats 1000000 in
theorem same_1 (fh fp th tp : Int) (tn : Bool) (xs ys : List Int) (A B : Option Addr) (n m c d : Nat) (w : World) (ha : InB w A n c xs) (hb : InB w B m d ys) :
    Calls Try.prog 23 #[.agg #[.int .i64 fh, .int .i64 fp, .int .i64 th, .int .i64 tp, .slice A n c, .bool tn], .agg #[.int .i64 fh, .int .i64 fp, .int .i64 th, .int .i64 tp, .slice B m d, .bool tn]] w fun e w' => e = .returned (.bool (decide (xs = ys))) ∧ Up w w' := by
  have HA := Lib.hid ha
  have HB := Lib.hid hb
  clear ha hb
  go_enter Try.func23, Try.ntmps23
  go_upto_region 1 with (fail)
  have HU := Lib.hid ((up_alloc w (.cells #[.int .i64 fh, .int .i64 fp, .int .i64 th, .int .i64 tp, .slice A n c, .bool tn] 46)).trans (up_alloc _ (.cells #[.int .i64 fh, .int .i64 fp, .int .i64 th, .int .i64 tp, .slice B m d, .bool tn] 46)))
  have h1 := conv_up HA.out HU.out
  have h2 := conv_up HB.out HU.out
  go_wp2_with fail
  go_ret
  exact ⟨by simp [str_eq HA.out.byt HB.out.byt], HU.out⟩
instance : DecidableEq Nt.Fr := fun a b => if h : ((a.fh = b.fh ∧ a.fp = b.fp ∧ a.th = b.th ∧ a.tp = b.tp) ∧ a.tn = b.tn) ∧ a.bytes = b.bytes then .isTrue (by
    obtain ⟨a1, a2, a3, a4, a5, a6⟩ := a
    obtain ⟨b1, b2, b3, b4, b5, b6⟩ := b
    simp at h ⊢
    simp [h]) else .isFalse (fun e => h (by subst e; simp))
theorem same (f g : Nt.Fr) (A B : Option Addr) (n m c d : Nat) (w : World) (ha : InB w A n c f.bytes) (hb : InB w B m d g.bytes) :
    Calls Try.prog 23 #[frV f (.slice A n c), frV g (.slice B m d)] w fun e w' => e = .returned (.bool (decide (f = g))) ∧ Up w w' := by
  obtain ⟨fh, fp, th, tp, xs, tn⟩ := f
  obtain ⟨gh, gp, uh, up, ys, un⟩ := g
  by_cases h : (fh = gh ∧ fp = gp ∧ th = uh ∧ tp = up) ∧ tn = un
  · obtain ⟨⟨rfl, rfl, rfl, rfl⟩, rfl⟩ := h
    refine (same_1 fh fp th tp tn xs ys A B n m c d w ha hb).mono fun e w' ⟨he, hu⟩ => ⟨?_, hu⟩
    rw [he]
    congr 2
    simp
  · refine (same_0 fh fp th tp gh gp uh up tn un A B n m c d w h).mono fun e w' ⟨he, hu⟩ => ⟨?_, hu⟩
    rw [he]
    congr 2
    symm
    rw [decide_eq_false_iff_not]
    intro e
    injection e with e1 e2 e3 e4 e5 e6
    exact h ⟨⟨e1, e2, e3, e4⟩, e6⟩
end Go.Proofs.Ytfbjhialjepodaa
namespace Go.Proofs.Ytfbjhialjepodaa
open Go Go.RowKit
set_option linter.unusedVariables false
namespace Nt
def takeF (st : St) (k : Int) : Fr := if has st k then fr st k else default
def takeE (st : St) (k : Int) : Int := if has st k then 0 else 8
def takeT (st : St) (k : Int) : St := if has st k then takeS st k else st
end Nt
section
variable {IsN IsR : (Nat → Prop) → World → Addr → Nt.St → Prop}
theorem takeN (C : NC IsN) (S : Nat → Prop) (p : Addr) (st : Nt.St) (k : Int) (w : World) (h : IsN S w p st) (hk : I64n k) :
    Calls Try.prog 16 #[.pointer (some p), .int .i64 k] w fun e w' => ∃ S' A c, e = .returned (.tuple #[frV (Nt.takeF st k) (.slice A (Nt.takeF st k).bytes.length c), .int .i64 (Nt.takeE st k)]) ∧ InB w' A (Nt.takeF st k).bytes.length c (Nt.takeF st k).bytes ∧ (∀ b, blk? A = some b → ¬ S' b ∧ (S b ∨ w.heap.size ≤ b)) ∧ IsN S' w' p (Nt.takeT st k) ∧ Sub S' S w ∧ Out S w w' := by
  unfold Nt.takeF Nt.takeE Nt.takeT
  by_cases hh : Nt.has st k
  · simp only [if_pos hh]
    exact C.take S p st k w h hh
  · simp only [if_neg hh]
    exact (C.takeNo S p st k w h hk hh).mono fun e w' ⟨S', he, h1, h2, h3⟩ => ⟨S', none, 0, he, inB_nil _, (fun b hb => by cases hb), h1, h2, h3⟩
theorem takeR (R : RC IsR) (S : Nat → Prop) (p : Addr) (st : Nt.St) (k : Int) (w : World) (h : IsR S w p st) (hk : I64n k) :
    Calls Try.prog 22 #[.pointer (some p), .int .i64 k] w fun e w' => ∃ S' A c, e = .returned (.tuple #[frV (Nt.takeF st k) (.slice A (Nt.takeF st k).bytes.length c), .int .i64 (Nt.takeE st k)]) ∧ InB w' A (Nt.takeF st k).bytes.length c (Nt.takeF st k).bytes ∧ (∀ b, blk? A = some b → ¬ S' b) ∧ IsR S' w' p (Nt.takeT st k) ∧ Sub S' S w ∧ Out S w w' := by
  unfold Nt.takeF Nt.takeE Nt.takeT
  by_cases hh : Nt.has st k
  · simp only [if_pos hh]
    exact R.take S p st k w h hh
  · simp only [if_neg hh]
    exact (R.takeNo S p st k w h hk hh).mono fun e w' ⟨S', he, h1, h2, h3⟩ => ⟨S', none, 0, he, inB_nil _, (fun b hb => by cases hb), h1, h2, h3⟩
set_option maxRecDepth 100000 in
set_option maxHeartbeats 2000000 in
theorem act_take (C : NC IsN) (R : RC IsR) (w0 : World) (p r : Addr) (st : Nt.St) (x : ActD) (Ai : Option Addr) (ci : Nat) (w : World) (h : AtD IsN IsR w0 p r st st w) (hx : ActOk w0 x Ai ci) :
    Calls Try.prog 10 #[.pointer (some p), .pointer (some r), .agg #[.int .i64 2, .int .i64 x.k, .int .i64 x.at_, .int .i64 x.fh, .int .i64 x.fp, .int .i64 x.th, .int .i64 x.tp, .slice Ai x.bytes.length ci, .int .u8 x.bits, .bool x.down]] w fun e w' => e = .returned (.bool true) ∧ AtD IsN IsR w0 p r (Nt.takeT st x.k) (Nt.takeT st x.k) w' := by
  obtain ⟨S, Sr, hF⟩ := atB_of C R h #[.int .i64 2, .int .i64 x.k, .int .i64 x.at_, .int .i64 x.fh, .int .i64 x.fp, .int .i64 x.th, .int .i64 x.tp, .slice Ai x.bytes.length ci, .int .u8 x.bits, .bool x.down]
  have HC := Lib.hid C
  have HR := Lib.hid R
  have HX := Lib.hid hx
  have HF := Lib.hid (show AtF IsN IsR w0 p r w.heap.size #[.int .i64 2, .int .i64 x.k, .int .i64 x.at_, .int .i64 x.fh, .int .i64 x.fp, .int .i64 x.th, .int .i64 x.tp, .slice Ai x.bytes.length ci, .int .u8 x.bits, .bool x.down] st st S Sr _ from hF)
  clear C R h hx hF
  go_enter Try.func10, Try.ntmps10
  go_wp2_with fail
  generalize (w.alloc (.cells #[.int .i64 2, .int .i64 x.k, .int .i64 x.at_, .int .i64 x.fh, .int .i64 x.fp, .int .i64 x.th, .int .i64 x.tp, .slice Ai x.bytes.length ci, .int .u8 x.bits, .bool x.down] 40)) = W at HF ⊢
  generalize w.heap.size = ab at HF ⊢
  refine (takeN HC.out S p st x.k W HF.out.1 HX.out.i64.2.1).mono ?_
  rintro e w1 ⟨S1, A, c, rfl, hb1, hn1, h1, hs1, ho1⟩
  obtain ⟨g1, g2, g3, ⟨g4, g4'⟩, g5, ⟨g6, g6'⟩, g7⟩ := HF.out
  have hxA : ∀ b, blk? A = some b → ¬ Sr b := fun b hb hs => by
    rcases (hn1 b hb).2 with h | h
    · exact g3 b h hs
    · have := HR.out.lt g2 b hs; omega
  have hxS : ¬ Sr w1.heap.size := fun hs => by have := HR.out.lt g2 _ hs; have := ho1.size; omega
  have a1 : AtF IsN IsR w0 p r ab #[.int .i64 2, .int .i64 x.k, .int .i64 x.at_, .int .i64 x.fh, .int .i64 x.fp, .int .i64 x.th, .int .i64 x.tp, .slice Ai x.bytes.length ci, .int .u8 x.bits, .bool x.down] (Nt.takeT st x.k) st S1 Sr w1 := ⟨h1, HR.out.keep g2 (fun k hk => ho1.block k (HR.out.lt g2 k hk) (fun hs => g3 k hs hk)), fun k hk hr => by
    rcases hs1 k hk with h8 | h8
    · exact g3 k h8 hr
    · have := HR.out.lt g2 k hr; omega, ⟨g4.sub hs1 g5.size, g4'⟩, Below.out g5 ho1 g4 g5.size, ⟨Out.not hs1 g6 (lt_of_blk g7), g6'⟩, ho1.blk g7 g6⟩
  obtain ⟨f, hf⟩ : ∃ f, f = Nt.takeF st x.k := ⟨_, rfl⟩
  obtain ⟨tE, htE⟩ : ∃ t, t = Nt.takeE st x.k := ⟨_, rfl⟩
  rw [← hf] at hb1 ⊢
  rw [← htE]
  obtain ⟨N, hN⟩ : ∃ N, N = f.bytes.length := ⟨_, rfl⟩
  rw [← hN] at hb1 ⊢
  have HFF := Lib.hid hf
  have HEE := Lib.hid htE
  have HNN := Lib.hid hN
  clear hf htE hN hn1 h1 hs1 ho1 HF g1 g2 g3 g4 g4' g5 g6 g6' g7
  have u1 := up_alloc w1 (.cells #[.int .i64 f.fh, .int .i64 f.fp, .int .i64 f.th, .int .i64 f.tp, .slice A N c, .bool f.tn] 46)
  have HA := Lib.hid (atF_up HC.out HR.out a1 u1)
  have XA := Lib.hid (hb1.up u1)
  have hxb := new_at w1 (.cells #[.int .i64 f.fh, .int .i64 f.fp, .int .i64 f.th, .int .i64 f.tp, .slice A N c, .bool f.tn] 46)
  have HXA := Lib.hid hxA
  have HXS := Lib.hid hxS
  have HXB := Lib.hid hxb
  clear hb1 a1 u1 hxA hxS hxb
  unfold frV
  go_upto_region 6 with (fail)
  generalize (w1.alloc (.cells #[.int .i64 f.fh, .int .i64 f.fp, .int .i64 f.th, .int .i64 f.tp, .slice A N c, .bool f.tn] 46)) = w2 at HA XA HXB ⊢
  generalize w1.heap.size = xb at HXS HXB ⊢
  have k1 : w2.cell? ⟨ab, 1, none⟩ = some (.int .i64 x.k) := atB_cell (atF_B HA.out) (j := 1) rfl
  go_wp2_with fail
  clear k1
  refine (takeR HR.out Sr r st x.k w2 HA.out.2.1 HX.out.i64.2.1).mono ?_
  rintro e w3 ⟨S3, B, d, rfl, hb3, hn3, h3, hs3, ho3⟩
  obtain ⟨g1, g2, g3, ⟨g4, g4'⟩, g5, ⟨g6, g6'⟩, g7⟩ := HA.out
  have a3 : AtF IsN IsR w0 p r ab #[.int .i64 2, .int .i64 x.k, .int .i64 x.at_, .int .i64 x.fh, .int .i64 x.fp, .int .i64 x.th, .int .i64 x.tp, .slice Ai x.bytes.length ci, .int .u8 x.bits, .bool x.down] (Nt.takeT st x.k) (Nt.takeT st x.k) S1 S3 w3 := ⟨HC.out.keep g1 (fun k hk => ho3.block k (HC.out.lt g1 k hk) (g3 k hk)), h3, fun k hk hr => by
    rcases hs3 k hr with h8 | h8
    · exact g3 k hk h8
    · have := HC.out.lt g1 k hk; omega, ⟨g4, g4'.sub hs3 g5.size⟩, Below.out g5 ho3 g4' g5.size, ⟨g6, Out.not hs3 g6' (lt_of_blk g7)⟩, ho3.blk g7 g6'⟩
  rw [← HFF.out] at hb3 ⊢
  rw [← HEE.out]
  rw [← HNN.out] at hb3 ⊢
  have x3 := inB_out XA.out ho3 HXA.out
  have b3 := ho3.blk HXB.out HXS.out
  have u3 := up_alloc w3 (.cells #[.int .i64 f.fh, .int .i64 f.fp, .int .i64 f.th, .int .i64 f.tp, .slice B N d, .bool f.tn] 46)
  have HD := Lib.hid (atF_up HC.out HR.out a3 u3)
  have X4 := Lib.hid (x3.up u3)
  have Y4 := Lib.hid (hb3.up u3)
  have B4 := Lib.hid ((u3.block xb (lt_of_blk b3)).trans b3)
  have D4 := Lib.hid (new_at w3 (.cells #[.int .i64 f.fh, .int .i64 f.fp, .int .i64 f.th, .int .i64 f.tp, .slice B N d, .bool f.tn] 46))
  clear g1 g2 g3 g4 g4' g5 g6 g6' g7 hb3 hn3 h3 hs3 ho3 a3 x3 b3 u3 HA XA HXB HXS HXA
  unfold frV
  go_upto_region 7 with (fail)
  generalize (w3.alloc (.cells #[.int .i64 f.fh, .int .i64 f.fp, .int .i64 f.th, .int .i64 f.tp, .slice B N d, .bool f.tn] 46)) = w4 at HD X4 Y4 B4 D4 ⊢
  generalize w3.heap.size = yb at D4 ⊢
  have l0 := cell_of B4.out (j := 0) rfl
  have l1 := cell_of B4.out (j := 1) rfl
  have l2 := cell_of B4.out (j := 2) rfl
  have l3 := cell_of B4.out (j := 3) rfl
  have l4 := cell_of B4.out (j := 4) rfl
  have l5 := cell_of B4.out (j := 5) rfl
  have m0 := cell_of D4.out (j := 0) rfl
  have m1 := cell_of D4.out (j := 1) rfl
  have m2 := cell_of D4.out (j := 2) rfl
  have m3 := cell_of D4.out (j := 3) rfl
  have m4 := cell_of D4.out (j := 4) rfl
  have m5 := cell_of D4.out (j := 5) rfl
  go_wp2_with fail
  clear l0 l1 l2 l3 l4 l5 m0 m1 m2 m3 m4 m5
  refine (same f f A B N N c d w4 X4.out Y4.out).mono ?_
  rintro e w5 ⟨rfl, hu⟩
  rw [decide_eq_true rfl]
  go_wp2_with fail
  go_ret
  exact ⟨rfl, atD_of (atF_B (atF_up HC.out HR.out HD.out hu))⟩
end
end Go.Proofs.Ytfbjhialjepodaa
namespace Go.Proofs.Ytfbjhialjepodaa
open Go Go.RowKit
set_option linter.unusedVariables false
/-- What an act makes of a net. -/
def actT (st : Nt.St) (x : ActD) : Nt.St :=
  if x.kind = 1 then Nt.sendS st (x.fh, x.fp) (x.th, x.tp) x.bytes
  else if x.kind = 2 then Nt.takeT st x.k
  else if x.kind = 3 then Nt.twinS st x.k
  else if x.kind = 4 then Nt.lastS st x.k
  else if x.kind = 5 then Nt.turnS st x.k x.at_ x.bits
  else if x.kind = 6 then Nt.cutS st x.fh x.th x.fp x.down else st
def acV (x : ActD) (Ai : Option Addr) (ci : Nat) : Value := .agg (actCells x Ai ci).toArray
section
variable {IsN IsR : (Nat → Prop) → World → Addr → Nt.St → Prop}
theorem atD_up (C : NC IsN) (R : RC IsR) {w0 w w' : World} {p r : Addr} {st sr : Nt.St} (h : AtD IsN IsR w0 p r st sr w) (hu : Up w w') : AtD IsN IsR w0 p r st sr w' := by
  obtain ⟨S, Sr, h1, h2, h3, h4, h5⟩ := h
  exact ⟨S, Sr, C.up h1 hu, R.keep h2 (fun k hk => hu.block k (R.lt h2 k hk)), h3, h4, h5.trans (hu.mono h5.size)⟩
set_option maxRecDepth 100000 in
set_option maxHeartbeats 2000000 in
theorem act_none (C : NC IsN) (R : RC IsR) (w0 : World) (p r : Addr) (st sr : Nt.St) (x : ActD) (Ai : Option Addr) (ci : Nat) (w : World) (h : AtD IsN IsR w0 p r st sr w) (h1 : ¬ x.kind = 1) (h2 : ¬ x.kind = 2) (h3 : ¬ x.kind = 3) (h4 : ¬ x.kind = 4) (h5 : ¬ x.kind = 5) (h6 : ¬ x.kind = 6) :
    Calls Try.prog 10 #[.pointer (some p), .pointer (some r), acV x Ai ci] w fun e w' => e = .returned (.bool true) ∧ AtD IsN IsR w0 p r st sr w' := by
  have HD := Lib.hid (atD_up C R h (up_alloc w (.cells (actCells x Ai ci).toArray 40)))
  clear C R h
  unfold acV actCells
  unfold actCells at HD
  generalize x.kind = kk at h1 h2 h3 h4 h5 h6 HD ⊢
  go_enter Try.func10, Try.ntmps10
  go_wp2_with fail
  go_ret
  exact ⟨rfl, HD.out⟩
theorem act_all (C : NC IsN) (R : RC IsR) (w0 : World) (p r : Addr) (st : Nt.St) (x : ActD) (Ai : Option Addr) (ci : Nat) (w : World) (h : AtD IsN IsR w0 p r st st w) (hx : ActOk w0 x Ai ci) :
    Calls Try.prog 10 #[.pointer (some p), .pointer (some r), acV x Ai ci] w fun e w' => e = .returned (.bool true) ∧ AtD IsN IsR w0 p r (actT st x) (actT st x) w' := by
  unfold actT
  by_cases h1 : x.kind = 1
  · rw [if_pos h1]
    unfold acV actCells; rw [h1]
    refine (act_send C R w0 p r st st x Ai ci w h hx).mono fun e w' ⟨he, hw⟩ => ⟨by rw [he]; simp, hw⟩
  rw [if_neg h1]
  by_cases h2 : x.kind = 2
  · rw [if_pos h2]
    unfold acV actCells; rw [h2]; exact act_take C R w0 p r st x Ai ci w h hx
  rw [if_neg h2]
  by_cases h3 : x.kind = 3
  · rw [if_pos h3]
    unfold acV actCells; rw [h3]
    refine (act_twin C R w0 p r st st x Ai ci w h hx).mono fun e w' ⟨he, hw⟩ => ⟨by rw [he]; simp, hw⟩
  rw [if_neg h3]
  by_cases h4 : x.kind = 4
  · rw [if_pos h4]
    unfold acV actCells; rw [h4]
    refine (act_last C R w0 p r st st x Ai ci w h hx).mono fun e w' ⟨he, hw⟩ => ⟨by rw [he]; simp, hw⟩
  rw [if_neg h4]
  by_cases h5 : x.kind = 5
  · rw [if_pos h5]
    unfold acV actCells; rw [h5]
    refine (act_turn C R w0 p r st st x Ai ci w h hx).mono fun e w' ⟨he, hw⟩ => ⟨by rw [he]; simp, hw⟩
  rw [if_neg h5]
  by_cases h6 : x.kind = 6
  · rw [if_pos h6]
    unfold acV actCells; rw [h6]
    refine (act_cut C R w0 p r st st x Ai ci w h hx).mono fun e w' ⟨he, hw⟩ => ⟨by rw [he]; simp, hw⟩
  rw [if_neg h6]
  exact act_none C R w0 p r st st x Ai ci w h h1 h2 h3 h4 h5 h6
end
end Go.Proofs.Ytfbjhialjepodaa
namespace Go.Proofs.Ytfbjhialjepodaa
open Go Go.RowKit
set_option linter.unusedVariables false
theorem agg29 (w : World) : (isAgg 29).run Try.prog w = .ok false w := by kernel_rfl
theorem fld341 (b o : Nat) (w : World) : (Instr.fieldAt 34 (.pointer (some ⟨b, o, none⟩)) 1).run Try.prog w = .ok (.pointer (some ⟨b, o + 1, none⟩)) w := by kernel_rfl
theorem run_index29 {b o n c i : Nat} {w : World} (hi : i < n) : (Instr.indexAt 29 (.slice (some ⟨b, o, none⟩) n c) (.int .i64 (i : Int))).run Try.prog w = .ok (.pointer (some ⟨b, o + i * 6, none⟩)) w := by
  rw [run_indexT Try.underlying29 (siz46 w) hi, add_flat]
theorem x_not {P : Program} {o : Oper} {a : Act} {w : World} (x : Operand) (t : TypeId) {b : Bool} (ho : o.op = .unOp .not t x) (hx : a.eval x = .bool b) : (execOp a.eval o).run P w = .ok (.value (.bool (!b))) w := by
  have hr : (Op.unary .not (.bool b)).run P w = .ok (.bool (!b)) w := by simp [go_sem]
  simp [execOp, ho, hx, hr, Result.andThen]
/-- The six cells of a frame. -/
def At46 (w : World) (b o : Nat) (f : Nt.Fr) (v : Value) : Prop := w.cell? ⟨b, o, none⟩ = some (.int .i64 f.fh) ∧ w.cell? ⟨b, o + 1, none⟩ = some (.int .i64 f.fp) ∧ w.cell? ⟨b, o + 2, none⟩ = some (.int .i64 f.th) ∧ w.cell? ⟨b, o + 3, none⟩ = some (.int .i64 f.tp) ∧ w.cell? ⟨b, o + 4, none⟩ = some v ∧ w.cell? ⟨b, o + 5, none⟩ = some (.bool f.tn)
theorem load46_up {w w' : World} {b o : Nat} {f : Nt.Fr} {v : Value} (h : At46 w b o f v) (hu : Up w w') : (Instr.loadAt 46 (.pointer (some ⟨b, o, none⟩))).run Try.prog w' = .ok (frV f v) w' := by
  obtain ⟨h0, h1, h2, h3, h4, h5⟩ := h
  have hc : ∀ (j : Nat) (u : Value), [Value.int .i64 f.fh, .int .i64 f.fp, .int .i64 f.th, .int .i64 f.tp, v, .bool f.tn][j]? = some u → w'.cell? ((⟨b, o, none⟩ : Addr).add j) = some u := fun j u hv => by
    rw [add_flat]
    match j, hv with
    | 0, hv => cases hv; exact cell_up h0 hu
    | 1, hv => cases hv; exact cell_up h1 hu
    | 2, hv => cases hv; exact cell_up h2 hu
    | 3, hv => cases hv; exact cell_up h3 hu
    | 4, hv => cases hv; exact cell_up h4 hu
    | 5, hv => cases hv; exact cell_up h5 hu
  have hl := run_loadCellsFrom_list Try.prog w' ⟨b, o, none⟩ _ 6 rfl hc
  simp [Instr.loadAt, Instr.sureAddr, loadVar, Result.andThen, loadCells, hl, frV]
section
variable {IsN IsR : (Nat → Prop) → World → Addr → Nt.St → Prop}
set_option maxRecDepth 100000 in
set_option maxHeartbeats 2000000 in
theorem alike (C : NC IsN) (R : RC IsR) (w0 : World) (p r : Addr) (st : Nt.St) (w : World) (h : AtD IsN IsR w0 p r st st w) :
    Calls Try.prog 11 #[.pointer (some p), .pointer (some r)] w fun e w' => e = .returned (.bool true) ∧ AtD IsN IsR w0 p r st st w' := by
  obtain ⟨S, Sr, h1, h2, h3, ⟨h4, h4'⟩, h5⟩ := h
  have HC := Lib.hid C
  have HR := Lib.hid R
  have I1 := Lib.hid h1
  have HG := Lib.hid (And.intro h2 (And.intro h3 (And.intro h4 (And.intro h4' h5))))
  clear C R h1 h2 h3 h4 h4' h5
  go_enter Try.func11, Try.ntmps11
  go_wp2_with fail
  refine (HC.out.list S p st _ I1.out).mono ?_
  rintro e w1 ⟨S1, A, c, rfl, hfr, h1, hs1, ho1⟩
  obtain ⟨g2, g3, g4, g4', g5⟩ := HG.out
  have hR1 := HR.out.keep g2 (fun k hk => ho1.block k (HR.out.lt g2 k hk) (fun hs => g3 k hs hk))
  have HD := Lib.hid (show AtD IsN IsR w0 p r st st w1 from ⟨S1, Sr, h1, hR1, fun k hk hr => by
    rcases hs1 k hk with h8 | h8
    · exact g3 k h8 hr
    · have := HR.out.lt g2 k hr; omega, ⟨g4.sub hs1 g5.size, g4'⟩, Below.out g5 ho1 g4 g5.size⟩)
  obtain ⟨rb, B, d, rfl, kB, hrow⟩ := HR.out.way hR1
  have hbd := (HC.out.bd h1).2.1
  obtain ⟨N, hN⟩ : ∃ N, N = st.way.length := ⟨_, rfl⟩
  rw [← hN] at kB hbd ⊢
  have HFR := Lib.hid hfr
  have HROW := Lib.hid hrow
  have HN := Lib.hid hN
  have J1 := Lib.hid h1
  clear hfr hrow hN h1 hs1 ho1 hR1 g2 g3 g4 g4' g5 HG I1
  go_wp2_with fail
  refine (HC.out.len S1 p st w1 J1.out).mono ?_
  rintro e w2 ⟨rfl, hu2⟩
  rw [← HN.out]
  have HU := Lib.hid hu2
  clear hu2
  go_wp2_with fail
  go_loopw [6] (fun s wx => ∃ i : Nat, i ≤ N ∧ s = .int .i64 i ∧ Hid (Up w1 wx)) (fun s _ => N - (intOf s).toNat)
  case atStart => exact ⟨0, Nat.zero_le _, rfl, HU⟩
  case round =>
    obtain ⟨i, hi, rfl, hU⟩ := hrel
    clear HU
    by_cases hlt : i < N
    · obtain ⟨g, o, Ai, ci, rfl, kA, hA, _⟩ := HFR.out i (by rw [← HN.out]; exact hlt)
      obtain ⟨g2, o2, Bi, di, rfl, kR, hB⟩ := HROW.out i (by rw [← HN.out]; exact hlt)
      obtain ⟨f, hf⟩ : ∃ f, f = st.way.getD i default := ⟨_, rfl⟩
      rw [← hf] at kA hA kR hB
      have HKA := Lib.hid (show At46 w1 g (o + i * 6) f _ from kA)
      have HKB := Lib.hid (show At46 w1 g2 (o2 + i * 6) f _ from kR)
      have HIA := Lib.hid hA
      have HIB := Lib.hid hB
      clear hf kA hA kR hB
      go_upto_region 7 with (fail)
      refine staged_lit (by kernel_rfl) (facts [Is (.slice (some ⟨g, o, none⟩) N c), Is (.int .i64 (i : Int)), Is (.pointer (some ⟨g, o + i * 6, none⟩)), Is (frV f (.slice Ai f.bytes.length ci)), Is (.pointer (some ⟨rb, 0, none⟩)), Is (.pointer (some ⟨rb, 0, none⟩)), Is (.pointer (some ⟨rb, 1, none⟩)), Is (.slice (some ⟨g2, o2, none⟩) N d), Is (.int .i64 (i : Int)), Is (.pointer (some ⟨g2, o2 + i * 6, none⟩)), Is (frV f (.slice Bi f.bytes.length di)), Is (.bool true), Is (.bool false)]) (Stg [] (fun _ wx => Up w1 wx)) 43 rfl (by decide +kernel) (by decide +kernel) (Stg.start (hU.out.trans (Up.drew wr))) ?_ ?_
      · refine ⟨?_, ?_, ?_, ?_, ?_, ?_, ?_, ?_, ?_, ?_, ?_, ?_, ?_, trivial⟩
        · refine opS_same rfl rfl fun L ac w1 hJ hl hc ho hd => ?_
          have s5 : ac.eval (.tmp 5) = .slice (some ⟨g, o, none⟩) N c := ho 5 rfl
          exact ⟨_, x_move (.tmp 5) rfl s5, rfl⟩
        · refine opS_same rfl rfl fun L ac w1 hJ hl hc ho hd => ?_
          have s6 : ac.eval (.tmp 6) = .int .i64 (i : Int) := ho 6 rfl
          exact ⟨_, x_move (.tmp 6) rfl s6, rfl⟩
        · refine opS_same rfl rfl fun L ac w1 hJ hl hc ho hd => ?_
          have d0 : ac.eval (.tmp 30) = .slice (some ⟨g, o, none⟩) N c := hd 0 _ _ rfl rfl rfl
          have d1 : ac.eval (.tmp 31) = .int .i64 (i : Int) := hd 1 _ _ rfl rfl rfl
          exact ⟨_, x_index 29 (.tmp 30) (.tmp 31) rfl d0 d1 (run_index29 hlt), rfl⟩
        · refine opS_same rfl rfl fun L ac w1 hJ hl hc ho hd => ?_
          have d2 : ac.eval (.tmp 32) = .pointer (some ⟨g, o + i * 6, none⟩) := hd 2 _ _ rfl rfl rfl
          obtain ⟨_, _, hW⟩ := hJ
          exact ⟨_, x_load 46 (.tmp 32) rfl d2 (load46_up HKA.out hW), rfl⟩
        · refine opS_same rfl rfl fun L ac w1 hJ hl hc ho hd => ?_
          have s1 : ac.eval (.tmp 1) = .pointer (some ⟨rb, 0, none⟩) := ho 1 rfl
          exact ⟨_, x_move (.tmp 1) rfl s1, rfl⟩
        · refine opS_same rfl rfl fun L ac w1 hJ hl hc ho hd => ?_
          have d4 : ac.eval (.tmp 34) = .pointer (some ⟨rb, 0, none⟩) := hd 4 _ _ rfl rfl rfl
          exact ⟨_, x_nil (.tmp 34) rfl d4, rfl⟩
        · refine opS_same rfl rfl fun L ac w1 hJ hl hc ho hd => ?_
          have d5 : ac.eval (.tmp 35) = .pointer (some ⟨rb, 0, none⟩) := hd 5 _ _ rfl rfl rfl
          exact ⟨_, x_field 34 (.tmp 35) 1 rfl d5 (fld341 _ _ _), rfl⟩
        · refine opS_same rfl rfl fun L ac w1 hJ hl hc ho hd => ?_
          have d6 : ac.eval (.tmp 36) = .pointer (some ⟨rb, 1, none⟩) := hd 6 _ _ rfl rfl rfl
          obtain ⟨_, _, hW⟩ := hJ
          exact ⟨_, x_load 29 (.tmp 36) rfl d6 (run_load1 agg29 (cell_up kB hW)), rfl⟩
        · refine opS_same rfl rfl fun L ac w1 hJ hl hc ho hd => ?_
          have s6 : ac.eval (.tmp 6) = .int .i64 (i : Int) := ho 6 rfl
          exact ⟨_, x_move (.tmp 6) rfl s6, rfl⟩
        · refine opS_same rfl rfl fun L ac w1 hJ hl hc ho hd => ?_
          have d7 : ac.eval (.tmp 37) = .slice (some ⟨g2, o2, none⟩) N d := hd 7 _ _ rfl rfl rfl
          have d8 : ac.eval (.tmp 38) = .int .i64 (i : Int) := hd 8 _ _ rfl rfl rfl
          exact ⟨_, x_index 29 (.tmp 37) (.tmp 38) rfl d7 d8 (run_index29 hlt), rfl⟩
        · refine opS_same rfl rfl fun L ac w1 hJ hl hc ho hd => ?_
          have d9 : ac.eval (.tmp 39) = .pointer (some ⟨g2, o2 + i * 6, none⟩) := hd 9 _ _ rfl rfl rfl
          obtain ⟨_, _, hW⟩ := hJ
          exact ⟨_, x_load 46 (.tmp 39) rfl d9 (load46_up HKB.out hW), rfl⟩
        · refine opS_callUp rfl rfl (fun k w w' h hu => h.trans hu) (facts_keep (by simp [keeps_is])) fun L ac w1 hJ hl hc ho hd => ?_
          have d3 : ac.eval (.tmp 33) = frV f (.slice Ai f.bytes.length ci) := hd 3 _ _ rfl rfl rfl
          have d10 : ac.eval (.tmp 40) = frV f (.slice Bi f.bytes.length di) := hd 10 _ _ rfl rfl rfl
          obtain ⟨_, _, hW⟩ := hJ
          refine ⟨23, _, x_fcall 23 [.tmp 33, .tmp 40] _ rfl (by kernel_rfl), ?_⟩
          simp only [List.map_cons, List.map_nil, d3, d10]
          exact (same f f Ai Bi _ _ ci di w1 (HIA.out.up hW) (HIB.out.up hW)).mono fun e w2 ⟨he, hu⟩ => ⟨_, he, hu, by rw [decide_eq_true rfl]; rfl⟩
        · refine opS_same rfl rfl fun L ac w1 hJ hl hc ho hd => ?_
          have d11 : ac.eval (.tmp 41) = .bool true := hd 11 _ _ rfl rfl rfl
          exact ⟨_, x_not (.tmp 41) 4 rfl d11, rfl⟩
      · intro L a1 w9 hI hall
        obtain ⟨k, hk, hW⟩ := hI.done hall (by simp)
        have Z := Lib.hid (show Up w1 w9 from hW)
        clear hW hk k
        have l0 : a1.tmps.getD 0 undef = .pointer (some p) := hI.old 0 rfl
        have l1 : a1.tmps.getD 1 undef = .pointer (some ⟨rb, 0, none⟩) := hI.old 1 rfl
        have l2 : a1.tmps.getD 2 undef = undef := hI.old 2 rfl
        have l3 : a1.tmps.getD 3 undef = undef := hI.old 3 rfl
        have l4 : a1.tmps.getD 4 undef = u4 := hI.old 4 rfl
        have l5 : a1.tmps.getD 5 undef = .slice (some ⟨g, o, none⟩) N c := hI.old 5 rfl
        have l6 : a1.tmps.getD 6 undef = .int .i64 (i : Int) := hI.old 6 rfl
        have l7 : a1.tmps.getD 7 undef = .pointer (some p) := hI.old 7 rfl
        have l8 : a1.tmps.getD 8 undef = .slice (some ⟨g, o, none⟩) N c := hI.old 8 rfl
        have l9 : a1.tmps.getD 9 undef = .slice (some ⟨g, o, none⟩) N c := hI.old 9 rfl
        have l10 : a1.tmps.getD 10 undef = .int .i64 (N : Int) := hI.old 10 rfl
        have l11 : a1.tmps.getD 11 undef = .pointer (some ⟨rb, 0, none⟩) := hI.old 11 rfl
        have l12 : a1.tmps.getD 12 undef = .pointer (some ⟨rb, 0, none⟩) := hI.old 12 rfl
        have l13 : a1.tmps.getD 13 undef = .pointer (some ⟨rb, 1, none⟩) := hI.old 13 rfl
        have l14 : a1.tmps.getD 14 undef = .slice (some ⟨g2, o2, none⟩) N d := hI.old 14 rfl
        have l15 : a1.tmps.getD 15 undef = .int .i64 (N : Int) := hI.old 15 rfl
        have l16 : a1.tmps.getD 16 undef = .bool false := hI.old 16 rfl
        have l17 : a1.tmps.getD 17 undef = .bool false := hI.old 17 rfl
        have l18 : a1.tmps.getD 18 undef = .pointer (some p) := hI.old 18 rfl
        have l19 : a1.tmps.getD 19 undef = .int .i64 (N : Int) := hI.old 19 rfl
        have l20 : a1.tmps.getD 20 undef = .slice (some ⟨g, o, none⟩) N c := hI.old 20 rfl
        have l21 : a1.tmps.getD 21 undef = .int .i64 (N : Int) := hI.old 21 rfl
        have l22 : a1.tmps.getD 22 undef = .bool false := hI.old 22 rfl
        have l23 : a1.tmps.getD 23 undef = .bool false := hI.old 23 rfl
        have l42 : a1.tmps.getD 42 undef = .bool false := hI.get hall (i := 12) rfl rfl
        have hde : a1.defers = [] := hI.defers
        have hal := act_lit a1 43 hI.size
        clear hI
        simp only [List.range, List.range.loop, List.map_cons, List.map_nil] at hal
        rw [l0, l1, l2, l3, l4, l5, l6, l7, l8, l9, l10, l11, l12, l13, l14, l15, l16, l17, l18, l19, l20, l21, l22, l23, l42, hde] at hal
        generalize a1.tmps.getD 24 undef = t24 at hal
        generalize a1.tmps.getD 25 undef = t25 at hal
        generalize a1.tmps.getD 26 undef = t26 at hal
        generalize a1.tmps.getD 27 undef = t27 at hal
        generalize a1.tmps.getD 28 undef = t28 at hal
        generalize a1.tmps.getD 29 undef = t29 at hal
        generalize a1.tmps.getD 30 undef = t30 at hal
        generalize a1.tmps.getD 31 undef = t31 at hal
        generalize a1.tmps.getD 32 undef = t32 at hal
        generalize a1.tmps.getD 33 undef = t33 at hal
        generalize a1.tmps.getD 34 undef = t34 at hal
        generalize a1.tmps.getD 35 undef = t35 at hal
        generalize a1.tmps.getD 36 undef = t36 at hal
        generalize a1.tmps.getD 37 undef = t37 at hal
        generalize a1.tmps.getD 38 undef = t38 at hal
        generalize a1.tmps.getD 39 undef = t39 at hal
        generalize a1.tmps.getD 40 undef = t40 at hal
        generalize a1.tmps.getD 41 undef = t41 at hal
        clear l0 l1 l2 l3 l4 l5 l6 l7 l8 l9 l10 l11 l12 l13 l14 l15 l16 l17 l18 l19 l20 l21 l22 l23 l42 hde
        subst hal
        go_wp2_with fail
        go_roundw
        case rel => exact ⟨i + 1, by omega, by go_num, Z⟩
        case measure => simp [intOf]; omega
    · have hn : i = N := by omega
      go_wp2_with fail
      go_ret
      exact ⟨rfl, atD_up HC.out HR.out HD.out hU.out⟩
end
end Go.Proofs.Ytfbjhialjepodaa
