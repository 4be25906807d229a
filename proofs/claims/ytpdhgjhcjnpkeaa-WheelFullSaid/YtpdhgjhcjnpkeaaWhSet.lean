import Derived.Test.YtpdhgjhcjnpkeaaWhHC
namespace Go.Proofs.Ytpdhgjhcjnpkeaa
open Go Go.RowKit
set_option linter.unusedVariables false
theorem zero3 (w : World) : (zeroValue 3).run Try.prog w = .ok (.int .i64 0) w := by kernel_rfl
theorem loc_has {E : List Ent} {a : List Tm.T} (h : Loc E a) (hk : Keyd E) {i : Nat} (hi : i < a.length) : lookE E (Hp.at_ a i).1 = some (i : Int) := by
  obtain ⟨b, hb⟩ := h.mem hi
  exact lookE_mem hk.keys hb
theorem has_at {a : List Tm.T} {id : Int} (h : Tm.has a id = true) : ∃ i, i < a.length ∧ (Hp.at_ a i).1 = id := by
  obtain ⟨x, hx, e⟩ := Tm.has_iff.1 h
  obtain ⟨i, hi, e2⟩ := List.mem_iff_getElem.1 hx
  refine ⟨i, hi, ?_⟩
  rw [← e, ← e2]
  unfold Hp.at_
  rw [List.getD_eq_getElem?_getD, List.getElem?_eq_getElem hi]; rfl
theorem look_no {w : World} {M : Option Nat} {a : List Tm.T} {id : Int} (h : MapO w M a) (hn : Tm.has a id = false) : (Instr.lookup 41 (.map M) (.int .i64 id) true).run Try.prog w = .ok (.tuple #[.int .i64 0, .bool false]) w := by
  cases M with
  | none => exact run_lookI_nil Try.underlying41 Try.underlying3 zero3 id
  | some m =>
    obtain ⟨E, h1, h2⟩ := h
    have := run_lookI Try.underlying41 Try.underlying3 zero3 h1 id
    have e : lookE E id = none := by
      rw [lookE_none]
      intro x hx hk
      obtain ⟨i, hi, h3, _⟩ := (h2 x.1 x.2.1).1 ⟨x.2.2, hx⟩
      have : Tm.has a id = true := Tm.has_iff.2 ⟨_, Hp.at_mem hi, by rw [← h3, hk]⟩
      rw [hn] at this; cases this
    rw [e] at this
    exact this
theorem look_yes {w : World} {m : Nat} {a : List Tm.T} {i : Nat} {E : List Ent} (h1 : MapI w m E) (h2 : Loc E a) (hi : i < a.length) : (Instr.lookup 41 (.map (some m)) (.int .i64 (Hp.at_ a i).1) true).run Try.prog w = .ok (.tuple #[.int .i64 (i : Int), .bool true]) w := by
  have := run_lookI Try.underlying41 Try.underlying3 zero3 h1 (Hp.at_ a i).1
  rw [loc_has h2 h1.keyd hi] at this
  exact this
theorem RowB.setAt {w : World} {g c : Nat} {a : List Tm.T} (h : RowB w g c a) {i : Nat} (hi : i < a.length) (n : Int) : RowB (w.setCell ⟨g, i * 2 + 1, none⟩ (.int .i64 n)) g c (a.set i ((Hp.at_ a i).1, n)) := by
  obtain ⟨w', h1, h2, _⟩ := h.storeAt hi n
  obtain ⟨⟨cur, h3, h4, _⟩, h5, _⟩ := h
  have := run_store1 (P := Try.prog) (t := 3) (v := .int .i64 n) (j := i * 2 + 1) (fun w => siz3 w) h3 (by omega) rfl rfl
  rw [h1] at this
  injection this with _ this
  rw [← this]
  exact h2
theorem perm_del {y : Tm.T} {X a : List Tm.T} (h : (y :: X).Perm a) (hi : Tm.Ids a) : X.Perm (Tm.del y.1 a) := by
  have h1 := Hp.del_perm h y.1
  have h2 : Tm.Ids (y :: X) := (Hp.ids_perm h).2 hi
  unfold Tm.Ids at h2
  rw [List.map_cons, List.nodup_cons] at h2
  have e : Tm.del y.1 (y :: X) = X := by
    unfold Tm.del
    rw [List.filter_cons_of_neg (by simp)]
    refine List.filter_eq_self.2 fun x hx => ?_
    rw [bne_iff_ne]
    intro e
    exact h2.1 (List.mem_map.2 ⟨x, hx, e⟩)
  rwa [e] at h1
theorem out_lies {pb c : Nat} {A : Option Addr} {M : Option Nat} {w w' : World} {g : Nat} (h : Out (fun k => k = g) w w') (hg : Lies pb A M g) : Out (Lies pb A M) w w' := h.mono (fun k hk => by rw [hk]; exact hg)
set_option maxRecDepth 100000 in
set_option maxHeartbeats 1000000 in
theorem set_old (S : Nat → Prop) (p : Addr) (L : List Tm.T) (id at_ : Int) (w : World) (h : IsW S w p L) (h0 : 0 ≤ at_) (h1 : at_ ≤ 1099511627776) (hh : Tm.has L id = true) :
    Calls Try.prog 8 #[.pointer (some p), .int .i64 id, .int .i64 at_] w fun e w' => ∃ S', e = .returned (.int .i64 0) ∧ IsW S' w' p (Tm.set L id at_) ∧ Sub S' S w ∧ Out S w w' := by
  obtain ⟨a, ⟨pb, A, c, M, rfl, rfl, hA⟩, hheap, hperm, hsrt, hids⟩ := h
  obtain ⟨i, hi, rfl⟩ := has_at (by rw [Hp.has_perm hperm]; exact hh)
  obtain ⟨g, rfl, hgp, hrow⟩ := rowB_of hA (by omega)
  obtain ⟨m, E, rfl, hmap, hloc⟩ := hA.map.some_of (by omega)
  obtain ⟨n, hn⟩ : ∃ n, n = a.length := ⟨_, rfl⟩
  have hmg : m ≠ g := by
    obtain ⟨⟨cur, h2, _⟩, _⟩ := hrow
    exact fun e => ne_map hmap h2 e.symm
  have hpb := hA.lt pb (.inl rfl)
  have hg := hA.lt g (.inr (.inl rfl))
  have ha' : HeapAt pb (some ⟨g, 0, none⟩) c (some m) (w.setCell ⟨g, i * 2 + 1, none⟩ (.int .i64 at_)) (a.set i ((Hp.at_ a i).1, at_)) := by
    have ho := setCell_out w g (i * 2 + 1) (.int .i64 at_)
    refine ⟨by rw [List.length_set]; exact ho.blk hA.top (fun e => hgp e.symm), by rw [List.length_set]; exact hA.bd, own_of_rowB (hrow.setAt hi at_), hA.ne, ⟨E, hmap.keep (ho.block m hmap.lt hmg), loc_set hloc hi at_⟩⟩
  have hcall := fix_w hc _ ⟨pb, 0, none⟩ _ i _ ⟨pb, _, _, _, rfl, rfl, ha'⟩ (by rw [List.length_set]; exact hi)
  have HC := Lib.hid hcall
  have lk := look_yes hmap hloc hi
  have c0 : w.cell? ⟨pb, 0, none⟩ = some (.slice (some ⟨g, 0, none⟩) n c) := by rw [hn]; exact cell_of hA.top rfl
  have c1 : w.cell? ⟨pb, 1, none⟩ = some (.map (some m)) := cell_of hA.top rfl
  obtain ⟨t0, c2⟩ : ∃ t, w.cell? ⟨g, i * 2 + 1, none⟩ = some (.int .i64 t) := ⟨_, (hrow.cell hi).2⟩
  have f2 : w.frozen? ⟨g, i * 2 + 1, none⟩ = false := by
    obtain ⟨⟨cur, h2, _⟩, _⟩ := hrow
    exact frozen_at h2
  have hin : (i : Int) < n := by omega
  have HF := Lib.hid (Hp.fix_heap (i := i) (n := a.length) hi (by rw [List.length_set]; exact Nat.le_refl _) (Hp.set_but (y := ((Hp.at_ a i).1, at_)) hi hheap).1 (Hp.set_but hi hheap).2)
  have HP := Lib.hid (show (Hp.fix (a.set i ((Hp.at_ a i).1, at_)) i a.length).Perm (Tm.set L (Hp.at_ a i).1 at_) from by
    refine (Hp.fix_perm (by rw [List.length_set]; exact hi) (by rw [List.length_set]; exact Nat.le_refl _)).trans ((Hp.set_perm (y := ((Hp.at_ a i).1, at_)) hi ((Hp.ids_perm hperm).2 hids) rfl).trans ?_)
    exact (List.Perm.cons _ (Hp.del_perm hperm _)).trans (Tm.ins_perm _ _).symm)
  have HS := Lib.hid (Tm.srt_set (id := (Hp.at_ a i).1) (at_ := at_) hsrt)
  have HI := Lib.hid (Tm.ids_set (id := (Hp.at_ a i).1) (at_ := at_) hids)
  have HO := Lib.hid (out_lies (c := c) (setCell_out w g (i * 2 + 1) (.int .i64 at_)) (show Lies pb (some ⟨g, 0, none⟩) (some m) g from .inr (.inl rfl)))
  have HLN := Lib.hid (show (Hp.fix (a.set i ((Hp.at_ a i).1, at_)) i a.length).length = a.length by rw [Hp.fix_length, List.length_set])
  clear hcall ha' hmap hloc hA hrow hperm hheap hsrt hids hh hn hi hmg hpb hg hgp
  generalize (Hp.at_ a i).1 = id at *
  go_enter Try.func8, Try.ntmps8
  go_wp2_with fail
  refine HC.out.mono ?_
  rintro e w2 ⟨rfl, S2, k1, k2, k3⟩
  have K1 := Lib.hid k1
  have K2 := Lib.hid k2
  have K3 := Lib.hid k3
  clear k1 k2 k3 HC lk c0 c1 c2 f2
  go_wp2_with fail
  go_ret
  refine ⟨S2, rfl, ⟨_, ?_, ?_, HP.out, HS.out, HI.out⟩, (Sub.refl _ _).trans K2.out HO.out.size, HO.out.trans K3.out (Sub.refl _ _)⟩
  · have := K1.out
    rwa [show (a.set i (id, at_)).length = a.length by rw [List.length_set]] at this
  · rw [HLN.out]; exact HF.out
set_option maxRecDepth 100000 in
set_option maxHeartbeats 1000000 in
theorem set_new (S : Nat → Prop) (p : Addr) (L : List Tm.T) (id at_ : Int) (w : World) (h : IsW S w p L) (hi1 : I64 id) (h0 : 0 ≤ at_) (h1 : at_ ≤ 1099511627776) (hh : Tm.has L id = false) (hl : L.length < 4096) :
    Calls Try.prog 8 #[.pointer (some p), .int .i64 id, .int .i64 at_] w fun e w' => ∃ S', e = .returned (.int .i64 0) ∧ IsW S' w' p (Tm.set L id at_) ∧ Sub S' S w ∧ Out S w w' := by
  obtain ⟨a, hA0, hheap, hperm, hsrt, hids⟩ := h
  have hal : a.length < 4096 := by rw [hperm.length_eq]; exact hl
  have hno : Tm.has a id = false := by rw [Hp.has_perm hperm]; exact hh
  have hcall := push_w hc hc2 S p a (id, at_) w hA0 hal hno hi1 (by unfold I64; omega)
  obtain ⟨pb, A, c, M, rfl, rfl, hA⟩ := hA0
  obtain ⟨n, hn⟩ : ∃ n, n = a.length := ⟨_, rfl⟩
  have HC := Lib.hid hcall
  have lk := look_no hA.map hno
  have c0 : w.cell? ⟨pb, 0, none⟩ = some (.slice A n c) := by rw [hn]; exact cell_of hA.top rfl
  have c1 : w.cell? ⟨pb, 1, none⟩ = some (.map M) := cell_of hA.top rfl
  have hnl : (n : Int) < 4096 := by omega
  have HF := Lib.hid (show Hp.Heap (Hp.up (a ++ [(id, at_)]) a.length) (Hp.up (a ++ [(id, at_)]) a.length).length by
    rw [Hp.up_length, List.length_append, List.length_singleton]; exact Hp.push_heap _ hheap)
  have HP := Lib.hid (show (Hp.up (a ++ [(id, at_)]) a.length).Perm (Tm.set L id at_) by
    refine (Hp.push_perm _).trans ?_
    unfold Tm.set
    rw [Tm.del_none hh]
    exact (List.Perm.cons _ hperm).trans (Tm.ins_perm _ _).symm)
  have HS := Lib.hid (Tm.srt_set (id := id) (at_ := at_) hsrt)
  have HI := Lib.hid (Tm.ids_set (id := id) (at_ := at_) hids)
  clear hcall hA hperm hheap hsrt hids hh hn hno hal hi1
  go_enter Try.func8, Try.ntmps8
  go_wp2_with fail
  refine HC.out.mono ?_
  rintro e w2 ⟨rfl, S2, k1, k2, k3⟩
  have K1 := Lib.hid k1
  have K2 := Lib.hid k2
  have K3 := Lib.hid k3
  clear k1 k2 k3 HC lk c0 c1
  go_wp2_with fail
  go_ret
  exact ⟨S2, rfl, ⟨_, K1.out, HF.out, HP.out, HS.out, HI.out⟩, K2.out, K3.out⟩
set_option maxRecDepth 100000 in
set_option maxHeartbeats 1000000 in
theorem set_full (S : Nat → Prop) (p : Addr) (L : List Tm.T) (id at_ : Int) (w : World) (h : IsW S w p L) (h0 : 0 ≤ at_) (h1 : at_ ≤ 1099511627776) (hh : Tm.has L id = false) (hl : 4096 ≤ L.length) :
    Calls Try.prog 8 #[.pointer (some p), .int .i64 id, .int .i64 at_] w fun e w' => ∃ S', e = .returned (.int .i64 10) ∧ IsW S' w' p L ∧ Sub S' S w ∧ Out S w w' := by
  have HW := Lib.hid h
  obtain ⟨a, hA0, hheap, hperm, hsrt, hids⟩ := h
  have hno : Tm.has a id = false := by rw [Hp.has_perm hperm]; exact hh
  have hle := hperm.length_eq
  obtain ⟨pb, A, c, M, rfl, rfl, hA⟩ := hA0
  obtain ⟨n, hn⟩ : ∃ n, n = a.length := ⟨_, rfl⟩
  have lk := look_no hA.map hno
  have c0 : w.cell? ⟨pb, 0, none⟩ = some (.slice A n c) := by rw [hn]; exact cell_of hA.top rfl
  have c1 : w.cell? ⟨pb, 1, none⟩ = some (.map M) := cell_of hA.top rfl
  have hnl : (4096 : Int) ≤ n := by omega
  clear hA hperm hheap hsrt hids hh hn hno hle hl
  go_enter Try.func8, Try.ntmps8
  go_wp2_with fail
  go_ret
  exact ⟨_, rfl, HW.out, Sub.refl _ _, Out.refl _ _⟩
set_option maxRecDepth 100000 in
set_option maxHeartbeats 1000000 in
theorem cancel_w (S : Nat → Prop) (p : Addr) (L : List Tm.T) (id : Int) (w : World) (h : IsW S w p L) (hh : Tm.has L id = true) :
    Calls Try.prog 11 #[.pointer (some p), .int .i64 id] w fun e w' => ∃ S', e = .returned (.int .i64 0) ∧ IsW S' w' p (Tm.del id L) ∧ Sub S' S w ∧ Out S w w' := by
  obtain ⟨a, hA0, hheap, hperm, hsrt, hids⟩ := h
  obtain ⟨i, hi, rfl⟩ := has_at (by rw [Hp.has_perm hperm]; exact hh)
  obtain ⟨n, hn⟩ : ∃ n, a.length = n + 1 := ⟨a.length - 1, by omega⟩
  have hcall := remove_w hc hc2 S p a i n w hA0 hn (by omega) hheap
  obtain ⟨o1, o2, o3⟩ := Hp.out_all hn (show i ≤ n by omega) hheap
  obtain ⟨pb, A, c, M, rfl, rfl, hA⟩ := hA0
  obtain ⟨m, E, rfl, hmap, hloc⟩ := hA.map.some_of (by omega)
  have HC := Lib.hid hcall
  have lk := look_yes hmap hloc hi
  have c1 : w.cell? ⟨pb, 1, none⟩ = some (.map (some m)) := cell_of hA.top rfl
  have HF := Lib.hid (show Hp.Heap (Hp.out a i n).dropLast (Hp.out a i n).dropLast.length by
    rw [List.length_dropLast, Hp.out_length, hn, Nat.add_sub_cancel]; exact o2)
  have HP := Lib.hid ((perm_del o3 ((Hp.ids_perm hperm).2 hids)).trans (Hp.del_perm hperm _))
  have HS := Lib.hid (Tm.srt_del (id := (Hp.at_ a i).1) hsrt)
  have HI := Lib.hid (Tm.ids_del (id := (Hp.at_ a i).1) hids)
  have hi4 : i ≤ 4096 := by have := hA.bd; omega
  clear hcall hA hperm hheap hsrt hids hh hn hmap hloc o1 o2 o3 hi
  generalize boxT (Hp.at_ a i) = bx at HC
  generalize (Hp.at_ a i).1 = id at *
  go_enter Try.func11, Try.ntmps11
  go_wp2_with fail
  refine HC.out.mono ?_
  rintro e w2 ⟨rfl, S2, k1, k2, k3⟩
  have K1 := Lib.hid k1
  have K2 := Lib.hid k2
  have K3 := Lib.hid k3
  clear k1 k2 k3 HC lk c1
  go_wp2_with fail
  go_ret
  exact ⟨S2, rfl, ⟨_, K1.out, HF.out, HP.out, HS.out, HI.out⟩, K2.out, K3.out⟩
set_option maxRecDepth 100000 in
set_option maxHeartbeats 1000000 in
theorem gone_w (S : Nat → Prop) (p : Addr) (L : List Tm.T) (id : Int) (w : World) (h : IsW S w p L) (hh : Tm.has L id = false) :
    Calls Try.prog 11 #[.pointer (some p), .int .i64 id] w fun e w' => ∃ S', e = .returned (.int .i64 8) ∧ IsW S' w' p L ∧ Sub S' S w ∧ Out S w w' := by
  have HW := Lib.hid h
  obtain ⟨a, hA0, hheap, hperm, hsrt, hids⟩ := h
  have hno : Tm.has a id = false := by rw [Hp.has_perm hperm]; exact hh
  obtain ⟨pb, A, c, M, rfl, rfl, hA⟩ := hA0
  have lk := look_no hA.map hno
  have c1 : w.cell? ⟨pb, 1, none⟩ = some (.map M) := cell_of hA.top rfl
  clear hA hperm hheap hsrt hids hh hno
  go_enter Try.func11, Try.ntmps11
  go_wp2_with fail
  go_ret
  exact ⟨_, rfl, HW.out, Sub.refl _ _, Out.refl _ _⟩
end Go.Proofs.Ytpdhgjhcjnpkeaa
