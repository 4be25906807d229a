import Derived.Test.YtfbjhialjepodaaNtList
namespace Go.Proofs.Ytfbjhialjepodaa
open Go Go.RowKit
set_option linter.unusedVariables false
section
variable {S X : Nat → Prop} {w w0 w' : World} {A : Option Addr} {c b : Nat} {T : TypeId} {cs : Option Addr → Nat → Nat → Array Value} {l : List FrB} {f : Nt.Fr}
theorem Rw.fresh_blk (h : Rw S X w A c l) : ∀ k, blk? A = some k → k < w.heap.size := fun k hk => (World.ownsRow.lt h.row k (by rw [ownBlock_slice]; exact hk)).2
theorem blk_lt_own {B E k N : Nat} {q : IntKind} {xs : List Int} {A : Option Addr} {cc : Nat} {w : World} (h : OwnI q E B w A N cc xs) (hk : blk? A = some k) : B ≤ k ∧ k < w.heap.size := World.ownsRow.lt h k (by rw [ownBlock_slice]; exact hk)
/-- A new frame behind the others. -/
theorem rw_app (h : Rw S X w A c l) (hu : Up w w0) (hW : WApp b T cs A l f (Fresh w0.heap.size) w0 2 w') (hXS : ∀ k, X k → S k) (hXb : X b) (hS : ∀ k, S k → k < w.heap.size) (hl : l.length < 1024) (hf : Byt f.bytes) (hf4 : f.bytes.length ≤ 4096) :
    ∃ A' c' x, x.f = f ∧ w'.heap[b]? = some (.cells (cs A' (l ++ [x]).length c') T (0, 0)) ∧ Rw (Sx S A' x) X w' A' c' (l ++ [x]) ∧ Sub (Sx S A' x) S w ∧ Out (T0 b A) w w' ∧ ∀ k, Sx S A' x k → k < w'.heap.size := by
  obtain ⟨A', c', x, hx, hg, hb, hrow, hA, hne, ho⟩ := hW
  have hO : Out (T0 b A) w w' := (hu.out _).trans ho (Sub.refl _ _)
  have hxB : ∀ k, blk? x.A = some k → w0.heap.size ≤ k ∧ k < w'.heap.size := fun k hk => blk_lt_own hg hk
  refine ⟨A', c', x, hx, by simpa using hb, ?_, ?_, hO, ?_⟩
  · refine (h.keep (fun k hs hx => hu.block k (hS k hs))).pushNew hl hrow ⟨OwnI.mono hg (Nat.zero_le _), by rw [hx]; exact hf, by rw [hx]; exact hf4⟩ w0.heap.size (fun k hs => Nat.lt_of_lt_of_le (hS k hs) hu.size) (fun k hs => Nat.lt_of_lt_of_le (hS k (hXS k hs)) hu.size) (fun k hs hnx hnA => ho.block k (Nat.lt_of_lt_of_le (hS k hs) hu.size) (fun ht => ?_)) hA (fun k hk => (hxB k hk).1) hne
    rcases ht with ht | ht
    · exact hnx (by rw [ht]; exact hXb)
    · exact hnA ht
  · refine Sx.sub (fun k hk => ?_) (fun k hk => .inr (Nat.le_trans hu.size (hxB k hk).1))
    rcases hA k hk with h1 | h1
    · exact .inl (h.inA k h1).1
    · exact .inr (Nat.le_trans hu.size h1)
  · intro k hk
    rcases hk with hk | hk | hk
    · exact Nat.lt_of_lt_of_le (hS k hk) hO.size
    · exact (World.ownsRow.lt hrow k (by rw [ownBlock_slice]; exact hk)).2
    · exact (hxB k hk).2
/-- A frame is taken out. -/
theorem Rw.erase {S' : Nat → Prop} {x : FrB} {l1 l2 : List FrB} {A' : Option Addr} {c' : Nat} (h : Rw S X w A c (l1 ++ x :: l2)) (hrow : w'.ownsRow 0 46 6 (.slice A' (l1 ++ l2).length c') (l1 ++ l2).length (rowc (l1 ++ l2)))
    (hold : ∀ k, S k → ¬ X k → blk? A ≠ some k → w'.heap[k]? = w.heap[k]?) (hA : ∀ k, blk? A' = some k → ¬ X k ∧ S' k ∧ ∀ y ∈ l1 ++ l2, blk? y.A ≠ some k) (hS' : ∀ y ∈ l1 ++ l2, ∀ k, blk? y.A = some k → S' k) : Rw S' X w' A' c' (l1 ++ l2) := by
  have hsub : ∀ y, y ∈ l1 ++ l2 → y ∈ l1 ++ x :: l2 := fun y hy => by
    rcases List.mem_append.1 hy with h1 | h1
    · exact List.mem_append_left _ h1
    · exact List.mem_append_right _ (List.mem_cons_of_mem _ h1)
  have hlen := h.len
  refine ⟨by simp at hlen ⊢; omega, hrow, fun y hy => frIn_blk (h.fr y (hsub y hy)) (fun k hk => ?_), fun k hk => ⟨(hA k hk).2.1, (hA k hk).1⟩, fun y hy k hk => ⟨hS' y hy k hk, (h.inF y (hsub y hy) k hk).2.1, fun e => (hA k e).2.2 y hy hk⟩, ?_⟩
  · have := h.inF y (hsub y hy) k hk
    exact hold k this.1 this.2.1 this.2.2
  · exact h.pw.sublist (List.Sublist.append_left (List.sublist_cons_self x l2) l1)
/-- What lies apart from a frame that is taken out. -/
theorem Rw.apart {x : FrB} {l1 l2 : List FrB} (h : Rw S X w A c (l1 ++ x :: l2)) : ∀ k, blk? x.A = some k → (S k ∧ ¬ X k ∧ blk? A ≠ some k) ∧ ∀ y ∈ l1 ++ l2, blk? y.A ≠ some k := fun k hk => by
  refine ⟨h.inF x (by simp) k hk, fun y hy e => ?_⟩
  have hp := List.pairwise_append.1 h.pw
  rcases List.mem_append.1 hy with h1 | h1
  · exact hp.2.2 y h1 x (by simp) k e hk
  · exact (List.pairwise_cons.1 hp.2.1).1 y h1 k hk e
/-- A frame is turned. -/
theorem Rw.turn {x : FrB} {l1 l2 : List FrB} {g xg k q vn bn : Nat} (h : Rw S X w (some ⟨g, 0, none⟩) c (l1 ++ x :: l2)) (hk : l1.length = k) (hxA : x.A = some ⟨xg, 0, none⟩) (hv : (vn : Int) = x.f.bytes.getD q 0) (hvn : vn < 256) (hbn : bn < 256) :
    Rw S X ((w.setCell ⟨xg, q, none⟩ (.int .u8 ((vn ^^^ bn : Nat) : Int))).setCell ⟨g, k * 6 + 5, none⟩ (.bool true)) (some ⟨g, 0, none⟩) c (l1 ++ ⟨Nt.turnF x.f (q : Int) (bn : Int), x.A, x.c⟩ :: l2) := by
  have hgx : g ≠ xg := fun e => (h.inF x (by simp) xg (by rw [hxA]; rfl)).2.2 (by rw [e]; rfl)
  have hbx : Nt.bx (x.f.bytes.getD (q : Int).toNat 0) (bn : Int) = ((vn ^^^ bn : Nat) : Int) := by
    unfold Nt.bx
    rw [Int.toNat_natCast, ← hv, Int.toNat_natCast, Int.toNat_natCast]
  have hbs : (Nt.turnF x.f (q : Int) (bn : Int)).bytes = x.f.bytes.set q ((vn ^^^ bn : Nat) : Int) := by
    rw [Int.toNat_natCast] at hbx
    unfold Nt.turnF
    simp only [Int.toNat_natCast, hbx]
  have hlen : (Nt.turnF x.f (q : Int) (bn : Int)).bytes.length = x.f.bytes.length := by rw [hbs, List.length_set]
  have hO : Out (fun j => j = g ∨ j = xg) w ((w.setCell ⟨xg, q, none⟩ (.int .u8 ((vn ^^^ bn : Nat) : Int))).setCell ⟨g, k * 6 + 5, none⟩ (.bool true)) :=
    ((setCell_out w xg q _).mono fun k hk => .inr hk).trans ((setCell_out _ g (k * 6 + 5) _).mono fun k hk => .inl hk) (Sub.refl _ _)
  have hmem : ∀ y, y ∈ l1 ++ ⟨Nt.turnF x.f (q : Int) (bn : Int), x.A, x.c⟩ :: l2 → y = ⟨Nt.turnF x.f (q : Int) (bn : Int), x.A, x.c⟩ ∨ (y ∈ l1 ++ l2 ∧ y ∈ l1 ++ x :: l2) := fun y hy => by
    rcases List.mem_append.1 hy with h1 | h1
    · exact .inr ⟨List.mem_append_left _ h1, List.mem_append_left _ h1⟩
    · rcases List.mem_cons.1 h1 with h2 | h2
      · exact .inl h2
      · exact .inr ⟨List.mem_append_right _ h2, List.mem_append_right _ (List.mem_cons_of_mem _ h2)⟩
  refine ⟨by have := h.len; simp at this ⊢; omega, ?_, fun y hy => ?_, h.inA, fun y hy k hk => ?_, ?_⟩
  · have h1 := (setCell_out w xg q (.int .u8 ((vn ^^^ bn : Nat) : Int))).own h.row (fun g' hg' e => by cases hg'; exact hgx e)
    have h2 := (World.ownsRow.stored h1 (k * 6 + 5) (.bool true)).1
    have e : (rowc (l1 ++ x :: l2)).set (k * 6 + 5) (.bool true) = rowc (l1 ++ ⟨Nt.turnF x.f (q : Int) (bn : Int), x.A, x.c⟩ :: l2) := by
      have e1 : frc (⟨Nt.turnF x.f (q : Int) (bn : Int), x.A, x.c⟩ : FrB) = (frc x).set 5 (.bool true) := by
        simp only [frc, hlen]
        rfl
      rw [rowc_append, rowc_append, rowc_cons, rowc_cons, e1, List.set_append_right _ _ (by rw [rowc_length]; omega), rowc_length, hk, Nat.add_sub_cancel_left, List.set_append_left _ _ (by simp [frc])]
    rw [e] at h2
    have el : (l1 ++ ⟨Nt.turnF x.f (q : Int) (bn : Int), x.A, x.c⟩ :: l2).length = (l1 ++ x :: l2).length := by simp
    rw [el]
    exact h2
  · rcases hmem y hy with h1 | ⟨h1, h2⟩
    · subst h1
      have hx := h.fr x (by simp)
      refine ⟨?_, ?_, by rw [hlen]; exact hx.2.2⟩
      · have h3 : OwnI .u8 5 0 w (some ⟨xg, 0, none⟩) x.f.bytes.length x.c x.f.bytes := by rw [← hxA]; exact hx.1
        have h4 := OwnI.stored h3 q ((vn ^^^ bn : Nat) : Int)
        have h5 := (setCell_out (w.setCell ⟨xg, q, none⟩ (.int .u8 ((vn ^^^ bn : Nat) : Int))) g (k * 6 + 5) (.bool true)).own h4 (fun g' hg' e => by cases hg'; exact hgx e.symm)
        show OwnI .u8 5 0 _ x.A (Nt.turnF x.f (q : Int) (bn : Int)).bytes.length x.c (Nt.turnF x.f (q : Int) (bn : Int)).bytes
        rw [hlen, hbs, hxA]
        exact h5
      · show Byt (Nt.turnF x.f (q : Int) (bn : Int)).bytes
        rw [hbs]
        intro z hz
        rcases List.mem_or_eq_of_mem_set hz with h6 | h6
        · exact hx.2.1 z h6
        · rw [h6]
          have : vn ^^^ bn < 2 ^ 8 := Nat.xor_lt_two_pow (by omega) (by omega)
          omega
    · refine frIn_blk (h.fr y h2) (fun j hj => hO.block j (blk_lt_own (h.fr y h2).1 hj).2 (fun e => ?_))
      rcases e with e | e
      · exact (h.inF y h2 j hj).2.2 (by rw [e]; rfl)
      · exact (h.apart xg (by rw [hxA]; rfl)).2 y h1 (by rw [← e]; exact hj)
  · rcases hmem y hy with h1 | ⟨h1, h2⟩
    · subst h1; exact h.inF x (by simp) k hk
    · exact h.inF y h2 k hk
  · have hp := List.pairwise_append.1 h.pw
    have hc := List.pairwise_cons.1 hp.2.1
    refine List.pairwise_append.2 ⟨hp.1, List.pairwise_cons.2 ⟨hc.1, hc.2⟩, fun y hy z hz => ?_⟩
    rcases List.mem_cons.1 hz with h1 | h1
    · subst h1; exact hp.2.2 y hy x (by simp)
    · exact hp.2.2 y hy z (List.mem_cons_of_mem _ h1)
end
end Go.Proofs.Ytfbjhialjepodaa
namespace Go.Proofs.Ytfbjhialjepodaa
open Go Go.RowKit
set_option linter.unusedVariables false
/-- A landed net: its block, its map's, its row of frames, each with its own bytes. -/
def IsP (S : Nat → Prop) (w : World) (p : Addr) (st : Nt.St) : Prop := ∃ (b m : Nat) (A : Option Addr) (c : Nat) (l : List FrB), p = ⟨b, 0, none⟩ ∧ (1 ≤ st.hosts ∧ st.hosts ≤ 8) ∧ st.way = l.map (·.f) ∧
  w.heap[b]? = some (.cells (netBlk m st.hosts A l.length c) 61 (0, 0)) ∧ CutM w m st.down ∧ (S b ∧ S m ∧ b ≠ m) ∧ Rw S (fun k => k = b ∨ k = m) w A c l ∧ ∀ k, S k → k < w.heap.size
theorem isP_keep {S : Nat → Prop} {w w' : World} {p : Addr} {st : Nt.St} (h : IsP S w p st) (hk : ∀ k, S k → w'.heap[k]? = w.heap[k]?) : IsP S w' p st := by
  obtain ⟨b, m, A, c, l, h1, h2, h3, h4, h5, h6, h7, h8⟩ := h
  refine ⟨b, m, A, c, l, h1, h2, h3, (hk b h6.1).trans h4, h5.keep (hk m h6.2.1), h6, h7.keep (fun k hs _ => hk k hs), fun k hs => ?_⟩
  have h0 := h8 k hs
  have e := hk k hs
  rw [Array.getElem?_eq_getElem h0] at e
  exact (Array.getElem?_eq_some_iff.1 e).1
theorem isP_lt {S : Nat → Prop} {w : World} {p : Addr} {st : Nt.St} (h : IsP S w p st) : ∀ k, S k → k < w.heap.size := by
  obtain ⟨b, m, A, c, l, h1, h2, h3, h4, h5, h6, h7, h8⟩ := h
  exact h8
theorem isP_up {S : Nat → Prop} {w w' : World} {p : Addr} {st : Nt.St} (h : IsP S w p st) (hu : Up w w') : IsP S w' p st := isP_keep h (fun k hk => hu.block k (isP_lt h k hk))
theorem isP_bd {S : Nat → Prop} {w : World} {p : Addr} {st : Nt.St} (h : IsP S w p st) : (1 ≤ st.hosts ∧ st.hosts ≤ 8) ∧ st.way.length ≤ 1024 ∧ ∀ f ∈ st.way, f.bytes.length ≤ 4096 ∧ Byt f.bytes := by
  obtain ⟨b, m, A, c, l, h1, h2, h3, h4, h5, h6, h7, h8⟩ := h
  refine ⟨h2, by rw [h3, List.length_map]; exact h7.len, fun f hf => ?_⟩
  rw [h3] at hf
  obtain ⟨x, hx, rfl⟩ := List.mem_map.1 hf
  exact ⟨(h7.fr x hx).2.2, (h7.fr x hx).2.1⟩
theorem isP_new (h : Int) (w : World) (h1 : 1 ≤ h) (h2 : h ≤ 8) : IsP (fun k => k = w.heap.size ∨ k = w.heap.size + 1) ((w.alloc (.map #[] 0)).alloc (.cells (netBlk w.heap.size h none 0 0) 61)) ⟨w.heap.size + 1, 0, none⟩ (Nt.new h) := by
  have s1 : (w.alloc (.map #[] 0)).heap.size = w.heap.size + 1 := by simp
  have a1 := new_at (w.alloc (.map #[] 0)) (.cells (netBlk w.heap.size h none 0 0) 61)
  rw [s1] at a1
  have a2 := ((up_alloc (w.alloc (.map #[] 0)) (.cells (netBlk w.heap.size h none 0 0) 61)).block _ (lt_of_blk (new_at w (.map #[] 0)))).trans (new_at w (.map #[] 0))
  refine ⟨w.heap.size + 1, w.heap.size, none, 0, [], rfl, ⟨h1, h2⟩, rfl, a1, ⟨#[], 0, a2, by simp, by simp, fun a b q => by simp [Nt.new]⟩, ⟨.inr rfl, .inl rfl, by omega⟩, Rw.nil _ _ _, fun k hk => ?_⟩
  simp
  omega
/-- The frames at k, parted. -/
theorem part_at {l : List FrB} {k : Nat} (h : k < l.length) : ∃ l1 x l2, l = l1 ++ x :: l2 ∧ l1.length = k := ⟨l.take k, l[k], l.drop (k + 1), by rw [List.getElem_cons_drop, List.take_append_drop], by simp; omega⟩
theorem part_fr {st : Nt.St} {l1 l2 : List FrB} {x : FrB} {k : Nat} (h : st.way = (l1 ++ x :: l2).map (·.f)) (hk : l1.length = k) : Nt.fr st (k : Int) = x.f ∧ st.way.eraseIdx k = (l1 ++ l2).map (·.f) ∧ ∀ f, st.way.set k f = l1.map (·.f) ++ f :: l2.map (·.f) := by
  subst hk
  refine ⟨?_, ?_, fun f => ?_⟩
  · unfold Nt.fr
    rw [h, Int.toNat_natCast, List.getD_eq_getElem?_getD, List.getElem?_map, List.getElem?_append_right (by omega)]
    simp
  · rw [h, List.map_append, List.map_cons, List.eraseIdx_append_of_length_le (by simp), List.length_map, Nat.sub_self]
    simp
  · rw [h, List.map_append, List.map_cons, List.set_append_right _ _ (by simp), List.length_map, Nat.sub_self]
    rfl
theorem has_nat {st : Nt.St} {k : Int} (h : Nt.has st k) : ∃ j : Nat, k = (j : Int) ∧ j < st.way.length := ⟨k.toNat, by have := h.1; omega, by have := h.1; have := h.2; omega⟩
/-- Behind an append: the net with one frame more. -/
theorem isP_app {S : Nat → Prop} {w w0 w' : World} {b m c : Nat} {A : Option Addr} {l : List FrB} {st : Nt.St} {f : Nt.Fr} (hh : 1 ≤ st.hosts ∧ st.hosts ≤ 8) (hway : st.way = l.map (·.f)) (hcu : CutM w m st.down) (hsb : S b ∧ S m ∧ b ≠ m)
    (hrw : Rw S (fun k => k = b ∨ k = m) w A c l) (hlt : ∀ k, S k → k < w.heap.size) (hu : Up w w0) (hW : WApp b 61 (netBlk m st.hosts) A l f (Fresh w0.heap.size) w0 2 w') (hl : l.length < 1024) (hf : Byt f.bytes) (hf4 : f.bytes.length ≤ 4096) :
    ∃ S', IsP S' w' ⟨b, 0, none⟩ { st with way := st.way ++ [f] } ∧ Sub S' S w ∧ Out S w w' := by
  obtain ⟨A', c', x, hx, hb', hr', hs', ho', hlt'⟩ := rw_app hrw hu hW (fun k hk => by rcases hk with rfl | rfl; exact hsb.1; exact hsb.2.1) (.inl rfl) hlt hl hf hf4
  have hT : ∀ k, T0 b A k → S k := fun k hk => by
    rcases hk with hk | hk
    · rw [hk]; exact hsb.1
    · exact (hrw.inA k hk).1
  refine ⟨Sx S A' x, ⟨b, m, A', c', l ++ [x], rfl, hh, by simp [hway, hx], hb', hcu.keep (ho'.block m hcu.lt (fun ht => ?_)), ⟨.inl hsb.1, .inl hsb.2.1, hsb.2.2⟩, hr', hlt'⟩, hs', ho'.mono hT⟩
  rcases ht with ht | ht
  · exact hsb.2.2 ht.symm
  · exact (hrw.inA m ht).2 (.inr rfl)
end Go.Proofs.Ytfbjhialjepodaa
namespace Go.Proofs.Ytfbjhialjepodaa
open Go Go.RowKit
set_option linter.unusedVariables false
section
variable {S X : Nat → Prop} {w w0 w' : World} {A A0 A1 : Option Addr} {c c1 b : Nat} {T : TypeId} {cs : Option Addr → Nat → Nat → Array Value}
/-- A frame that was taken out goes behind the others. -/
theorem rw_last {x : FrB} {l1 l2 : List FrB} {S1 : Nat → Prop} (h : Rw S X w A c (l1 ++ x :: l2)) (hXS : ∀ k, X k → S k) (hXb : X b) (hS : ∀ k, S k → k < w.heap.size) (hS1 : ∀ k, S1 k → k = b ∨ blk? A = some k)
    (ht : TkPost b T cs (l1 ++ l2) x A S1 w A1 c1 w0) (hW : WApp b T cs A1 (l1 ++ l2) x.f (fun y w => y = x ∧ FrIn w x) w0 2 w') :
    ∃ S' A' c', w'.heap[b]? = some (.cells (cs A' (l1 ++ l2 ++ [x]).length c') T (0, 0)) ∧ Rw S' X w' A' c' (l1 ++ l2 ++ [x]) ∧ Sub S' S w ∧ (∀ k, S k → S' k) ∧ Out (T0 b A) w w' ∧ ∀ k, S' k → k < w'.heap.size := by
  obtain ⟨hb0, hr0, hA1, hxb, hfr, hO1, hQ⟩ := ht
  obtain ⟨A', c', y, hyf, ⟨rfl, hfr'⟩, hb', hrow', hA', hne, hO2⟩ := hW
  have hap := h.apart
  have hlen : (l1 ++ l2).length < 1024 := by have := h.len; simp at this ⊢; omega
  have hnew : ∀ k, S k → w.heap.size ≤ k → False := fun k hs hge => by have := hS k hs; omega
  have hE : Rw (fun k => S k ∨ blk? A1 = some k) X w0 A1 c1 (l1 ++ l2) := h.erase hr0 (fun k hs hx hA => hO1.block k (hS k hs) (fun e => by
    rcases hS1 k e with e | e
    · exact hx (by rw [e]; exact hXb)
    · exact hA e)) (fun k hk => by
    refine ⟨fun hx => ?_, .inr hk, fun z hz e => ?_⟩
    · rcases hQ k hk with h1 | h1
      · exact (h.inA k h1).2 hx
      · exact hnew k (hXS k hx) h1
    · have hz' : z ∈ l1 ++ y :: l2 := by
        rcases List.mem_append.1 hz with h1 | h1
        · exact List.mem_append_left _ h1
        · exact List.mem_append_right _ (List.mem_cons_of_mem _ h1)
      have h2 := h.inF z hz' k e
      rcases hQ k hk with h1 | h1
      · exact h2.2.2 h1
      · exact hnew k h2.1 h1) (fun z hz k hk => by
    have hz' : z ∈ l1 ++ y :: l2 := by
      rcases List.mem_append.1 hz with h1 | h1
      · exact List.mem_append_left _ h1
      · exact List.mem_append_right _ (List.mem_cons_of_mem _ h1)
    exact .inl (h.inF z hz' k hk).1)
  have hlt0 : ∀ k, S k ∨ blk? A1 = some k → k < w0.heap.size := fun k hk => by
    rcases hk with hk | hk
    · exact Nat.lt_of_lt_of_le (hS k hk) hO1.size
    · exact hE.fresh_blk k hk
  have hOT : Out (T0 b A) w w' := (hO1.mono hS1).trans hO2 (fun k hk => by
    rcases hk with hk | hk
    · exact .inl (.inl hk)
    · rcases hQ k hk with h1 | h1
      · exact .inl (.inr h1)
      · exact .inr h1)
  refine ⟨Sx (fun k => S k ∨ blk? A1 = some k) A' y, A', c', by have e : (l1 ++ l2 ++ [y]).length = (l1 ++ l2).length + 1 := List.length_append; rw [e]; exact hb', ?_, ?_, fun k hk => .inl (.inl hk), hOT, fun k hk => ?_⟩
  · refine hE.push hlen hrow' hfr' (fun z hz k hk => hO2.block k (hlt0 k (hE.inF z hz k hk).1) (fun ht => ?_)) (fun k hk => ?_) (fun k hk => ⟨(hap k hk).1.2.1, fun e => hne k e hk, (hap k hk).2⟩)
    · have h2 := hE.inF z hz k hk
      rcases ht with ht | ht
      · exact h2.2.1 (by rw [ht]; exact hXb)
      · exact h2.2.2 ht
    · rcases hA' k hk with h1 | h1
      · exact ⟨(hE.inA k h1).2, .inl h1⟩
      · refine ⟨fun hx => ?_, .inr fun z hz e => ?_⟩
        · have := hlt0 k (.inl (hXS k hx)); omega
        · have := hlt0 k (hE.inF z hz k e).1; omega
  · intro k hk
    have hq : ∀ k, S k ∨ blk? A1 = some k → S k ∨ w.heap.size ≤ k := fun k hk => by
      rcases hk with hk | hk
      · exact .inl hk
      · rcases hQ k hk with h1 | h1
        · exact .inl (h.inA k h1).1
        · exact .inr h1
    rcases hk with hk | hk | hk
    · exact hq k hk
    · rcases hA' k hk with h1 | h1
      · exact hq k (.inr h1)
      · exact .inr (Nat.le_trans hO1.size h1)
    · exact .inl (hap k hk).1.1
  · rcases hk with hk | hk | hk
    · exact Nat.lt_of_lt_of_le (hlt0 k hk) hO2.size
    · exact (World.ownsRow.lt hrow' k (by rw [ownBlock_slice]; exact hk)).2
    · exact Nat.lt_of_lt_of_le (hS k (hap k hk).1.1) hOT.size
end
theorem p_new (h : Int) (w : World) (h1 : 1 ≤ h) (h2 : h ≤ 8) : Calls Try.prog 8 #[.int .i64 h] w fun e w' => ∃ p S, e = .returned (.tuple #[.pointer (some p), .int .i64 0]) ∧ IsP S w' p (Nt.new h) ∧ From w.heap.size S ∧ Up w w' :=
  (new_p h w h1 h2).mono fun e w' ⟨he, hw⟩ => ⟨_, fun k => k = w.heap.size ∨ k = w.heap.size + 1, he, by rw [hw]; exact isP_new h w h1 h2, fun k hk => by rcases hk with rfl | rfl <;> omega, by rw [hw]; exact (up_alloc _ _).trans (up_alloc _ _)⟩
theorem p_send (S : Nat → Prop) (p : Addr) (st : Nt.St) (f t : Int × Int) (A : Option Addr) (n c : Nat) (bs : List Int) (w : World) (h : IsP S w p st) (hin : InB w A n c bs) (hn : n ≤ 140737488351232) :
    Calls Try.prog 12 #[.pointer (some p), adV f, adV t, .slice A n c] w fun e w' => ∃ S', e = .returned (.int .i64 (Nt.sendE st f t bs)) ∧ IsP S' w' p (Nt.sendS st f t bs) ∧ Sub S' S w ∧ Out S w w' := by
  have h' := h
  obtain ⟨b, m, A0, c0, l, rfl, hh, hway, hb, hcu, hsb, hrw, hlt⟩ := h
  have kc : w.cell? ⟨b, 0, none⟩ = some (.int .i64 st.hosts) := cell_of hb rfl
  have hbl : bs.length = n := hin.len
  have hwl : st.way.length = l.length := by rw [hway, List.length_map]
  cases hap : apB st.hosts f t with
  | false =>
    have hno : ¬ (Nt.okA st f ∧ Nt.okA st t ∧ f.1 ≠ t.1) := fun e => by rw [(apB_spec st f t).2 e] at hap; cases hap
    have e1 : Nt.sendE st f t bs = 1 := if_neg hno
    have e2 : Nt.sendS st f t bs = st := if_neg (by rw [e1]; rintro ⟨h, _⟩; cases h)
    rw [e1, e2]
    exact (send_bad b st.hosts f t A n c w kc hap).mono fun e w' ⟨he, hu⟩ => ⟨S, he, isP_up h' hu, Sub.refl _ _, hu.out S⟩
  | true =>
    have hok := (apB_spec st f t).1 hap
    by_cases hn4 : 4096 < n
    · have e1 : Nt.sendE st f t bs = 4 := by unfold Nt.sendE; rw [if_pos hok, if_pos (by omega)]
      have e2 : Nt.sendS st f t bs = st := if_neg (by rw [e1]; rintro ⟨h, _⟩; cases h)
      rw [e1, e2]
      exact (send_large b st.hosts f t A n c w kc hap hn4).mono fun e w' ⟨he, hu⟩ => ⟨S, he, isP_up h' hu, Sub.refl _ _, hu.out S⟩
    · have e1 : Nt.sendE st f t bs = 0 := by unfold Nt.sendE; rw [if_pos hok, if_neg (by omega)]
      rw [e1]
      refine (send_p b m st.hosts A0 A n c0 c l st.down f.1 f.2 t.1 t.2 bs w hb hrw.row hrw.len (fun q hq e => (hrw.inA q hq).2 (.inl e)) hcu hin hap hh.2 (by omega)).mono fun e w' ⟨he, w0, hu, hp⟩ => ?_
      cases hc : comeB (st.down f.1 t.1 f.2) l.length with
      | false =>
        rw [hc] at hp
        have hw : w' = w0 := hp
        subst hw
        have e2 : Nt.sendS st f t bs = st := if_neg (fun hh => by
          have : comeB (st.down f.1 t.1 f.2) l.length = true := decide_eq_true ⟨hh.2.1, by rw [← hwl]; exact hh.2.2⟩
          rw [hc] at this; cases this)
        rw [e2]
        exact ⟨S, he, isP_up h' hu, Sub.refl _ _, hu.out S⟩
      | true =>
        rw [hc] at hp
        have hd : st.down f.1 t.1 f.2 = false ∧ l.length < 1024 := of_decide_eq_true hc
        rw [Nt.sendS_up e1 hd.1 (by rw [hwl]; exact hd.2)]
        obtain ⟨S', h1, h2, h3⟩ := isP_app hh hway hcu hsb hrw hlt hu hp hd.2 hin.byt (by show bs.length ≤ 4096; omega)
        exact ⟨S', he, h1, h2, h3⟩
theorem p_twin (S : Nat → Prop) (p : Addr) (st : Nt.St) (k : Int) (w : World) (h : IsP S w p st) :
    Calls Try.prog 15 #[.pointer (some p), .int .i64 k] w fun e w' => ∃ S', e = .returned (.int .i64 (Nt.twinE st k)) ∧ IsP S' w' p (Nt.twinS st k) ∧ Sub S' S w ∧ Out S w w' := by
  have h' := h
  obtain ⟨b, m, A0, c0, l, rfl, hh, hway, hb, hcu, hsb, hrw, hlt⟩ := h
  have kb : w.cell? ⟨b, 1, none⟩ = some (.slice A0 l.length c0) := cell_of hb rfl
  have hwl : st.way.length = l.length := by rw [hway, List.length_map]
  by_cases hk : Nt.has st k
  · obtain ⟨j, rfl, hj⟩ := has_nat hk
    rw [hwl] at hj
    by_cases hf : 1024 ≤ l.length
    · have e1 : Nt.twinE st (j : Int) = 10 := by unfold Nt.twinE; rw [if_pos hk, if_pos (by omega)]
      have e2 : Nt.twinS st (j : Int) = st := if_neg (by rw [e1]; decide)
      rw [e1, e2]
      exact (twin_full b l.length c0 j A0 w kb hrw.len hj hf).mono fun e w' ⟨he, hw⟩ => ⟨S, he, by rw [hw]; exact h', Sub.refl _ _, by rw [hw]; exact Out.refl _ _⟩
    · have e1 : Nt.twinE st (j : Int) = 0 := by unfold Nt.twinE; rw [if_pos hk, if_neg (by omega)]
      have e2 : Nt.twinS st (j : Int) = { st with way := st.way ++ [Nt.fr st (j : Int)] } := if_pos e1
      rw [e1, e2]
      obtain ⟨l1, x, l2, rfl, hl1⟩ := part_at hj
      obtain ⟨hfr, -, -⟩ := part_fr hway hl1
      rw [hfr]
      obtain ⟨g, rfl⟩ := row_at hrw.row (by omega)
      have hx := hrw.fr x (by simp)
      refine (twin_p b g c0 j m st.hosts (l1 ++ x :: l2) x w hb hrw.row (by omega) (by rw [List.getElem?_append_right (by omega)]; simp [hl1]) (fun q hq e => (hrw.inA q hq).2 (.inl e)) hx).mono fun e w' ⟨he, hp⟩ => ?_
      obtain ⟨S', h1, h2, h3⟩ := isP_app hh hway hcu hsb hrw hlt (Up.refl w) hp (by omega) hx.2.1 hx.2.2
      exact ⟨S', he, h1, h2, h3⟩
  · have e1 : Nt.twinE st k = 8 := if_neg hk
    have e2 : Nt.twinS st k = st := if_neg (by rw [e1]; decide)
    rw [e1, e2]
    exact (twin_no b l.length c0 A0 k w kb hrw.len (by rw [← hwl]; exact hk)).mono fun e w' ⟨he, hw⟩ => ⟨S, he, by rw [hw]; exact h', Sub.refl _ _, by rw [hw]; exact Out.refl _ _⟩
theorem p_takeNo (S : Nat → Prop) (p : Addr) (st : Nt.St) (k : Int) (w : World) (h : IsP S w p st) (hk : ¬ Nt.has st k) :
    Calls Try.prog 16 #[.pointer (some p), .int .i64 k] w fun e w' => ∃ S', e = .returned (.tuple #[frV default (.slice none 0 0), .int .i64 8]) ∧ IsP S' w' p st ∧ Sub S' S w ∧ Out S w w' := by
  have h' := h
  obtain ⟨b, m, A0, c0, l, rfl, hh, hway, hb, hcu, hsb, hrw, hlt⟩ := h
  have hwl : st.way.length = l.length := by rw [hway, List.length_map]
  exact (take_no b l.length c0 A0 k w (cell_of hb rfl) hrw.len (by rw [← hwl]; exact hk)).mono fun e w' ⟨he, hu⟩ => ⟨S, he, isP_up h' hu, Sub.refl _ _, hu.out S⟩
theorem p_take (S : Nat → Prop) (p : Addr) (st : Nt.St) (k : Int) (w : World) (h : IsP S w p st) (hk : Nt.has st k) :
    Calls Try.prog 16 #[.pointer (some p), .int .i64 k] w fun e w' => ∃ S' A c, e = .returned (.tuple #[frV (Nt.fr st k) (.slice A (Nt.fr st k).bytes.length c), .int .i64 0]) ∧ InB w' A (Nt.fr st k).bytes.length c (Nt.fr st k).bytes ∧ (∀ b, blk? A = some b → ¬ S' b ∧ (S b ∨ w.heap.size ≤ b)) ∧ IsP S' w' p (Nt.takeS st k) ∧ Sub S' S w ∧ Out S w w' := by
  obtain ⟨b, m, A0, c0, l, rfl, hh, hway, hb, hcu, hsb, hrw, hlt⟩ := h
  have hwl : st.way.length = l.length := by rw [hway, List.length_map]
  obtain ⟨j, rfl, hj⟩ := has_nat hk
  rw [hwl] at hj
  obtain ⟨l1, x, l2, rfl, hl1⟩ := part_at hj
  obtain ⟨hfr, her, -⟩ := part_fr hway hl1
  obtain ⟨g, rfl⟩ := row_at hrw.row (by omega)
  have hgb : g ≠ b := fun e => (hrw.inA g rfl).2 (.inl e)
  have hgm : g ≠ m := fun e => (hrw.inA g rfl).2 (.inr e)
  have hap := hrw.apart
  have hlen : (l1 ++ x :: l2).length = j + 1 + l2.length := by simp; omega
  have hl2 : (l1 ++ l2).length = j + l2.length := by simp; omega
  rw [hfr]
  refine (take_p g b m c0 j _ x l1 l2 st.hosts w hl1 hlen hrw.len hb hrw.row hgb).mono fun e w' ⟨he, hb', hr', ho'⟩ => ?_
  rw [← hl2] at hb' hr'
  have hx := hrw.fr x (by simp)
  have hxk : ∀ k, blk? x.A = some k → w'.heap[k]? = w.heap[k]? := fun k hk => ho'.block k (hlt k (hap k hk).1.1) (fun ht => by
    rcases ht with ht | ht
    · exact (hap k hk).1.2.1 (.inl ht)
    · exact (hap k hk).1.2.2 (by rw [ht]; rfl))
  have hx' := frIn_blk hx hxk
  refine ⟨fun k => S k ∧ blk? x.A ≠ some k, x.A, x.c, he, own_inB hx'.1 hx'.2.1, fun k hk => ⟨fun hs => hs.2 hk, .inl (hap k hk).1.1⟩, ⟨b, m, some ⟨g, 0, none⟩, c0, l1 ++ l2, rfl, hh, ?_, hb', hcu.keep (ho'.block m hcu.lt (fun ht => ?_)), ⟨⟨hsb.1, fun e => (hap b e).1.2.1 (.inl rfl)⟩, ⟨hsb.2.1, fun e => (hap m e).1.2.1 (.inr rfl)⟩, hsb.2.2⟩, ?_, fun k hk => Nat.lt_of_lt_of_le (hlt k hk.1) ho'.size⟩, fun k hk => .inl hk.1, ho'.mono (fun k hk => ?_)⟩
  · unfold Nt.takeS
    simp only [Int.toNat_natCast]
    exact her
  · rcases ht with ht | ht
    · exact hsb.2.2 ht.symm
    · exact hgm ht.symm
  · refine hrw.erase hr' (fun k hs hX hA => ho'.block k (hlt k hs) (fun ht => ?_)) (fun k hk => ?_) (fun y hy k hk => ?_)
    · rcases ht with ht | ht
      · exact hX (.inl ht)
      · exact hA (by rw [ht]; rfl)
    · refine ⟨(hrw.inA k hk).2, ⟨(hrw.inA k hk).1, fun e => (hap k e).1.2.2 hk⟩, fun y hy e => ?_⟩
      have hy' : y ∈ l1 ++ x :: l2 := by
        rcases List.mem_append.1 hy with h1 | h1
        · exact List.mem_append_left _ h1
        · exact List.mem_append_right _ (List.mem_cons_of_mem _ h1)
      exact (hrw.inF y hy' k e).2.2 hk
    · have hy' : y ∈ l1 ++ x :: l2 := by
        rcases List.mem_append.1 hy with h1 | h1
        · exact List.mem_append_left _ h1
        · exact List.mem_append_right _ (List.mem_cons_of_mem _ h1)
      exact ⟨(hrw.inF y hy' k hk).1, fun e => (hap k e).2 y hy hk⟩
  · rcases hk with hk | hk
    · rw [hk]; exact hsb.1
    · rw [hk]; exact (hrw.inA g rfl).1
end Go.Proofs.Ytfbjhialjepodaa
namespace Go.Proofs.Ytfbjhialjepodaa
open Go Go.RowKit
set_option linter.unusedVariables false
theorem p_last (S : Nat → Prop) (p : Addr) (st : Nt.St) (k : Int) (w : World) (h : IsP S w p st) :
    Calls Try.prog 20 #[.pointer (some p), .int .i64 k] w fun e w' => ∃ S', e = .returned (.int .i64 (Nt.lastE st k)) ∧ IsP S' w' p (Nt.lastS st k) ∧ Sub S' S w ∧ Out S w w' := by
  have h' := h
  obtain ⟨b, m, A0, c0, l, rfl, hh, hway, hb, hcu, hsb, hrw, hlt⟩ := h
  have hwl : st.way.length = l.length := by rw [hway, List.length_map]
  by_cases hk : Nt.has st k
  · have e1 : Nt.lastE st k = 0 := if_pos hk
    have e2 : Nt.lastS st k = { st with way := st.way.eraseIdx k.toNat ++ [Nt.fr st k] } := if_pos hk
    rw [e1, e2]
    obtain ⟨j, rfl, hj⟩ := has_nat hk
    rw [hwl] at hj
    obtain ⟨l1, x, l2, rfl, hl1⟩ := part_at hj
    obtain ⟨hfr, her, -⟩ := part_fr hway hl1
    obtain ⟨g, rfl⟩ := row_at hrw.row (by omega)
    have hgb : g ≠ b := fun e => (hrw.inA g rfl).2 (.inl e)
    have hgm : g ≠ m := fun e => (hrw.inA g rfl).2 (.inr e)
    have hap := hrw.apart
    have hlen : (l1 ++ x :: l2).length = j + 1 + l2.length := by simp; omega
    have hl2 : (l1 ++ l2).length = j + l2.length := by simp; omega
    have hx := hrw.fr x (by simp)
    have hT : Calls Try.prog 16 #[.pointer (some ⟨b, 0, none⟩), .int .i64 (j : Int)] w fun e w1 => ∃ A1 c, e = .returned (.tuple #[frV x.f (.slice x.A x.f.bytes.length x.c), .int .i64 0]) ∧ TkPost b 61 (netBlk m st.hosts) (l1 ++ l2) x (some ⟨g, 0, none⟩) (fun q => q = b ∨ q = g) w A1 c w1 :=
      (take_p g b m c0 j _ x l1 l2 st.hosts w hl1 hlen hrw.len hb hrw.row hgb).mono fun e w' ⟨he, hb', hr', ho'⟩ => by
        rw [← hl2] at hb' hr'
        refine ⟨some ⟨g, 0, none⟩, c0, he, hb', hr', fun q hq => ?_, fun e => (hap b e).1.2.1 (.inl rfl), frIn_blk hx (fun k hk => ho'.block k (hlt k (hap k hk).1.1) (fun ht => ?_)), ho', fun q hq => .inl hq⟩
        · cases hq
          exact ⟨hgb, fun e => (hap g e).1.2.2 rfl⟩
        · rcases ht with ht | ht
          · exact (hap k hk).1.2.1 (.inl ht)
          · exact (hap k hk).1.2.2 (by rw [ht]; rfl)
    have hlen2 := hrw.len
    refine (last_p b (j : Int) m st.hosts (l1 ++ l2) x (some ⟨g, 0, none⟩) _ w (by simp at hlen2 ⊢; omega) hT).mono fun e w' ⟨he, w0, A1, c1, ht, hW⟩ => ?_
    obtain ⟨S', A', c', hb', hr', hs', hss, ho', hlt'⟩ := rw_last hrw (fun k hk => by rcases hk with rfl | rfl; exact hsb.1; exact hsb.2.1) (.inl rfl) hlt (fun k hk => hk.imp id (fun e => by rw [e]; rfl)) ht hW
    refine ⟨S', he, ⟨b, m, A', c', l1 ++ l2 ++ [x], rfl, hh, ?_, hb', hcu.keep (ho'.block m hcu.lt (fun ht => ?_)), ⟨hss b hsb.1, hss m hsb.2.1, hsb.2.2⟩, hr', hlt'⟩, hs', ho'.mono (fun k hk => ?_)⟩
    · simp only [Int.toNat_natCast, her, hfr]
      simp
    · rcases ht with ht | ht
      · exact hsb.2.2 ht.symm
      · exact (hrw.inA m ht).2 (.inr rfl)
    · rcases hk with hk | hk
      · rw [hk]; exact hsb.1
      · exact (hrw.inA k hk).1
  · have e1 : Nt.lastE st k = 8 := if_neg hk
    have e2 : Nt.lastS st k = st := if_neg hk
    rw [e1, e2]
    exact (last_no b l.length c0 A0 k w (cell_of hb rfl) hrw.len (by rw [← hwl]; exact hk)).mono fun e w' ⟨he, hu⟩ => ⟨S, he, isP_up h' hu, Sub.refl _ _, hu.out S⟩
/-- What a Turn finds. -/
theorem turn_cells {S X : Nat → Prop} {w : World} {c k : Nat} {x : FrB} {l1 l2 : List FrB} {g : Nat} (h : Rw S X w (some ⟨g, 0, none⟩) c (l1 ++ x :: l2)) (hk : l1.length = k) :
    w.cell? ⟨g, k * 6 + 4, none⟩ = some (.slice x.A x.f.bytes.length x.c) ∧ w.cell? ⟨g, k * 6 + 5, none⟩ = some (.bool x.f.tn) ∧ w.frozen? ⟨g, k * 6 + 5, none⟩ = false := by
  have hx : (l1 ++ x :: l2)[k]? = some x := by rw [List.getElem?_append_right (by omega)]; simp [hk]
  exact ⟨row_cell h.row (rowc_at hx rfl), row_cell h.row (rowc_at hx rfl), World.ownsRow.frozenAt h.row _⟩
theorem turn_byte {w : World} {x : FrB} {q : Nat} (h : FrIn w x) (hq : q < x.f.bytes.length) : ∃ xg vn, x.A = some ⟨xg, 0, none⟩ ∧ w.cell? ⟨xg, q, none⟩ = some (.int .u8 ((vn : Nat) : Int)) ∧ w.frozen? ⟨xg, q, none⟩ = false ∧ ((vn : Nat) : Int) = x.f.bytes.getD q 0 ∧ vn < 256 := by
  obtain ⟨xg, hxA, _, _⟩ := OwnI.at_ h.1 (by omega)
  have hxo : OwnI .u8 5 0 w (some ⟨xg, 0, none⟩) x.f.bytes.length x.c x.f.bytes := by rw [← hxA]; exact h.1
  have hb := h.2.1 x.f.bytes[q] (List.getElem_mem hq)
  have he : x.f.bytes.getD q 0 = x.f.bytes[q] := by simp [List.getD, hq]
  refine ⟨xg, x.f.bytes[q].toNat, hxA, ?_, OwnI.frozenAt hxo q, by rw [he]; omega, by omega⟩
  rw [show ((x.f.bytes[q].toNat : Nat) : Int) = x.f.bytes[q] by omega]
  exact OwnI.cellAt hxo (by simp [hq])
theorem p_turn (S : Nat → Prop) (p : Addr) (st : Nt.St) (k q bits : Int) (w : World) (h : IsP S w p st) (hb0 : 0 ≤ bits) (hb1 : bits < 256) :
    Calls Try.prog 19 #[.pointer (some p), .int .i64 k, .int .i64 q, .int .u8 bits] w fun e w' => ∃ S', e = .returned (.int .i64 (Nt.turnE st k q bits)) ∧ IsP S' w' p (Nt.turnS st k q bits) ∧ Sub S' S w ∧ Out S w w' := by
  have h' := h
  obtain ⟨b, m, A0, c0, l, rfl, hh, hway, hb, hcu, hsb, hrw, hlt⟩ := h
  have hwl : st.way.length = l.length := by rw [hway, List.length_map]
  have kb : w.cell? ⟨b, 1, none⟩ = some (.slice A0 l.length c0) := cell_of hb rfl
  have same : ∀ {r : Int}, Nt.turnE st k q bits = r → r ≠ 0 → Calls Try.prog 19 #[.pointer (some ⟨b, 0, none⟩), .int .i64 k, .int .i64 q, .int .u8 bits] w (fun e w' => e = .returned (.int .i64 r) ∧ w' = w) → Calls Try.prog 19 #[.pointer (some ⟨b, 0, none⟩), .int .i64 k, .int .i64 q, .int .u8 bits] w fun e w' => ∃ S', e = .returned (.int .i64 (Nt.turnE st k q bits)) ∧ IsP S' w' ⟨b, 0, none⟩ (Nt.turnS st k q bits) ∧ Sub S' S w ∧ Out S w w' := fun {r} he hr hc => hc.mono fun e w' ⟨h1, h2⟩ => by
    have e2 : Nt.turnS st k q bits = st := if_neg (by rw [he]; exact hr)
    rw [he, e2, h2]
    exact ⟨S, h1, h', Sub.refl _ _, Out.refl _ _⟩
  by_cases hk : Nt.has st k
  · obtain ⟨j, rfl, hj⟩ := has_nat hk
    rw [hwl] at hj
    obtain ⟨l1, x, l2, rfl, hl1⟩ := part_at hj
    obtain ⟨hfr, -, hset⟩ := part_fr hway hl1
    obtain ⟨g, rfl⟩ := row_at hrw.row (by omega)
    obtain ⟨k4, k5, f5⟩ := turn_cells hrw hl1
    have hx := hrw.fr x (by simp)
    have hE : Nt.turnE st (j : Int) q bits = if bits ≠ 0 ∧ 0 ≤ q ∧ q < x.f.bytes.length then (if x.f.tn then 7 else 0) else 1 := by unfold Nt.turnE; rw [if_pos hk, hfr]
    by_cases hz : bits = 0
    · subst hz
      exact same (by rw [hE, if_neg (by omega)]) (by decide) (turn_p_b0 g b c0 _ j _ _ x.A q w hrw.len hj kb k4)
    · by_cases hq0 : q < 0
      · exact same (by rw [hE, if_neg (by omega)]) (by decide) (turn_p_q0 g b c0 _ j _ _ x.A q bits w hrw.len hj kb k4 hz hq0)
      · obtain ⟨r, rfl⟩ : ∃ r : Nat, q = r := ⟨q.toNat, by omega⟩
        by_cases hqn : x.f.bytes.length ≤ r
        · exact same (by rw [hE, if_neg (by omega)]) (by decide) (turn_p_qn g b c0 _ j _ _ x.A r bits w hrw.len hj kb k4 hz hqn)
        · cases htn : x.f.tn with
          | true =>
            rw [htn] at k5
            exact same (by rw [hE, if_pos (by omega), if_pos htn]) (by decide) (turn_p_tn g b c0 _ j _ _ x.A r bits w hrw.len hj kb k4 k5 hz (by omega) hx.2.2)
          | false =>
            rw [htn] at k5
            have e1 : Nt.turnE st (j : Int) (r : Int) bits = 0 := by rw [hE, if_pos (by omega), if_neg (by simp [htn])]
            have e2 : Nt.turnS st (j : Int) (r : Int) bits = { st with way := st.way.set j (Nt.turnF x.f (r : Int) bits) } := by unfold Nt.turnS; rw [if_pos e1, hfr, Int.toNat_natCast]
            rw [e1, e2]
            obtain ⟨bn, rfl⟩ : ∃ bn : Nat, bits = bn := ⟨bits.toNat, by omega⟩
            obtain ⟨xg, vn, hxA, kx, fx, hv, hvn⟩ := turn_byte (q := r) hx (by omega)
            rw [hxA] at k4
            have hgx : g ≠ xg := fun e => (hrw.inF x (by simp) xg (by rw [hxA]; rfl)).2.2 (by rw [e]; rfl)
            refine (turn_p g b xg c0 _ j _ _ vn bn r w hrw.len hj (by omega) hx.2.2 kb k4 k5 f5 kx fx hvn ⟨by omega, by omega⟩ hgx).mono fun e w' ⟨he, hw⟩ => ?_
            have hO : Out (fun j => j = g ∨ j = xg) w w' := by
              rw [hw]
              exact ((setCell_out w xg r _).mono fun k hk => .inr hk).trans ((setCell_out _ g (j * 6 + 5) _).mono fun k hk => .inl hk) (Sub.refl _ _)
            have hgX := (hrw.inA g rfl)
            have hxX := hrw.inF x (by simp) xg (by rw [hxA]; rfl)
            have hT := hrw.turn (q := r) (bn := bn) hl1 hxA hv hvn (by omega)
            have hl3 : (l1 ++ ⟨Nt.turnF x.f (r : Int) (bn : Int), x.A, x.c⟩ :: l2).length = (l1 ++ x :: l2).length := by simp
            refine ⟨S, he, ⟨b, m, some ⟨g, 0, none⟩, c0, l1 ++ ⟨Nt.turnF x.f (r : Int) (bn : Int), x.A, x.c⟩ :: l2, rfl, hh, ?_, ?_, hcu.keep (hO.block m hcu.lt (fun e => ?_)), hsb, by rw [hw]; exact hT, fun k hk => Nat.lt_of_lt_of_le (hlt k hk) hO.size⟩, Sub.refl _ _, hO.mono (fun k hk => ?_)⟩
            · simp only [hset, List.map_append, List.map_cons]
            · rw [hl3]
              exact hO.blk hb (fun e => by
                rcases e with e | e
                · exact hgX.2 (.inl e.symm)
                · exact hxX.2.1 (.inl e.symm))
            · rcases e with e | e
              · exact hgX.2 (.inr e.symm)
              · exact hxX.2.1 (.inr e.symm)
            · rcases hk with rfl | rfl
              · exact hgX.1
              · exact hxX.1
  · have e1 : Nt.turnE st k q bits = 8 := if_neg hk
    exact same e1 (by decide) (turn_p_no b c0 l.length A0 k q bits w hrw.len (by rw [← hwl]; exact hk) kb) 
theorem p_cut (S : Nat → Prop) (p : Addr) (st : Nt.St) (f t q : Int) (d : Bool) (w : World) (h : IsP S w p st) :
    Calls Try.prog 18 #[.pointer (some p), .int .i64 f, .int .i64 t, .int .i64 q, .bool d] w fun e w' => ∃ S', e = .returned (.int .i64 (Nt.cutE st f t q)) ∧ IsP S' w' p (Nt.cutS st f t q d) ∧ Sub S' S w ∧ Out S w w' := by
  have h' := h
  obtain ⟨b, m, A0, c0, l, rfl, hh, hway, hb, hcu, hsb, hrw, hlt⟩ := h
  have hiff : apB st.hosts (f, q) (t, q) = true ↔ (0 ≤ f ∧ f < st.hosts) ∧ (0 ≤ t ∧ t < st.hosts) ∧ f ≠ t ∧ 0 ≤ q ∧ q < 2 := by
    rw [apB_spec]
    unfold Nt.okA
    simp only
    constructor
    · rintro ⟨⟨h1, h2⟩, ⟨h3, h4⟩, h5⟩; exact ⟨h1, h3, h5, h2⟩
    · rintro ⟨h1, h3, h5, h2⟩; exact ⟨⟨h1, h2⟩, ⟨h3, h2⟩, h5⟩
  cases hap : apB st.hosts (f, q) (t, q) with
  | false =>
    have hno : ¬ ((0 ≤ f ∧ f < st.hosts) ∧ (0 ≤ t ∧ t < st.hosts) ∧ f ≠ t ∧ 0 ≤ q ∧ q < 2) := fun e => by have := hiff.2 e; rw [hap] at this; cases this
    have e1 : Nt.cutE st f t q = 1 := if_neg hno
    have e2 : Nt.cutS st f t q d = st := if_neg (by rw [e1]; decide)
    rw [e1, e2]
    exact (cut_bad_p b st.hosts f t q d w (cell_of hb rfl) hap).mono fun e w' ⟨he, hu⟩ => ⟨S, he, isP_up h' hu, Sub.refl _ _, hu.out S⟩
  | true =>
    have hok := hiff.1 hap
    have e1 : Nt.cutE st f t q = 0 := if_pos hok
    have e2 : Nt.cutS st f t q d = { st with down := fun a b c => if a = f ∧ b = t ∧ c = q then d else st.down a b c } := if_pos e1
    rw [e1, e2]
    have hr : Rd f t q := by unfold Rd; omega
    have hc : Calls Try.prog 18 #[.pointer (some ⟨b, 0, none⟩), .int .i64 f, .int .i64 t, .int .i64 q, .bool d] w (CutPost m st.down f t q d w) := by
      cases d with
      | true => exact cut_true b m _ c0 A0 st.hosts f t q st.down w hb hcu hap hr
      | false => exact cut_false b m _ c0 A0 st.hosts f t q st.down w hb hcu hap hr
    refine hc.mono fun e w' ⟨he, ho, hcu'⟩ => ⟨S, he, ⟨b, m, A0, c0, l, rfl, hh, hway, ho.blk hb hsb.2.2, hcu', hsb, hrw.keep (fun k hs hX => ho.block k (hlt k hs) (fun e => hX (.inr e))), fun k hk => Nat.lt_of_lt_of_le (hlt k hk) ho.size⟩, Sub.refl _ _, ho.mono (fun k hk => by rw [hk]; exact hsb.2.1)⟩
theorem p_len (S : Nat → Prop) (p : Addr) (st : Nt.St) (w : World) (h : IsP S w p st) : Calls Try.prog 14 #[.pointer (some p)] w fun e w' => e = .returned (.int .i64 (st.way.length : Int)) ∧ Up w w' := by
  obtain ⟨b, m, A0, c0, l, rfl, hh, hway, hb, hcu, hsb, hrw, hlt⟩ := h
  have hwl : st.way.length = l.length := by rw [hway, List.length_map]
  rw [hwl]
  exact (len_p b l.length c0 A0 w (cell_of hb rfl) hrw.len).mono fun e w' ⟨he, hw⟩ => ⟨he, by rw [hw]; exact Up.refl w⟩
theorem p_list (S : Nat → Prop) (p : Addr) (st : Nt.St) (w : World) (h : IsP S w p st) : Calls Try.prog 13 #[.pointer (some p)] w fun e w' => ∃ S' A c, e = .returned (.slice A st.way.length c) ∧ Frames w.heap.size S' w' A st.way ∧ IsP S' w' p st ∧ Sub S' S w ∧ Out S w w' := by
  have h' := h
  obtain ⟨b, m, A0, c0, l, rfl, hh, hway, hb, hcu, hsb, hrw, hlt⟩ := h
  have hwl : st.way.length = l.length := by rw [hway, List.length_map]
  refine (list_p b l.length c0 A0 l w rfl hrw.len (cell_of hb rfl) hrw.row hrw.fr).mono fun e w' ⟨A, c, he, hu, hg⟩ => ⟨S, A, c, by rw [hwl]; exact he, fun i hi => ?_, isP_up h' hu, Sub.refl _ _, hu.out S⟩
  obtain ⟨g, rfl, hgB, _, l1, hl1, hm, hown, hrow⟩ := hg (by omega)
  rw [List.drop_of_length_le (Nat.le_refl _), List.append_nil] at hrow
  rw [List.take_of_length_le (Nat.le_refl _)] at hm
  have hi1 : i < l1.length := by omega
  obtain ⟨y, hy⟩ : ∃ y, l1[i]? = some y := ⟨l1[i], by simp [hi1]⟩
  have hf : st.way.getD i default = y.f := by rw [hway, ← hm, List.getD_eq_getElem?_getD, List.getElem?_map, hy]; rfl
  have hym := List.mem_of_getElem? hy
  have hc : ∀ (j : Nat) (v : Value), (frc y)[j]? = some v → w'.cell? ⟨g, i * 6 + j, none⟩ = some v := fun j v hv => row_cell hrow (rowc_at hy hv)
  have hbyt : Byt y.f.bytes := by
    have : y.f ∈ l.map (·.f) := by rw [← hm]; exact List.mem_map.2 ⟨y, hym, rfl⟩
    obtain ⟨x, hx, e⟩ := List.mem_map.1 this
    rw [← e]; exact (hrw.fr x hx).2.1
  rw [hf]
  refine ⟨g, 0, y.A, y.c, rfl, ?_, own_inB (hown y hym).1 hbyt, fun hs => by have := hlt g hs; omega, fun k hk => ?_⟩
  · simp only [Nat.zero_add]
    exact ⟨hc 0 _ rfl, hc 1 _ rfl, hc 2 _ rfl, hc 3 _ rfl, hc 4 _ rfl, hc 5 _ rfl⟩
  · have hkl := blk_lt_own (hown y hym).1 hk
    refine ⟨hkl.1, fun hs => by have := hlt k hs; omega, fun e => (hown y hym).2 (by rw [← e]; exact hk), fun j => ?_⟩
    obtain ⟨q, hq⟩ : ∃ q, y.A = some ⟨q, 0, none⟩ := by
      rcases (hown y hym).1.2 with ⟨h1, _⟩ | ⟨q, _, _, h1, _⟩
      · injection h1 with h1; rw [h1] at hk; cases hk
      · injection h1 with h1; exact ⟨q, h1⟩
    have hyo := (hown y hym).1
    rw [hq] at hk hyo
    cases hk
    exact OwnI.frozenAt hyo j
theorem ncP : NC IsP where
  lt := isP_lt
  keep := isP_keep
  bd := isP_bd
  new := p_new
  newNo := new_no
  send := fun S p st f t A n c bs w h hin _ _ _ _ _ hn => p_send S p st f t A n c bs w h hin hn
  take := p_take
  takeNo := fun S p st k w h _ hk => p_takeNo S p st k w h hk
  twin := fun S p st k w h _ => p_twin S p st k w h
  last := fun S p st k w h _ => p_last S p st k w h
  turn := fun S p st k q bits w h _ _ h0 h1 => p_turn S p st k q bits w h h0 h1
  cut := fun S p st f t q d w h _ _ _ => p_cut S p st f t q d w h
  len := p_len
  list := p_list
theorem ncNil : NCnil where
  send := send_nil
  take := take_nil
  twin := twin_nil
  last := last_nil
  turn := turn_nil
  cut := cut_nil
  len := len_nil
  list := list_nil
end Go.Proofs.Ytfbjhialjepodaa
