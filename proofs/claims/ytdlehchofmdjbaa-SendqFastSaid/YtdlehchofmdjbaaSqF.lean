import Derived.Test.YtdlehchofmdjbaaSqC
import Derived.Test.YtdlehchofmdjbaaSqM
namespace Go.Proofs.Ytdlehchofmdjbaa
open Go Go.RowKit Sq
set_option linter.unusedVariables false
set_option linter.unusedSimpArgs false
/-! SendqFull. -/
namespace Sq
/-- The first j are out, the others wait. -/
def Half (l : List It) (j : Nat) : Prop := ∃ a b, l = a ++ b ∧ a.length = j ∧ (∀ x ∈ a, x.out = true) ∧ (∀ x ∈ b, x.out = false) ∧ (∀ x ∈ l, x.mkd = false)
theorem half_0 {l : List It} (h : ∀ x ∈ l, x.out = false ∧ x.mkd = false) : Half l 0 := ⟨[], l, rfl, rfl, by simp, fun x hx => (h x hx).1, fun x hx => (h x hx).2⟩
theorem half_pick {l : List It} {j : Nat} (h : Half l j) (hj : j < l.length) : pick l = some j := by
  obtain ⟨a, b, rfl, rfl, ha, hb, hm⟩ := h
  refine pick_wait hm ha (fun x hx => hb x (List.mem_of_mem_head? hx)) (fun e => ?_)
  subst e
  simp at hj
theorem half_out {l : List It} {j : Nat} (h : Half l j) : outN l = j := by
  obtain ⟨a, b, rfl, rfl, ha, hb, hm⟩ := h
  rw [outN_append ha, outN_none (fun x hx => hb x (List.mem_of_mem_head? hx))]
  rfl
theorem modify_app (f : It → It) (y : It) (b : List It) : ∀ a : List It, (a ++ y :: b).modify a.length f = a ++ f y :: b
  | [] => by simp
  | x :: a => by simp [modify_app f y b a]
theorem half_next {l : List It} {j : Nat} (h : Half l j) (hj : j < l.length) (path : Int) : Half (l.modify j (go path)) (j + 1) := by
  obtain ⟨a, b, rfl, rfl, ha, hb, hm⟩ := h
  cases b with
  | nil => simp at hj
  | cons y b =>
    have e : (a ++ y :: b).modify a.length (go path) = (a ++ [go path y]) ++ b := by
      rw [modify_app]
      simp
    rw [e]
    refine ⟨a ++ [go path y], b, rfl, by simp, ?_, fun x hx => hb x (List.mem_cons_of_mem _ hx), ?_⟩
    · intro x hx
      rcases List.mem_append.1 hx with h1 | h1
      · exact ha x h1
      · rw [List.mem_singleton.1 h1]; rfl
    · intro x hx
      rcases List.mem_append.1 hx with h1 | h1
      · rcases List.mem_append.1 h1 with h2 | h2
        · exact hm x (List.mem_append_left _ h2)
        · rw [List.mem_singleton.1 h2]; rfl
      · exact hm x (List.mem_append_right _ (List.mem_cons_of_mem _ h1))
theorem modify_len (l : List It) (j : Nat) (f : It → It) : (l.modify j f).length = l.length := by simp
theorem heard_len (Q : QS) (d : Nat) (G : List (Nat × Nat)) : (heard Q d G).l.length = Q.l.length - d := by
  unfold heard; simp
theorem len_push (Q : QS) (p : Pm) : (push Q p).l.length = Q.l.length + 1 := by simp [push]
/-- The queue's first Cum. -/
theorem done_full {f h : Nat} {Q : QS} (hf : f < 4294967296) (hh : h ≤ 255) (hn : Q.nx = (f + 256) % 4294967296) (hl : Q.l.length = 256) : done Q ((f + h + 4294967295) % 4294967296) = h := by
  unfold done cum
  rw [hn, hl]
  omega
end Sq
set_option maxRecDepth 100000 in
set_option maxHeartbeats 4000000 in
theorem law_full {IsQ : (Nat → Prop) → World → Addr → QS → Prop} (C : QC IsQ) (f k h : Nat) (w : World) (hf : f < 4294967296) (hk : k ≤ 255) (hh : h ≤ 255) :
    Calls Try.prog 4 #[.int .u32 (f : Int), .int .u8 (k : Int), .int .u8 (h : Int)] w (RetB true w) := by
  go_enter Try.func4, Try.ntmps4
  go_wp2_with fail
  refine (C.new f w hf).mono ?_
  rintro e w1 ⟨p, S, rfl, HQ, HF, HU⟩
  go_wp2_with fail
  refine (answers_ok C w1).mono ?_
  rintro e w2 ⟨rfl, HU2⟩
  have HQ2 := Lib.hid (C.up HQ.out HU2.out)
  have HV := Lib.hid (HU.out.trans HU2.out)
  clear HQ HU HU2
  go_wp2_with fail
  go_loopw [8] (fun iv wr => ∃ (i : Nat) (S : Nat → Prop) (Q : QS), iv = .int .i64 (i : Int) ∧ i ≤ 256 ∧ Hid (IsQ S wr p Q) ∧ Hid (Q.nx = (f + i) % 4294967296) ∧ Hid (Q.l.length = i) ∧ Hid (∀ x ∈ Q.l, x.out = false ∧ x.mkd = false) ∧ Hid (From w.heap.size S) ∧ Hid (Up w wr)) (fun iv _ => 256 - (intOf iv).toNat)
  case atStart => exact ⟨0, S, ⟨f, []⟩, rfl, by omega, HQ2, Lib.hid (by show f = _; omega), Lib.hid rfl, Lib.hid (by simp), HF, HV⟩
  case round =>
    clear HQ2 HF HV
    obtain ⟨i, S, Q, rfl, hi, HQ, HN, HL, HI, HF, HV⟩ := hrel
    by_cases hlt : i < 256
    · have d1 : decide ((i : Int) < 256) = true := by simp; omega
      have e8 : ((i : Int) % 256) = (i : Int) := by omega
      have HB := Lib.hid (new_at wr (.cells #[.int .u8 (i : Int)] 5))
      have HQ1 := Lib.hid (isq_alloc C HQ.out (.cells #[.int .u8 (i : Int)] 5))
      have HV1 := Lib.hid (HV.out.trans (up_alloc wr (.cells #[.int .u8 (i : Int)] 5)))
      go_wp2_with fail
      generalize wr.alloc (.cells #[.int .u8 (i : Int)] 5) = w3 at HB HQ1 HV1 ⊢
      generalize wr.heap.size = g at HB ⊢
      refine (push1 C S p Q g (i : Int) w3 HQ1.out HB.out (by omega) (by rw [HL.out]; exact hlt)).mono ?_
      rintro e w4 ⟨S4, rfl, HQ4, HS4, HO4⟩
      obtain ⟨nx, hnx⟩ : ∃ nx, nx = Q.nx := ⟨_, rfl⟩
      rw [← hnx]
      have t1 : ((nx : Int) != ((f : Int) + (i : Int)) % 4294967296) = false := by have h1 := HN.out; simp; omega
      have HN4 : Hid ((push Q (pb [(i : Int)])).nx = (f + (i + 1)) % 4294967296) := Lib.hid (by show (Q.nx + 1) % 4294967296 = _; rw [HN.out]; omega)
      have HI4 : Hid (∀ x ∈ (push Q (pb [(i : Int)])).l, x.out = false ∧ x.mkd = false) := Lib.hid (by
        intro x hx
        rcases List.mem_append.1 hx with h1 | h1
        · exact HI.out x h1
        · rw [List.mem_singleton.1 h1]; exact ⟨rfl, rfl⟩)
      have HL4 : Hid ((push Q (pb [(i : Int)])).l.length = i + 1) := Lib.hid (by rw [len_push, HL.out])
      have HV4 := Lib.hid (up_far HV1.out HO4.out HF.out)
      have HF4 := Lib.hid (HF.out.sub HS4.out HV1.out.size)
      clear hnx HQ HN HI HL HV HV1 HF HB HQ1 HS4 HO4
      go_wp2_with fail
      go_roundw
      case rel => exact ⟨i + 1, S4, _, by go_num, by omega, HQ4, HN4, HL4, HI4, HF4, HV4⟩
      case measure => simp [intOf]; omega
    · obtain rfl : i = 256 := by omega
      have d1 : decide (((256 : Nat) : Int) < 256) = false := by simp
      have HB := Lib.hid (new_at wr (.cells #[.int .u8 1] 5))
      have HQ1 := Lib.hid (isq_alloc C HQ.out (.cells #[.int .u8 1] 5))
      have HV1 := Lib.hid (HV.out.trans (up_alloc wr (.cells #[.int .u8 1] 5)))
      go_wp2_with fail
      generalize wr.alloc (.cells #[.int .u8 1] 5) = w3 at HB HQ1 HV1 ⊢
      generalize wr.heap.size = g at HB ⊢
      refine (full1 C S p Q g 1 w3 HQ1.out HB.out (by omega) HL.out).mono ?_
      rintro e w4 ⟨S4, rfl, HQ4, HS4, HO4⟩
      have HV4 := Lib.hid (up_far HV1.out HO4.out HF.out)
      have HF4 := Lib.hid (HF.out.sub HS4.out HV1.out.size)
      have HH := Lib.hid (half_0 HI.out)
      clear HQ HV HV1 HF HB HQ1 HS4 HO4 HI
      go_wp2_with fail
      go_loopw [14] (fun jv wr => ∃ (j : Nat) (S : Nat → Prop) (Q : QS), jv = .int .i64 (j : Int) ∧ j ≤ k ∧ Hid (IsQ S wr p Q) ∧ Hid (Q.nx = (f + 256) % 4294967296) ∧ Hid (Q.l.length = 256) ∧ Hid (Half Q.l j) ∧ Hid (From w.heap.size S) ∧ Hid (Up w wr)) (fun jv _ => k - (intOf jv).toNat)
      case atStart => exact ⟨0, S4, Q, rfl, by omega, HQ4, HN, HL, HH, HF4, HV4⟩
      case round =>
        clear HQ4 HN HL HH HF4 HV4
        obtain ⟨j, S, Q, rfl, hj, HQ, HN, HL, HH, HF, HV⟩ := hrel
        by_cases hjk : j < k
        · have d2 : decide ((j : Int) < (k : Int)) = true := by simp; omega
          obtain ⟨x, hx⟩ : ∃ x, Q.l[j]? = some x := ⟨_, List.getElem?_eq_getElem (by rw [HL.out]; omega)⟩
          have HX := Lib.hid hx
          clear hx
          go_wp2_with fail
          refine (C.next S p Q j x 0 wr HQ.out (half_pick HH.out (by rw [HL.out]; omega)) HX.out).mono ?_
          rintro e w5 ⟨S5, A5, n5, c5, rfl, _, _, _, HQ5, HS5, HO5⟩
          have HV5 := Lib.hid (up_far HV.out HO5.out HF.out)
          have HF5 := Lib.hid (HF.out.sub HS5.out HV.out.size)
          have HL5 : Hid ((sent Q j 0).l.length = 256) := Lib.hid (by show (Q.l.modify j _).length = 256; rw [modify_len]; exact HL.out)
          have HH5 : Hid (Half (sent Q j 0).l (j + 1)) := Lib.hid (half_next HH.out (by rw [HL.out]; omega) 0)
          have HN5 : Hid ((sent Q j 0).nx = (f + 256) % 4294967296) := HN
          clear HQ HN HL HH HF HV HS5 HO5
          go_wp2_with fail
          go_roundw
          case rel => exact ⟨j + 1, S5, _, by go_num, by omega, HQ5, HN5, HL5, HH5, HF5, HV5⟩
          case measure => simp [intOf]; omega
        · obtain rfl : j = k := by omega
          have d2 : decide ((j : Int) < (j : Int)) = false := by simp
          obtain ⟨cu, hcu⟩ : ∃ cu, cu = (f + h + 4294967295) % 4294967296 := ⟨_, rfl⟩
          have he : ((f : Int) + (h : Int) - 1) % 4294967296 = (cu : Int) := by omega
          have hcl : cu < 4294967296 := by omega
          have hdn := done_full hf hh HN.out HL.out
          rw [← hcu] at hdn
          have HD := Lib.hid hdn
          have HO := Lib.hid (half_out HH.out)
          have HE := Lib.hid he
          clear hcu hdn he
          by_cases hhj : j < h
          · have d3 : decide ((h : Int) > (j : Int)) = true := by simp; omega
            go_wp2_with fail
            rw [HE.out]
            refine (C.old S p Q cu 0 none none 0 0 0 0 [] wr HQ.out ⟨Cells.nil _ _, rfl, Nat.le_refl _, by simp⟩ (fun k h => by cases h) hcl rfl (by simp) (by rw [HD.out, HO.out]; exact hhj)).mono ?_
            rintro e w5 ⟨S5, rfl, HQ5, HS5, HO5⟩
            have HV5 := Lib.hid (up_far HV.out HO5.out HF.out)
            clear HE HD HO
            go_wp2_with fail
            go_ret
            exact ⟨rfl, HV5⟩
          · have d3 : decide ((h : Int) > (j : Int)) = false := by simp; omega
            go_wp2_with fail
            rw [HE.out]
            refine (C.heard S p Q cu 0 none none 0 0 0 0 [] wr HQ.out ⟨Cells.nil _ _, rfl, Nat.le_refl _, by simp⟩ (fun k h => by cases h) hcl rfl (by simp) (by rw [HD.out, HO.out]; omega)).mono ?_
            rintro e w5 ⟨S5, A5, n5, c5, B5, m5, k5, rfl, _, _, _, HQ5, HS5, HO5⟩
            have HV5 := Lib.hid (up_far HV.out HO5.out HF.out)
            have HF5 := Lib.hid (HF.out.sub HS5.out HV.out.size)
            have HL5 : Hid ((heard Q (done Q cu) []).l.length = 256 - h) := Lib.hid (by rw [heard_len, HD.out, HL.out])
            generalize heard Q (done Q cu) [] = Q5 at HQ5 HL5
            clear HE HD HO HQ HN HL HH HF HV HS5 HO5
            go_wp2_with fail
            go_loopw [19] (fun iv wr => ∃ (i : Nat) (S : Nat → Prop) (Q : QS), iv = .int .i64 (i : Int) ∧ i ≤ h ∧ Hid (IsQ S wr p Q) ∧ Hid (Q.l.length = 256 - h + i) ∧ Hid (From w.heap.size S) ∧ Hid (Up w wr)) (fun iv _ => h - (intOf iv).toNat)
            case atStart => exact ⟨0, S5, Q5, rfl, by omega, HQ5, HL5, HF5, HV5⟩
            case round =>
              clear HQ5 HL5 HF5 HV5
              obtain ⟨i, S, Q, rfl, hi, HQ, HL, HF, HV⟩ := hrel
              have HB := Lib.hid (new_at wr (.cells #[.int .u8 1] 5))
              have HQ1 := Lib.hid (isq_alloc C HQ.out (.cells #[.int .u8 1] 5))
              have HV1 := Lib.hid (HV.out.trans (up_alloc wr (.cells #[.int .u8 1] 5)))
              by_cases hih : i < h
              · have d4 : decide ((i : Int) < (h : Int)) = true := by simp; omega
                go_wp2_with fail
                generalize wr.alloc (.cells #[.int .u8 1] 5) = w3 at HB HQ1 HV1 ⊢
                generalize wr.heap.size = g at HB ⊢
                refine (push1 C S p Q g 1 w3 HQ1.out HB.out (by omega) (by rw [HL.out]; omega)).mono ?_
                rintro e w4 ⟨S4, rfl, HQ4, HS4, HO4⟩
                have HV4 := Lib.hid (up_far HV1.out HO4.out HF.out)
                have HF4 := Lib.hid (HF.out.sub HS4.out HV1.out.size)
                have HL4 : Hid ((push Q (pb [1])).l.length = 256 - h + (i + 1)) := Lib.hid (by rw [len_push, HL.out]; omega)
                clear HQ HL HF HV HB HQ1 HV1 HS4 HO4
                go_wp2_with fail
                go_roundw
                case rel => exact ⟨i + 1, S4, _, by go_num, by omega, HQ4, HL4, HF4, HV4⟩
                case measure => simp [intOf]; omega
              · obtain rfl : i = h := by omega
                have d4 : decide ((i : Int) < (i : Int)) = false := by simp
                go_wp2_with fail
                generalize wr.alloc (.cells #[.int .u8 1] 5) = w3 at HB HQ1 HV1 ⊢
                generalize wr.heap.size = g at HB ⊢
                refine (full1 C S p Q g 1 w3 HQ1.out HB.out (by omega) (by rw [HL.out]; omega)).mono ?_
                rintro e w4 ⟨S4, rfl, HQ4, HS4, HO4⟩
                have HV4 := Lib.hid (up_far HV1.out HO4.out HF.out)
                clear HQ HL HF HV HB HQ1 HV1 HS4 HO4
                go_wp2_with fail
                go_ret
                exact ⟨rfl, HV4⟩
end Go.Proofs.Ytdlehchofmdjbaa
namespace Go.Proofs.Ytdlehchofmdjbaa
open Go Go.RowKit Sq
set_option linter.unusedVariables false
set_option linter.unusedSimpArgs false
/-! SendqFast. -/
namespace Sq
/-- All were sent once, on path 0, and nothing was heard. -/
def Plain (f : Nat) (l : List It) : Prop := ∀ i x, l[i]? = some x → x.out = true ∧ x.mkd = false ∧ x.path = 0 ∧ x.miss = 0 ∧ x.p.tsn = (f + i) % 4294967296
theorem plain_nil (f : Nat) : Plain f [] := fun i x h => by cases h
theorem plain_mem {f : Nat} {l : List It} (h : Plain f l) : (∀ x ∈ l, x.out = true) ∧ (∀ x ∈ l, x.mkd = false) := by
  constructor <;> intro x hx <;> obtain ⟨i, hi, e⟩ := List.mem_iff_getElem.1 hx
  · exact (h i x (by rw [List.getElem?_eq_getElem hi, e])).1
  · exact (h i x (by rw [List.getElem?_eq_getElem hi, e])).2.1
theorem plain_pick {f : Nat} {l : List It} (h : Plain f l) (p : Pm) (t : Nat) : pick (l ++ [fresh p t]) = some l.length := by
  obtain ⟨h1, h2⟩ := plain_mem h
  refine pick_wait (fun x hx => ?_) h1 (fun x hx => ?_) (by simp)
  · rcases List.mem_append.1 hx with h3 | h3
    · exact h2 x h3
    · rw [List.mem_singleton.1 h3]; rfl
  · simp at hx; rw [← hx]; rfl
theorem plain_next {f : Nat} {l : List It} (h : Plain f l) (p : Pm) (t : Nat) (ht : t = (f + l.length) % 4294967296) : Plain f ((l ++ [fresh p t]).modify l.length (go 0)) := by
  rw [modify_app]
  intro i x hx
  by_cases hi : i < l.length
  · rw [List.getElem?_append_left hi] at hx
    exact h i x hx
  · rw [List.getElem?_append_right (by omega)] at hx
    have hz : i - l.length = 0 := by
      rcases Nat.eq_zero_or_pos (i - l.length) with h0 | h0
      · exact h0
      · rw [List.getElem?_eq_none (by simp; omega)] at hx; cases hx
    rw [hz] at hx
    simp at hx
    subst hx
    exact ⟨rfl, rfl, rfl, rfl, by show t = _; rw [ht]; congr 1; omega⟩
theorem plain_mid {f m : Nat} {l : List It} (h : Plain f l) (hl : m + 5 ≤ l.length) : Mid m 0 ((f + m) % 4294967296) l :=
  ⟨fun i x hx => by
    obtain ⟨h1, h2, h3, h4, h5⟩ := h i x hx
    exact ⟨h1, fun _ => h2, fun e => ⟨h3, by rw [h5, e], fun _ => ⟨h2, h4⟩, fun e3 => by cases e3⟩⟩, hl⟩
theorem done_heard {Q : QS} {cu d : Nat} {G : List (Nat × Nat)} (hn : Q.nx < 4294967296) (hc : cu < 4294967296) (hd : done Q cu = d) (hl : d ≤ Q.l.length) (h256 : Q.l.length ≤ 256) : done (heard Q d G) cu = 0 := by
  have h1 : (heard Q d G).nx = Q.nx := rfl
  have h2 : (heard Q d G).l.length = Q.l.length - d := heard_len Q d G
  unfold done cum at *
  rw [h1, h2]
  omega
theorem mid_pick {t : Nat} {ts : Nat} {l : List It} (h : Mid 0 3 ts l) : ∃ x b, l = x :: b ∧ x.mkd = true ∧ x.p.tsn = ts ∧ (∀ y ∈ b, y.out = true ∧ y.mkd = false) ∧ x.out = true := by
  cases l with
  | nil => have := h.2; simp at this
  | cons x b =>
    obtain ⟨h1, _, h3⟩ := h.1 0 x rfl
    refine ⟨x, b, rfl, (h3 rfl).2.2.2 rfl, (h3 rfl).2.1, fun y hy => ?_, h1⟩
    obtain ⟨i, hi, e⟩ := List.mem_iff_getElem.1 hy
    obtain ⟨g1, g2, _⟩ := h.1 (i + 1) y (by simp [hi, e])
    exact ⟨g1, g2 (by omega)⟩
end Sq
end Go.Proofs.Ytdlehchofmdjbaa
