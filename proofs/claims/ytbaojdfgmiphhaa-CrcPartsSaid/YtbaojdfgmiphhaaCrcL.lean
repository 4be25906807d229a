import Derived.Test.YtbaojdfgmiphhaaCrcR2
import Derived.Test.YtbaojdfgmiphhaaOwn
import Derived.Outline
import Derived.Lib.SlBytesConst
namespace Go.Proofs.Ytbaojdfgmiphhaa
open Go Go.RowKit
set_option linter.unusedVariables false
theorem info5 : (Try.prog.info? 5).map (fun i => (i.zero, i.size, i.bytes)) = some (some (.int .u8 0), 1, 1) := by kernel_rfl
theorem crc_word : Crc.more 0 [49, 50, 51, 52, 53, 54, 55, 56, 57] = 3808858755 := by decide +kernel
/-- A slice of bytes. -/
structure InB (w : World) (A : Option Addr) (n cap : Nat) (xs : List Int) : Prop where
  cells : Cells w A (ints .u8 xs)
  byt : Byt xs
  cap : n ≤ cap
  len : xs.length = n
theorem InB.up {w w' : World} {A : Option Addr} {n cap : Nat} {xs : List Int} (h : InB w A n cap xs) (hu : Up w w') : InB w' A n cap xs := ⟨h.cells.up hu, h.byt, h.cap, h.len⟩
theorem Byt.append {xs ys : List Int} (h : Byt xs) (k : Byt ys) : Byt (xs ++ ys) := fun x hx => by
  rcases List.mem_append.1 hx with h1 | h1
  · exact h x h1
  · exact k x h1
theorem own_inB {w : World} {base : Nat} {A : Option Addr} {c n : Nat} {xs : List Int} (h : OwnI .u8 5 base w A n c xs) (hb : Byt xs) : InB w A n c xs := ⟨h.cells, hb, h.cap, h.len⟩
/-- What is asked of the program's calls. -/
def CSum : Prop := ∀ (A : Option Addr) (n cap : Nat) (xs : List Int) (w : World), InB w A n cap xs → n ≤ 140737488355328 →
  Calls Try.prog 10 #[.slice A n cap] w (U32 (Crc.more 0 (nats xs)) w)
def CMore : Prop := ∀ (A : Option Addr) (n cap : Nat) (xs : List Int) (s : Nat) (w : World), s < 4294967296 → InB w A n cap xs → n ≤ 140737488355328 →
  Calls Try.prog 12 #[.int .u32 (s : Int), .slice A n cap] w (U32 (Crc.more s (nats xs)) w)
def CZeros : Prop := ∀ (s : Nat) (n : Int) (w : World), s < 4294967296 → -9223372036854775808 ≤ n → n ≤ 9223372036854775807 →
  Calls Try.prog 14 #[.int .u32 (s : Int), .int .i64 n] w (U32 (Crc.zeros s n.toNat) w)
theorem rmoreB {A : Option Addr} {n cap : Nat} {xs : List Int} {s : Nat} {w : World} (hs : s < 4294967296) (h : InB w A n cap xs) (hl : n ≤ 140737488355328) :
    Calls Try.prog 13 #[.int .u32 (s : Int), .slice A n cap] w fun e w' => e = .returned (.int .u32 ((Crc.more s (nats xs) : Nat) : Int)) ∧ w = w' := by
  obtain ⟨h1, h2, h3, rfl⟩ := h
  exact rmore A cap xs s w hs h2 hl h1
theorem rsumB {A : Option Addr} {n cap : Nat} {xs : List Int} {w : World} (h : InB w A n cap xs) (hl : n ≤ 140737488355328) :
    Calls Try.prog 11 #[.slice A n cap] w fun e w' => e = .returned (.int .u32 ((Crc.more 0 (nats xs) : Nat) : Int)) ∧ w = w' := by
  obtain ⟨h1, h2, h3, rfl⟩ := h
  exact rsum A cap xs w h2 hl h1
set_option maxHeartbeats 400000 in
theorem crc_ans (hS : CSum) (w : World) : Calls Try.prog 9 #[] w fun e w' => e = .returned (.bool true) ∧ Up w w' := by
  have HS := Lib.hid hS
  clear hS
  have kc := fun (w : World) (C : Array Value) (n c : Nat) => Lib.run_convert_bytes_const (P := Try.prog) w 22 5 C n c Try.underlying22 Try.underlying5
  go_enter Try.func9, Try.ntmps9
  go_wp2_with fail
  refine (HS.out (some ⟨w.heap.size, 0, none⟩) 9 9 [49, 50, 51, 52, 53, 54, 55, 56, 57] _ ⟨?_, by intro x hx; simp at hx; omega, by simp, rfl⟩ (by omega)).mono ?_
  · refine fun _ => ⟨_, 0, rfl, by simp, fun j u hu => ?_⟩
    rw [cell_of_row _ _ _ _ _ _ (heap_alloc_new w _)]
    simpa [ints] using hu
  rintro e w1 ⟨rfl, hu⟩
  have e1 : Crc.more 0 (nats [49, 50, 51, 52, 53, 54, 55, 56, 57]) = 3808858755 := crc_word
  rw [e1]
  go_wp2_with fail
  go_ret
  exact ⟨rfl, Up.trans ((Below.refl _ _).alloc (Nat.le_refl _) _) hu⟩
def True2 (w : World) (e : Ending) (w' : World) : Prop := e = .returned (.bool true) ∧ Up w w'
theorem U32.to {n m : Nat} {w w' : World} {e : Ending} (h : U32 n w e w') (hm : n = m) : U32 m w e w' := by subst hm; exact h
set_option maxHeartbeats 800000 in
theorem law_sums (hS : CSum) (hM : CMore) (A B : Option Addr) (na ca nb cb : Nat) (xs ys : List Int) (w : World) (ha : InB w A na ca xs) (hb : InB w B nb cb ys) (hl : na ≤ 1048576) (hl' : nb ≤ 1048576) :
    Calls Try.prog 3 #[.slice A na ca, .slice B nb cb] w (True2 w) := by
  have HS := Lib.hid hS
  have HM := Lib.hid hM
  have HA := Lib.hid ha
  have HB := Lib.hid hb
  clear hS hM ha hb
  have ml := Crc.more_lt (s := 0) (by omega) (nats_lt HA.out.byt)
  have LX := Lib.hid (Crc.more_more 0 (nats xs) (nats ys))
  go_enter Try.func3, Try.ntmps3
  go_wp2_with fail
  refine (crc_ans HS.out _).mono ?_
  rintro e w1 ⟨rfl, u1⟩
  have U1 := Lib.hid u1
  clear u1
  go_wp2_with fail
  refine (HS.out A na ca xs _ (HA.out.up U1.out) (by omega)).mono ?_
  rintro e w2 ⟨rfl, u2⟩
  have U2 := Lib.hid (U1.out.trans u2)
  clear u2
  go_wp2_with fail
  refine (rsumB (HA.out.up U2.out) (by omega)).mono ?_
  rintro e w3 ⟨rfl, rfl⟩
  go_wp2_with fail
  refine (HS.out A na ca xs _ (HA.out.up U2.out) (by omega)).mono ?_
  rintro e w3 ⟨rfl, u3⟩
  have U3 := Lib.hid (U2.out.trans u3)
  clear u3
  go_wp2_with fail
  refine (HM.out B nb cb ys _ _ ml (HB.out.up U3.out) (by omega)).mono ?_
  rintro e w4 ⟨rfl, u4⟩
  have U4 := Lib.hid (U3.out.trans u4)
  clear u4
  go_wp2_with (first
   | (at_builtin; refine wpList_appendI rfl (.tmp 18) (.tmp 19) 22 rfl .u8 w4.heap.size 5 1 Try.underlying22 info5 (some ⟨w4.heap.size, 0, none⟩) 0 0 [] rfl (ownI_new _ _ _) A na ca xs rfl HA.out.len ((HA.out.up U4.out).cells.alloc _) (by omega) (by omega) (by simp) ((Below.refl _ _).alloc (Nat.le_refl _) _) ?_; intro A' N c' w5 HN HW HL hsz)
   | (at_builtin; refine wpList_appendI rfl (.tmp 20) (.tmp 21) 22 rfl .u8 w4.heap.size 5 1 Try.underlying22 info5 A' N c' ([] ++ xs) rfl HW.out B nb cb ys rfl HB.out.len (((HB.out.up U4.out).up HL.out).cells) (by have := HN.out; omega) (by have := HN.out; omega) hsz HL.out ?_; intro A2 N2 c2 w6 HN2 HW2 HL2 hsz2))
  have HI := Lib.hid (own_inB HW2.out (HA.out.byt.append HB.out.byt))
  refine (rsumB HI.out (by have := HN.out; have := HN2.out; omega)).mono ?_
  rintro e w7 ⟨rfl, rfl⟩
  have e7 : Crc.more 0 (nats ([] ++ xs ++ ys)) = Crc.more (Crc.more 0 (nats xs)) (nats ys) := by rw [LX.out, List.nil_append, nats_append]
  rw [e7]
  clear e7
  go_wp2_with fail
  go_ret
  exact ⟨rfl, U4.out.trans HL2.out⟩
end Go.Proofs.Ytbaojdfgmiphhaa
