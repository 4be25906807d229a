import Derived.Test.YtpfdojlhgfhbfaaSLaws
namespace Go.Proofs.Ytpfdojlhgfhbfaa
open Go Go.RowKit
theorem ordI_swap (a b : Int) : ordI 4294967296 b a = - ordI 4294967296 a b ∧ ordB 4294967296 b a = ordB 4294967296 a b := by
  unfold ordI ordB
  constructor <;> (repeat' split) <;> first | omega | rfl | (exfalso; omega)
theorem ord_shift (m a b : Int) (e1 e2 : Int) (h1 : (e2 - e1) % m = (b - a) % m) (h2 : (e1 - e2) % m = (a - b) % m) : ordI m e1 e2 = ordI m a b ∧ ordB m e1 e2 = ordB m a b := by
  unfold ordI ordB; rw [h1, h2]; exact ⟨rfl, rfl⟩
theorem ordI_bd (m a b : Int) : -1 ≤ ordI m a b ∧ ordI m a b ≤ 1 := by unfold ordI; repeat' split
                                                                       all_goals omega
theorem ordB_half (a b : Int) (h : ordB 4294967296 a b = false) : (a - b) % 4294967296 = 2147483648 := by
  unfold ordB at h
  revert h
  repeat' split
  all_goals first | (intro h; cases h; done) | (intro _; omega)
/-- A call answers just this order. -/
def Ord (x : Int) (s : Bool) (w : World) (e : Ending) (w' : World) : Prop := e = .returned (.tuple #[.int .i64 x, .bool s]) ∧ Up w w'
theorem IsOrd.to {m a b x : Int} {s : Bool} {w w' : World} {e : Ending} (h : IsOrd m a b w e w') (hx : ordI m a b = x) (hs : ordB m a b = s) : Ord x s w e w' := by
  subst hx; subst hs; exact h
set_option maxHeartbeats 800000 in
theorem law_turns_aux (a b d : Int) (x y : Int) (s t : Bool) (w : World) (hx1 : -1 ≤ x) (hx2 : x ≤ 1)
    (c1 : ∀ W, Calls Try.prog 11 #[.int .u32 a, .int .u32 b] W (Ord x s W)) (c2 : ∀ W, Calls Try.prog 11 #[.int .u32 b, .int .u32 a] W (Ord (-x) s W)) 
    (c3 : ∀ W, Calls Try.prog 11 #[.int .u32 (IntKind.u32.wrap (a + d)), .int .u32 (IntKind.u32.wrap (b + d))] W (Ord x s W))
    (c4 : ∀ W, Calls Try.prog 9 #[.int .u16 (IntKind.u16.wrap a), .int .u16 (IntKind.u16.wrap b)] W (Ord y t W)) 
    (c5 : ∀ W, Calls Try.prog 9 #[.int .u16 (IntKind.u16.wrap (IntKind.u32.wrap (a + d))), .int .u16 (IntKind.u16.wrap (IntKind.u32.wrap (b + d)))] W (Ord y t W))
    (hs : s = false → ((a - b) % 4294967296 == 2147483648) = true) : Calls Try.prog 6 #[.int .u32 a, .int .u32 b, .int .u32 d] w (True2 w) := by
  have hn : - -x = x := by omega
  have C1 := Lib.hid c1
  have C2 := Lib.hid c2
  have C3 := Lib.hid c3
  have C4 := Lib.hid c4
  have C5 := Lib.hid c5
  clear c1 c2 c3 c4 c5
  cases s with
  | true => 
    clear hs
    go_enter Try.func6, Try.ntmps6
    go_wp2_with fail
    refine (C1.out _).mono ?_
    rintro e w1 ⟨rfl, hu1⟩
    go_wp2_with fail
    refine (C2.out _).mono ?_
    rintro e w2 ⟨rfl, hu2⟩
    go_wp2_with fail
    refine (C3.out _).mono ?_
    rintro e w3 ⟨rfl, hu3⟩
    go_wp2_with fail
    refine (C4.out _).mono ?_
    rintro e w4 ⟨rfl, hu4⟩
    go_wp2_with fail
    refine (C5.out _).mono ?_
    rintro e w5 ⟨rfl, hu5⟩
    go_wp2_with fail
    refine (ans_ok _).mono ?_
    rintro e w6 ⟨rfl, hu6⟩
    go_wp2_with fail
    go_ret
    exact ⟨rfl, (((((hu1.trans hu2).trans hu3).trans hu4).trans hu5).trans hu6)⟩
  | false =>
    replace hs := hs rfl
    go_enter Try.func6, Try.ntmps6
    go_wp2_with fail
    refine (C1.out _).mono ?_
    rintro e w1 ⟨rfl, hu1⟩
    go_wp2_with fail
    refine (C2.out _).mono ?_
    rintro e w2 ⟨rfl, hu2⟩
    go_wp2_with fail
    refine (C3.out _).mono ?_
    rintro e w3 ⟨rfl, hu3⟩
    go_wp2_with fail
    refine (C4.out _).mono ?_
    rintro e w4 ⟨rfl, hu4⟩
    go_wp2_with fail
    refine (C5.out _).mono ?_
    rintro e w5 ⟨rfl, hu5⟩
    go_wp2_with fail
    refine (ans_ok _).mono ?_
    rintro e w6 ⟨rfl, hu6⟩
    go_wp2_with fail
    go_ret
    exact ⟨rfl, (((((hu1.trans hu2).trans hu3).trans hu4).trans hu5).trans hu6)⟩
theorem law_turns (a b d : Int) (w : World) : Calls Try.prog 6 #[.int .u32 a, .int .u32 b, .int .u32 d] w (True2 w) := by
  have bd := ordI_bd 4294967296 a b
  have sw := ordI_swap a b
  have s3 := ord_shift 4294967296 a b (IntKind.u32.wrap (a + d)) (IntKind.u32.wrap (b + d)) (by simp only [IntKind.wrap_u32']; omega) (by simp only [IntKind.wrap_u32']; omega)
  have s5 := ord_shift 65536 (IntKind.u16.wrap a) (IntKind.u16.wrap b) (IntKind.u16.wrap (IntKind.u32.wrap (a + d))) (IntKind.u16.wrap (IntKind.u32.wrap (b + d))) (by simp only [IntKind.wrap_u16, IntKind.wrap_u32']; omega) (by simp only [IntKind.wrap_u16, IntKind.wrap_u32']; omega)
  exact law_turns_aux a b d _ _ _ _ w bd.1 bd.2 (fun W => (order32 _ _ _)) (fun W => (order32 _ _ _).mono fun _ _ h => h.to sw.1 sw.2) (fun W => (order32 _ _ _).mono fun _ _ h => h.to s3.1 s3.2)
    (fun W => (order16 _ _ _)) (fun W => (order16 _ _ _).mono fun _ _ h => h.to s5.1 s5.2) (fun h => by rw [beq_iff_eq]; exact ordB_half a b h)
end Go.Proofs.Ytpfdojlhgfhbfaa
