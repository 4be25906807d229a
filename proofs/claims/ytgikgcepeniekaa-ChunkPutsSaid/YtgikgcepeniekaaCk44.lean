import Derived.Test.YtgikgcepeniekaaCk41
import Derived.Test.YtgikgcepeniekaaCk42
namespace Go.Proofs.Ytgikgcepeniekaa
open Go Go.RowKit
set_option linter.unusedVariables false
set_option linter.unusedSimpArgs false
/-! The law ChunkPuts. -/
theorem putRes_take {l : List Ck.Chk} {ys : List Int} {k : Int} (h : PutRes (l.take 100) ys k) : PutRes l ys k := by
  by_cases hl : l.length ≤ 100
  · rwa [List.take_of_length_le hl] at h
  · rcases h with ⟨h1, h2, h3, h4⟩ | ⟨h1, h2, h3⟩
    · rw [List.length_take] at h3; omega
    · exact .inr ⟨h1, h2, fun h => by omega⟩
theorem PutRes.byt {l : List Ck.Chk} {ys : List Int} {k : Int} (h : PutRes l ys k) (hb : bytL l) : Byt ys := by
  rcases h with ⟨-, h2, -⟩ | ⟨-, h2, -⟩
  · rw [h2]; exact byt_encL hb
  · rw [h2]; exact byt_nil
set_option maxRecDepth 100000 in
set_option maxHeartbeats 2000000 in
theorem law_puts (A : Option Addr) (n cap : Nat) (l : List ChB) (w : World) (h : InL w A n cap l) (hn : n ≤ 140737488351232) : Calls Try.prog 3 #[.slice A n cap] w (RetB true w) := by
  have H := Lib.hid h
  have HBL := Lib.hid (inL_bytL h)
  clear h
  go_enter Try.func3, Try.ntmps3
  go_wp2_with fail
  refine (own_any A n cap l w H.out hn).mono ?_
  rintro e w1 ⟨A1, n1, c1, out, rfl, hL, hE, hn1, hu1⟩
  have hn2 : n1 ≤ 140737488351232 := by have := hn1.out; omega
  go_wp2_with fail
  refine (put_any' A1 n1 c1 out w1 hL.out.inL hn2).mono ?_
  rintro e w2 ⟨ys, k, A2, n2, c2, rfl, hr, hN2, hO2, hu2⟩
  have HR := Lib.hid (show PutRes (l.map ChB.pure) ys k from putRes_take (by have := hr.out; rwa [hE.out] at this))
  have U2 := Lib.hid (hu1.out.trans hu2.out)
  have HI2 := Lib.hid (own_inB hO2.out (HR.out.byt HBL.out))
  clear hr hL hE hn1 hO2
  go_wp2_with fail
  refine (rput_any' A n cap l w2 (H.out.up U2.out) hn).mono ?_
  rintro e w3 ⟨zs, k', A3, n3, c3, rfl, hr, hN3, hO3, hu3⟩
  obtain ⟨rfl, rfl⟩ := putRes_inj HR.out hr.out
  have U3 := Lib.hid (U2.out.trans hu3.out)
  have HI3 := Lib.hid (own_inB hO3.out (HR.out.byt HBL.out))
  have HI2' := Lib.hid (HI2.out.up hu3.out)
  clear hr hO3 hu3 hu2 hu1 HI2
  go_wp2_with fail
  refine (answers_ok w3).mono ?_
  rintro e w4 ⟨rfl, hu4⟩
  have U4 := Lib.hid (U3.out.trans hu4.out)
  have h1 := conv_up HI2'.out hu4.out
  have h2 := conv_up HI3.out hu4.out
  go_wp2_with fail
  go_ret
  exact ⟨rfl, U4⟩
end Go.Proofs.Ytgikgcepeniekaa
