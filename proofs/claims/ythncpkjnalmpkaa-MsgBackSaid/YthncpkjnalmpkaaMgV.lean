import Derived.Test.YthncpkjnalmpkaaMgU
namespace Go.Proofs.Ythncpkjnalmpkaa
open Go Go.RowKit Mg
set_option linter.unusedVariables false
set_option linter.unusedSimpArgs false
/-! The law MsgPuts. -/
theorem putM_byt {m : Msg} (h : MsOK m) {ys : List Int} {k : Int} (hp : putM m = (ys, k)) : Byt ys := by
  unfold putM at hp
  split at hp
  · cases hp; exact byt_nil
  · split at hp
    · cases hp; exact byt_nil
    · split at hp
      · cases hp; exact byt_nil
      · split at hp
        · cases hp; exact byt_nil
        · cases hp; exact byt_encM h.avps
theorem putM_len {m : Msg} {ys : List Int} {k : Int} (hp : putM m = (ys, k)) : ys.length ≤ 4096 := by
  by_cases hk : k = 0
  · subst hk
    obtain ⟨rfl, _, _, _, h⟩ := putM_ok hp
    rw [encM_length]; exact h
  · unfold putM at hp
    split at hp
    · cases hp; simp
    · split at hp
      · cases hp; simp
      · split at hp
        · cases hp; simp
        · split at hp
          · cases hp; simp
          · cases hp; exact absurd rfl hk
set_option maxRecDepth 100000 in
set_option maxHeartbeats 20000000 in
theorem law_puts (x : MsB) (w : World) (h : MsIn w x) : Calls Try.prog 3 #[msV x] w (RetB true w) := by
  have H := Lib.hid h
  have HU := Lib.hid (up_alloc w (msO x))
  have HC := Lib.hid (new_at w (msO x))
  clear h
  unfold msV
  go_enter Try.func3, Try.ntmps3
  go_upto_region 1 with (fail)
  change Code.wp _ _ _ _ (w.alloc (msO x))
  generalize w.alloc (msO x) = wa at HC HU ⊢
  generalize w.heap.size = pb at HC ⊢
  have HI := Lib.hid (H.out.up HU.out)
  have z0 : wa.cell? ⟨pb, 0, none⟩ = some (.bool x.req) := cell_of HC.out (j := 0) rfl
  have z1 : wa.cell? ⟨pb, 1, none⟩ = some (.bool x.prox) := cell_of HC.out (j := 1) rfl
  have z2 : wa.cell? ⟨pb, 2, none⟩ = some (.bool x.fail) := cell_of HC.out (j := 2) rfl
  have z3 : wa.cell? ⟨pb, 3, none⟩ = some (.bool x.again) := cell_of HC.out (j := 3) rfl
  have z4 : wa.cell? ⟨pb, 4, none⟩ = some (.int .u32 x.code) := cell_of HC.out (j := 4) rfl
  have z5 : wa.cell? ⟨pb, 5, none⟩ = some (.int .u32 x.app) := cell_of HC.out (j := 5) rfl
  have z6 : wa.cell? ⟨pb, 6, none⟩ = some (.int .u32 x.hop) := cell_of HC.out (j := 6) rfl
  have z7 : wa.cell? ⟨pb, 7, none⟩ = some (.int .u32 x.end_) := cell_of HC.out (j := 7) rfl
  have z8 : wa.cell? ⟨pb, 8, none⟩ = some (.slice x.A x.n x.c) := cell_of HC.out (j := 8) rfl
  have hxn := HI.out.n
  go_wp2_with fail
  refine (mown_any x wa HI.out.avs hxn).mono ?_
  rintro e w1 ⟨y, rfl, hy, hg, hy2, hu1⟩
  have HY := Lib.hid (takeM_in HI.out hy.out hg.out hy2.out)
  go_wp2_with fail
  refine (mput_any y w1 HY.out).mono ?_
  rintro e w2 ⟨ys, k, A2, n2, c2, rfl, hr, hN2, hO2, hu2⟩
  have HR := Lib.hid (show putM x.pure = (ys, k) by have := hr.out; rwa [hy.out, putM_take] at this)
  have U2 := Lib.hid (hu1.out.trans hu2.out)
  have HI2 := Lib.hid (own_inB hO2.out (putM_byt HI.out.ok HR.out))
  have HC2 := Lib.hid (blk_up HC.out U2.out)
  clear hr hy hg hy2 HY hO2 hu1 hu2 hN2
  clear z0 z1 z2 z3 z4 z5 z6 z7 z8
  have z0 : w2.cell? ⟨pb, 0, none⟩ = some (.bool x.req) := cell_of HC2.out (j := 0) rfl
  have z1 : w2.cell? ⟨pb, 1, none⟩ = some (.bool x.prox) := cell_of HC2.out (j := 1) rfl
  have z2 : w2.cell? ⟨pb, 2, none⟩ = some (.bool x.fail) := cell_of HC2.out (j := 2) rfl
  have z3 : w2.cell? ⟨pb, 3, none⟩ = some (.bool x.again) := cell_of HC2.out (j := 3) rfl
  have z4 : w2.cell? ⟨pb, 4, none⟩ = some (.int .u32 x.code) := cell_of HC2.out (j := 4) rfl
  have z5 : w2.cell? ⟨pb, 5, none⟩ = some (.int .u32 x.app) := cell_of HC2.out (j := 5) rfl
  have z6 : w2.cell? ⟨pb, 6, none⟩ = some (.int .u32 x.hop) := cell_of HC2.out (j := 6) rfl
  have z7 : w2.cell? ⟨pb, 7, none⟩ = some (.int .u32 x.end_) := cell_of HC2.out (j := 7) rfl
  have z8 : w2.cell? ⟨pb, 8, none⟩ = some (.slice x.A x.n x.c) := cell_of HC2.out (j := 8) rfl
  go_wp2_with fail
  refine (rputmsg_any x w2 (HI.out.up U2.out)).mono ?_
  rintro e w3 ⟨zs, k', A3, n3, c3, rfl, hr, hN3, hO3, hu3⟩
  have he := HR.out.symm.trans hr.out
  injection he with he1 he2
  subst he1 he2
  have U3 := Lib.hid (U2.out.trans hu3.out)
  have HI3 := Lib.hid (own_inB hO3.out (putM_byt HI.out.ok HR.out))
  have HI2' := Lib.hid (HI2.out.up hu3.out)
  clear hr hO3 hu3 HI2 hN3
  clear z0 z1 z2 z3 z4 z5 z6 z7 z8
  go_wp2_with fail
  refine (answersM_ok w3).mono ?_
  rintro e w4 ⟨rfl, hu4⟩
  have U4 := Lib.hid (HU.out.trans (U3.out.trans hu4.out))
  have h1 := conv_up HI2'.out hu4.out
  have h2 := conv_up HI3.out hu4.out
  go_wp2_with fail
  go_ret
  exact ⟨rfl, U4⟩
end Go.Proofs.Ythncpkjnalmpkaa
