import Derived.Test.YtdlgdlgpmfccmaaCo6
import Derived.Test.YtdlgdlgpmfccmaaCo7
namespace Go.Proofs.Ytdlgdlgpmfccmaa
open Go Go.RowKit
set_option linter.unusedVariables false
set_option linter.unusedSimpArgs false
/-! What is sealed is opened; the law CookieSeals. -/
theorem nm_app (p r : List Int) (i n k : Nat) (h : p.length = k) (hi : k ≤ i) : Cr.nm (p ++ r) i n = Cr.nm r (i - k) n := by
  unfold Cr.nm
  rw [List.drop_append, List.drop_eq_nil_of_le (by omega), List.nil_append, h]
theorem nm_head (m r : List Int) (n : Nat) (h : m.length = n) : Cr.nm (m ++ r) 0 n = num 0 m := by
  unfold Cr.nm
  rw [List.drop_zero, List.take_left' h]
theorem num_be (n : Int) (h0 : 0 ≤ n) (s : Nat) : num 0 (be n s) = n % 256 ^ s := by
  have key : ∀ (s : Nat) (v : Int), num v (be n s) = v * 256 ^ s + n % 256 ^ s := by
    intro s
    induction s with
    | zero => intro v; simp [be, num]
    | succ s ih =>
      intro v
      simp only [be, num]
      rw [ih]
      have e1 : (2 : Int) ^ (8 * s) = 256 ^ s := by rw [Int.pow_mul]; rfl
      rw [e1]
      have hp : (0 : Int) < 256 ^ s := Int.pow_pos (by decide)
      have e2 : n % 256 ^ (s + 1) = n / 256 ^ s % 256 * 256 ^ s + n % 256 ^ s := by
        obtain ⟨k, rfl⟩ := Int.eq_ofNat_of_zero_le h0
        have := Nat.mod_mul (x := k) (a := 256 ^ s) (b := 256)
        rw [← Nat.pow_succ, Nat.add_comm, Nat.mul_comm] at this
        have h2 := congrArg (fun z : Nat => (z : Int)) this
        simp only [Int.natCast_add, Int.natCast_mul, Int.natCast_emod, Int.natCast_ediv, Int.natCast_pow] at h2
        exact h2
      rw [e2, Int.pow_succ]
      generalize (256 : Int) ^ s = p at *
      generalize n / p % 256 = q at *
      rw [Int.add_mul, Int.mul_assoc, Int.mul_comm 256 p, ← Int.mul_assoc]
      omega
  have := key s 0
  simpa using this
theorem num_be' (n : Int) (s : Nat) (h0 : 0 ≤ n) (h1 : n < 256 ^ s) : num 0 (be n s) = n := by
  rw [num_be n h0 s, Int.emod_eq_of_lt h0 h1]
theorem enc_parts (key : Int) (x : Cr) : Cr.enc key x = be x.t 8 ++ (be x.a 4 ++ (be x.b 4 ++ (be x.c 4 ++ (be x.d 4 ++ (be x.e 4 ++ (be x.f 4 ++ (be x.g 4 ++ (be (Cr.sum key x.body : Nat) 4 ++ [])))))))) := by
  simp only [Cr.enc, Cr.body, List.append_assoc, List.append_nil]
theorem enc_take (key : Int) (x : Cr) : (Cr.enc key x).take 36 = x.body := by
  unfold Cr.enc
  rw [List.take_left' (Cr.body_length x)]
theorem nm_sum (key : Int) (x : Cr) : Cr.nm (Cr.enc key x) 36 4 = (Cr.sum key x.body : Nat) := by
  unfold Cr.enc
  rw [nm_app _ _ _ _ 36 (Cr.body_length x) (Nat.le_refl _), Nat.sub_self, ← List.append_nil (be _ 4), nm_head _ _ _ (be_length _ _)]
  have := Cr.sum_lt (key := key) x.byt_body
  exact num_be' _ _ (by omega) (by omega)
theorem dec_enc (key : Int) (x : Cr) (hx : x.Ok) (hf : x.fit) : Cr.dec (Cr.enc key x) = x := by
  have h0 := hf.1.1
  have h1 := hf.1.2
  obtain ⟨-, ha, hb, hc, hd, he, hff, hg⟩ := hx
  have p8 : (256 : Int) ^ 8 = 18446744073709551616 := by decide
  have p4 : (256 : Int) ^ 4 = 4294967296 := by decide
  unfold Cr.dec
  rw [enc_parts]
  have k0 : Cr.nm (be x.t 8 ++ (be x.a 4 ++ (be x.b 4 ++ (be x.c 4 ++ (be x.d 4 ++ (be x.e 4 ++ (be x.f 4 ++ (be x.g 4 ++ (be (Cr.sum key x.body : Nat) 4 ++ []))))))))) 0 8 = x.t := by
    rw [nm_head _ _ _ (be_length _ _)]
    exact num_be' _ _ (by omega) (by omega)
  have k1 : Cr.nm (be x.t 8 ++ (be x.a 4 ++ (be x.b 4 ++ (be x.c 4 ++ (be x.d 4 ++ (be x.e 4 ++ (be x.f 4 ++ (be x.g 4 ++ (be (Cr.sum key x.body : Nat) 4 ++ []))))))))) 8 4 = x.a := by
    rw [nm_app _ _ _ _ 8 (be_length _ _) (by omega)]
    rw [nm_head _ _ _ (be_length _ _)]
    exact num_be' _ _ (by omega) (by omega)
  have k2 : Cr.nm (be x.t 8 ++ (be x.a 4 ++ (be x.b 4 ++ (be x.c 4 ++ (be x.d 4 ++ (be x.e 4 ++ (be x.f 4 ++ (be x.g 4 ++ (be (Cr.sum key x.body : Nat) 4 ++ []))))))))) 12 4 = x.b := by
    rw [nm_app _ _ _ _ 8 (be_length _ _) (by omega)]
    rw [nm_app _ _ _ _ 4 (be_length _ _) (by omega)]
    rw [nm_head _ _ _ (be_length _ _)]
    exact num_be' _ _ (by omega) (by omega)
  have k3 : Cr.nm (be x.t 8 ++ (be x.a 4 ++ (be x.b 4 ++ (be x.c 4 ++ (be x.d 4 ++ (be x.e 4 ++ (be x.f 4 ++ (be x.g 4 ++ (be (Cr.sum key x.body : Nat) 4 ++ []))))))))) 16 4 = x.c := by
    rw [nm_app _ _ _ _ 8 (be_length _ _) (by omega)]
    rw [nm_app _ _ _ _ 4 (be_length _ _) (by omega)]
    rw [nm_app _ _ _ _ 4 (be_length _ _) (by omega)]
    rw [nm_head _ _ _ (be_length _ _)]
    exact num_be' _ _ (by omega) (by omega)
  have k4 : Cr.nm (be x.t 8 ++ (be x.a 4 ++ (be x.b 4 ++ (be x.c 4 ++ (be x.d 4 ++ (be x.e 4 ++ (be x.f 4 ++ (be x.g 4 ++ (be (Cr.sum key x.body : Nat) 4 ++ []))))))))) 20 4 = x.d := by
    rw [nm_app _ _ _ _ 8 (be_length _ _) (by omega)]
    rw [nm_app _ _ _ _ 4 (be_length _ _) (by omega)]
    rw [nm_app _ _ _ _ 4 (be_length _ _) (by omega)]
    rw [nm_app _ _ _ _ 4 (be_length _ _) (by omega)]
    rw [nm_head _ _ _ (be_length _ _)]
    exact num_be' _ _ (by omega) (by omega)
  have k5 : Cr.nm (be x.t 8 ++ (be x.a 4 ++ (be x.b 4 ++ (be x.c 4 ++ (be x.d 4 ++ (be x.e 4 ++ (be x.f 4 ++ (be x.g 4 ++ (be (Cr.sum key x.body : Nat) 4 ++ []))))))))) 24 4 = x.e := by
    rw [nm_app _ _ _ _ 8 (be_length _ _) (by omega)]
    rw [nm_app _ _ _ _ 4 (be_length _ _) (by omega)]
    rw [nm_app _ _ _ _ 4 (be_length _ _) (by omega)]
    rw [nm_app _ _ _ _ 4 (be_length _ _) (by omega)]
    rw [nm_app _ _ _ _ 4 (be_length _ _) (by omega)]
    rw [nm_head _ _ _ (be_length _ _)]
    exact num_be' _ _ (by omega) (by omega)
  have k6 : Cr.nm (be x.t 8 ++ (be x.a 4 ++ (be x.b 4 ++ (be x.c 4 ++ (be x.d 4 ++ (be x.e 4 ++ (be x.f 4 ++ (be x.g 4 ++ (be (Cr.sum key x.body : Nat) 4 ++ []))))))))) 28 4 = x.f := by
    rw [nm_app _ _ _ _ 8 (be_length _ _) (by omega)]
    rw [nm_app _ _ _ _ 4 (be_length _ _) (by omega)]
    rw [nm_app _ _ _ _ 4 (be_length _ _) (by omega)]
    rw [nm_app _ _ _ _ 4 (be_length _ _) (by omega)]
    rw [nm_app _ _ _ _ 4 (be_length _ _) (by omega)]
    rw [nm_app _ _ _ _ 4 (be_length _ _) (by omega)]
    rw [nm_head _ _ _ (be_length _ _)]
    exact num_be' _ _ (by omega) (by omega)
  have k7 : Cr.nm (be x.t 8 ++ (be x.a 4 ++ (be x.b 4 ++ (be x.c 4 ++ (be x.d 4 ++ (be x.e 4 ++ (be x.f 4 ++ (be x.g 4 ++ (be (Cr.sum key x.body : Nat) 4 ++ []))))))))) 32 4 = x.g := by
    rw [nm_app _ _ _ _ 8 (be_length _ _) (by omega)]
    rw [nm_app _ _ _ _ 4 (be_length _ _) (by omega)]
    rw [nm_app _ _ _ _ 4 (be_length _ _) (by omega)]
    rw [nm_app _ _ _ _ 4 (be_length _ _) (by omega)]
    rw [nm_app _ _ _ _ 4 (be_length _ _) (by omega)]
    rw [nm_app _ _ _ _ 4 (be_length _ _) (by omega)]
    rw [nm_app _ _ _ _ 4 (be_length _ _) (by omega)]
    rw [nm_head _ _ _ (be_length _ _)]
    exact num_be' _ _ (by omega) (by omega)
  rw [k0, k1, k2, k3, k4, k5, k6, k7, wrap_small h0 h1]
theorem opn_enc (key : Int) (x : Cr) (hx : x.Ok) (hf : x.fit) : Cr.opn key (Cr.enc key x) = (x, 0) := by
  rw [opn_ok (Cr.enc_length key x) (by rw [nm_sum, enc_take]) (by rw [dec_enc key x hx hf]; exact hf), dec_enc key x hx hf]
set_option maxRecDepth 100000 in
set_option maxHeartbeats 4000000 in
theorem law_seals (key : Int) (x : Cr) (w : World) (hx : x.Ok) : Calls Try.prog 3 #[.int .u64 key, x.val] w (RetB true w) := by
  have HX := Lib.hid hx
  have HV := Lib.hid (show Cr.val x = .agg #[.int .i64 x.t, .int .u32 x.a, .int .u32 x.b, .int .u32 x.c, .int .u32 x.d, .int .u32 x.e, .int .u32 x.f, .int .u32 x.g] from rfl)
  have HN := Lib.hid (show (w.alloc (.cells #[.int .i64 x.t, .int .u32 x.a, .int .u32 x.b, .int .u32 x.c, .int .u32 x.d, .int .u32 x.e, .int .u32 x.f, .int .u32 x.g] 25)).heap[w.heap.size]? = some (.cells #[.int .i64 x.t, .int .u32 x.a, .int .u32 x.b, .int .u32 x.c, .int .u32 x.d, .int .u32 x.e, .int .u32 x.f, .int .u32 x.g] 25 (0, 0)) from new_at w _)
  have HU := Lib.hid (up_alloc w (.cells #[.int .i64 x.t, .int .u32 x.a, .int .u32 x.b, .int .u32 x.c, .int .u32 x.d, .int .u32 x.e, .int .u32 x.f, .int .u32 x.g] 25))
  clear hx
  rw [HV.out]
  go_enter Try.func3, Try.ntmps3
  go_upto_region 1 with (fail)
  generalize w.alloc (.cells #[.int .i64 x.t, .int .u32 x.a, .int .u32 x.b, .int .u32 x.c, .int .u32 x.d, .int .u32 x.e, .int .u32 x.f, .int .u32 x.g] 25) = w0 at HN HU ⊢
  generalize w.heap.size = q at HN ⊢
  have x0 : w0.cell? ⟨q, 0, none⟩ = some (.int .i64 x.t) := cell_of HN.out rfl
  have x1 : w0.cell? ⟨q, 1, none⟩ = some (.int .u32 x.a) := cell_of HN.out rfl
  have x2 : w0.cell? ⟨q, 2, none⟩ = some (.int .u32 x.b) := cell_of HN.out rfl
  have x3 : w0.cell? ⟨q, 3, none⟩ = some (.int .u32 x.c) := cell_of HN.out rfl
  have x4 : w0.cell? ⟨q, 4, none⟩ = some (.int .u32 x.d) := cell_of HN.out rfl
  have x5 : w0.cell? ⟨q, 5, none⟩ = some (.int .u32 x.e) := cell_of HN.out rfl
  have x6 : w0.cell? ⟨q, 6, none⟩ = some (.int .u32 x.f) := cell_of HN.out rfl
  have x7 : w0.cell? ⟨q, 7, none⟩ = some (.int .u32 x.g) := cell_of HN.out rfl
  go_wp2_with fail
  rw [← HV.out]
  refine (seal_any key x w0 HX.out).mono ?_
  rintro e w1 ⟨ys, k, A1, N1, d1, rfl, hr, hN1, hO1, hu⟩
  have HU1 := Lib.hid (HU.out.trans hu.out)
  have HN1 := Lib.hid ((hu.out.block _ (lt_of_blk HN.out)).trans HN.out)
  clear hu x0 x1 x2 x3 x4 x5 x6 x7
  have x0 : w1.cell? ⟨q, 0, none⟩ = some (.int .i64 x.t) := cell_of HN1.out rfl
  have x1 : w1.cell? ⟨q, 1, none⟩ = some (.int .u32 x.a) := cell_of HN1.out rfl
  have x2 : w1.cell? ⟨q, 2, none⟩ = some (.int .u32 x.b) := cell_of HN1.out rfl
  have x3 : w1.cell? ⟨q, 3, none⟩ = some (.int .u32 x.c) := cell_of HN1.out rfl
  have x4 : w1.cell? ⟨q, 4, none⟩ = some (.int .u32 x.d) := cell_of HN1.out rfl
  have x5 : w1.cell? ⟨q, 5, none⟩ = some (.int .u32 x.e) := cell_of HN1.out rfl
  have x6 : w1.cell? ⟨q, 6, none⟩ = some (.int .u32 x.f) := cell_of HN1.out rfl
  have x7 : w1.cell? ⟨q, 7, none⟩ = some (.int .u32 x.g) := cell_of HN1.out rfl
  go_wp2_with fail
  rw [← HV.out]
  refine (rseal_any key x w1 HX.out).mono ?_
  rintro e w2 ⟨zs, k2, A2, N2, d2, rfl, hr2, hN2, hO2, hu⟩
  have HU2 := Lib.hid (HU1.out.trans hu.out)
  have HN2 := Lib.hid ((hu.out.block _ (lt_of_blk HN1.out)).trans HN1.out)
  have HB1 := Lib.hid (hO1.out.up hu.out)
  clear hu x0 x1 x2 x3 x4 x5 x6 x7 hO1
  obtain ⟨HBY, rfl, rfl⟩ : Hid (Byt ys) ∧ zs = ys ∧ k2 = k := by
    rcases hr.out with ⟨h1, rfl, rfl⟩ | ⟨h1, rfl, rfl⟩ <;> rcases hr2.out with ⟨h2, rfl, rfl⟩ | ⟨h2, rfl, rfl⟩
    · exact ⟨Lib.hid (Cr.byt_enc key x), rfl, rfl⟩
    · exact absurd h1 h2
    · exact absurd h2 h1
    · exact ⟨Lib.hid byt_nil, rfl, rfl⟩
  have HI1 := Lib.hid (own_inB HB1.out HBY.out)
  have HI2 := Lib.hid (own_inB hO2.out HBY.out)
  clear HB1 hO2 hr2 hN2
  go_wp2_with fail
  refine (answers_ok w2).mono ?_
  rintro e w3 ⟨rfl, hu⟩
  have HU3 := Lib.hid (HU2.out.trans hu.out)
  have HN3 := Lib.hid ((hu.out.block _ (lt_of_blk HN2.out)).trans HN2.out)
  have h1 := conv_up HI1.out hu.out
  have h2 := conv_up HI2.out hu.out
  have HI3 := Lib.hid (HI1.out.up hu.out)
  clear hu
  rcases hr.out with ⟨hf, hys, rfl⟩ | ⟨hf, hys, rfl⟩
  case inr =>
    clear hf hr hys
    go_wp2_with fail
    go_ret
    exact ⟨rfl, HU3⟩
  case inl =>
    have HO := Lib.hid (opn_enc key x HX.out hf)
    rw [← hys] at HO
    have hm : N1 = 40 := by rw [hN1.out, hys, Cr.enc_length]
    subst hm
    clear hf hr hys hN1
    go_wp2_with fail
    refine (open_any key A1 40 d1 zs w3 HI3.out (by omega)).mono ?_
    rintro e w4 ⟨he, hu⟩
    rw [HO.out] at he
    have HU4 := Lib.hid (HU3.out.trans hu.out)
    have HN4 := Lib.hid ((hu.out.block _ (lt_of_blk HN3.out)).trans HN3.out)
    simp only [HV.out] at he
    subst he
    clear hu h1 h2
    go_upto_region 8 with (fail)
    have HP5 := Lib.hid (new_at w4 (.cells #[.int .i64 x.t, .int .u32 x.a, .int .u32 x.b, .int .u32 x.c, .int .u32 x.d, .int .u32 x.e, .int .u32 x.f, .int .u32 x.g] 25))
    have HX5 := up_alloc w4 (.cells #[.int .i64 x.t, .int .u32 x.a, .int .u32 x.b, .int .u32 x.c, .int .u32 x.d, .int .u32 x.e, .int .u32 x.f, .int .u32 x.g] 25)
    have HU5 := Lib.hid (HU4.out.trans HX5)
    have HN5 := Lib.hid ((HX5.block _ (lt_of_blk HN4.out)).trans HN4.out)
    clear HX5
    generalize w4.alloc (.cells #[.int .i64 x.t, .int .u32 x.a, .int .u32 x.b, .int .u32 x.c, .int .u32 x.d, .int .u32 x.e, .int .u32 x.f, .int .u32 x.g] 25) = w5 at HP5 HU5 HN5 ⊢
    generalize w4.heap.size = p at HP5 ⊢
    have x0 : w5.cell? ⟨q, 0, none⟩ = some (.int .i64 x.t) := cell_of HN5.out rfl
    have x1 : w5.cell? ⟨q, 1, none⟩ = some (.int .u32 x.a) := cell_of HN5.out rfl
    have x2 : w5.cell? ⟨q, 2, none⟩ = some (.int .u32 x.b) := cell_of HN5.out rfl
    have x3 : w5.cell? ⟨q, 3, none⟩ = some (.int .u32 x.c) := cell_of HN5.out rfl
    have x4 : w5.cell? ⟨q, 4, none⟩ = some (.int .u32 x.d) := cell_of HN5.out rfl
    have x5 : w5.cell? ⟨q, 5, none⟩ = some (.int .u32 x.e) := cell_of HN5.out rfl
    have x6 : w5.cell? ⟨q, 6, none⟩ = some (.int .u32 x.f) := cell_of HN5.out rfl
    have x7 : w5.cell? ⟨q, 7, none⟩ = some (.int .u32 x.g) := cell_of HN5.out rfl
    have y0 : w5.cell? ⟨p, 0, none⟩ = some (.int .i64 x.t) := cell_of HP5.out rfl
    have y1 : w5.cell? ⟨p, 1, none⟩ = some (.int .u32 x.a) := cell_of HP5.out rfl
    have y2 : w5.cell? ⟨p, 2, none⟩ = some (.int .u32 x.b) := cell_of HP5.out rfl
    have y3 : w5.cell? ⟨p, 3, none⟩ = some (.int .u32 x.c) := cell_of HP5.out rfl
    have y4 : w5.cell? ⟨p, 4, none⟩ = some (.int .u32 x.d) := cell_of HP5.out rfl
    have y5 : w5.cell? ⟨p, 5, none⟩ = some (.int .u32 x.e) := cell_of HP5.out rfl
    have y6 : w5.cell? ⟨p, 6, none⟩ = some (.int .u32 x.f) := cell_of HP5.out rfl
    have y7 : w5.cell? ⟨p, 7, none⟩ = some (.int .u32 x.g) := cell_of HP5.out rfl
    go_wp2_with fail
    go_ret
    exact ⟨by simp, HU5⟩
end Go.Proofs.Ytdlgdlgpmfccmaa
