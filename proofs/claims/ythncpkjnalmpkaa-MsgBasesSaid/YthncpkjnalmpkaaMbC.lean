import Derived.Test.YthncpkjnalmpkaaMbB
namespace Go.Proofs.Ythncpkjnalmpkaa
open Go Go.RowKit Mg Dc
set_option linter.unusedVariables false
set_option linter.unusedSimpArgs false
/-! Base, of both. -/
theorem row_blk {w : World} {B g n c : Nat} {e : TypeId} {s : Nat} {xs : List Value} (h : w.ownsRow B e s (.slice (some ⟨g, 0, none⟩) n c) n xs) : ∃ o, w.heap[g]? = some o := by
  rcases h.2 with ⟨h2, _⟩ | ⟨g', cap, cur, h1, h2, h3, _⟩
  · cases h2
  · injection h1 with h1; injection h1 with h1; injection h1 with h1; subst h1; exact ⟨_, h3⟩
theorem row0 (w : World) : (w.alloc (.cells #[.int .u32 264, .int .u32 0, .int .i64 10, .bool true, .int .i64 1, .int .i64 1, .int .u32 296, .int .u32 0, .int .i64 10, .bool true, .int .i64 1, .int .i64 1, .int .u32 278, .int .u32 0, .int .i64 4, .bool true, .int .i64 0, .int .i64 1] 49)).ownsRow w.heap.size 49 6 (.slice (some ⟨w.heap.size, 0, none⟩) 3 3) 3 (rowr ru0) := row_new w rfl rfl (by omega)
theorem cells1 (w : World) : Cells (w.alloc (.cells #[.int .u32 283, .int .u32 0, .int .i64 10, .bool true, .int .i64 1, .int .i64 1, .int .u32 293, .int .u32 0, .int .i64 10, .bool true, .int .i64 0, .int .i64 1, .int .u32 282, .int .u32 0, .int .i64 10, .bool true, .int .i64 0, .int .i64 56, .int .u32 9100, .int .u32 0, .int .i64 1, .bool true, .int .i64 1, .int .i64 1] 49)) (some ⟨w.heap.size, 0, none⟩) (rowr ru1) := row_cells (row_new (l := ru1) (n := 4) w rfl rfl (by omega))
set_option maxRecDepth 100000 in
set_option maxHeartbeats 20000000 in
theorem base_any (c : Int) (w : World) (h0 : 0 ≤ c) (h1 : c < 4294967296) : Calls Try.prog 25 #[.int .u32 c] w (RPost (baseR c) w) := by
  go_enter Try.func25, Try.ntmps25
  go_wp2_with fail
  refine (identity_any 264 1 1 _).mono ?_
  rintro e w1 ⟨rfl, hu1⟩
  unfold ruV
  go_wp2_with fail
  refine (identity_any 296 1 1 _).mono ?_
  rintro e w2 ⟨rfl, hu2⟩
  unfold ruV
  have HU2 := Lib.hid (show Up w w2 from Up.trans hu1 hu2)
  clear hu1 hu2
  go_upto_region 2 with (fail)
  have HR := Lib.hid (row0 w2)
  have HV := Lib.hid (up_alloc w2 (.cells #[.int .u32 264, .int .u32 0, .int .i64 10, .bool true, .int .i64 1, .int .i64 1, .int .u32 296, .int .u32 0, .int .i64 10, .bool true, .int .i64 1, .int .i64 1, .int .u32 278, .int .u32 0, .int .i64 4, .bool true, .int .i64 0, .int .i64 1] 49))
  obtain ⟨q, HQ⟩ : ∃ q, Hid (w2.heap.size = q) := ⟨_, Lib.hid rfl⟩
  rw [HQ.out] at HR ⊢
  generalize w2.alloc (.cells #[.int .u32 264, .int .u32 0, .int .i64 10, .bool true, .int .i64 1, .int .i64 1, .int .u32 296, .int .u32 0, .int .i64 10, .bool true, .int .i64 1, .int .i64 1, .int .u32 278, .int .u32 0, .int .i64 4, .bool true, .int .i64 0, .int .i64 1] 49) = w3 at HR HV ⊢
  have HU3 := Lib.hid (HU2.out.trans HV.out)
  have hqw := Lib.hid (show w.heap.size ≤ q by have := HU2.out.size; have := HQ.out; omega)
  clear HU2 HV
  have fin0 : Hid (baseR c = ru0 → ∀ (e : Ending), e = .returned (.slice (some ⟨q, 0, none⟩) 3 3) → RPost (baseR c) w e w3) := Lib.hid (fun hb e he => ⟨_, _, _, he, Lib.hid (by rw [hb]; exact inR_of HR.out rfl (fun x hx => base_ok 257 x hx)), HU3⟩)
  by_cases c1 : c = 257
  · subst c1
    go_wp2_with fail
    go_ret
    exact fin0.out rfl _ rfl
  by_cases c2 : c = 280
  · subst c2
    go_wp2_with fail
    go_ret
    exact fin0.out rfl _ rfl
  by_cases c3 : c = 282
  · subst c3
    go_wp2_with fail
    go_ret
    exact fin0.out rfl _ rfl
  have b1 : (c == 257) = false := by simpa using c1
  have b2 : (c == 280) = false := by simpa using c2
  have b3 : (c == 282) = false := by simpa using c3
  by_cases c4 : c = 9300
  · subst c4
    clear b1 b2 b3 c1 c2 c3 fin0
    go_wp2_with fail
    refine (identity_any 283 1 1 _).mono ?_
    rintro e w4 ⟨rfl, hu4⟩
    unfold ruV
    go_wp2_with fail
    refine (identity_any 293 0 1 _).mono ?_
    rintro e w5 ⟨rfl, hu5⟩
    unfold ruV
    go_wp2_with fail
    refine (identity_any 282 0 56 _).mono ?_
    rintro e w6 ⟨rfl, hu6⟩
    unfold ruV
    have HU6 := Lib.hid (show Up w3 w6 from Up.trans hu4 (Up.trans hu5 hu6))
    have HC1 := Lib.hid (cells1 w6)
    have HV := Lib.hid (up_alloc w6 (.cells #[.int .u32 283, .int .u32 0, .int .i64 10, .bool true, .int .i64 1, .int .i64 1, .int .u32 293, .int .u32 0, .int .i64 10, .bool true, .int .i64 0, .int .i64 1, .int .u32 282, .int .u32 0, .int .i64 10, .bool true, .int .i64 0, .int .i64 56, .int .u32 9100, .int .u32 0, .int .i64 1, .bool true, .int .i64 1, .int .i64 1] 49))
    have HR6 := Lib.hid (own_up HR.out (HU6.out.trans HV.out))
    have HS := Lib.hid (show q ≤ (w6.alloc (.cells #[.int .u32 283, .int .u32 0, .int .i64 10, .bool true, .int .i64 1, .int .i64 1, .int .u32 293, .int .u32 0, .int .i64 10, .bool true, .int .i64 0, .int .i64 1, .int .u32 282, .int .u32 0, .int .i64 10, .bool true, .int .i64 0, .int .i64 56, .int .u32 9100, .int .u32 0, .int .i64 1, .bool true, .int .i64 1, .int .i64 1] 49)).heap.size by have := lt_of_blk (row_blk HR6.out).choose_spec; omega)
    have HU7 := Lib.hid (HU3.out.trans (HU6.out.trans HV.out))
    clear hu4 hu5 hu6 HU6 HR
    go_wp2_with (at_builtin; refine wpList_appendG rfl (.tmp 16) (.tmp 21) 45 rfl q 49 _ 6 40 Try.underlying45 info49 rfl (by decide) (some ⟨q, 0, none⟩) 3 3 (rowr ru0) rfl HR6.out (some ⟨w6.heap.size, 0, none⟩) 4 4 (rowr ru1) rfl (by rw [rowr_length]; rfl) HC1.out (rowr_one _) (by omega) (by omega) HS.out ?_; intro A' N' c' w' HN HW HO HB)
    go_ret
    obtain rfl : N' = 7 := HN.out
    exact ⟨_, _, _, rfl, Lib.hid (inR_of (l := ru0 ++ ru1) (by rw [rowr_append]; exact HW.out) rfl (base_ok 9300)), Lib.hid (Below.out HU7.out HO.out (fun k hk => by injection hk with hk; have hk' : q = k := hk; have := HQ.out; have := HU3.out; have h9 := hqw.out; omega) HU7.out.size)⟩
  have b4 : (c == 9300) = false := by simpa using c4
  go_wp2_with fail
  go_ret
  exact ⟨none, 0, 0, rfl, Lib.hid (by unfold baseR; rw [if_neg (by omega), if_neg c4]; exact inR_nil _), HU3⟩
end Go.Proofs.Ythncpkjnalmpkaa
