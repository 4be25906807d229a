import Derived.Test.YtkddehfedfiagaaRealGb
namespace Go.Proofs.Ytkddehfedfiagaa
open Go Go.RowKit
set_option linter.unusedVariables false
theorem law_gets (hA : CAns) (p32 : CPut32) (p64 : CPut64) (g32 : CGet32) (g64 : CGet64) (A : Option Addr) (n c : Nat) (xs : List Int) (w : World) (h : InB w A n c xs) (hk : n ≤ 140737488351232) :
    Calls Try.prog 4 #[.slice A n c] w (True2 w) := by
  by_cases h4 : n = 4
  · have hl : xs.length = 4 := by rw [h.len, h4]
    have hn := num_bd xs h.byt
    rw [hl] at hn
    have h256 : (256 : Int) ^ 4 = 4294967296 := by decide
    have e0 : (xs.drop 0).take 4 = xs := by rw [List.drop_zero, List.take_of_length_le (by omega)]
    obtain ⟨v, hv⟩ := Int.eq_ofNat_of_zero_le hn.1
    have hvn : (num 0 xs).toNat = v := by omega
    cases hnan : nan32 v
    · have ht : ¬ 2139095040 < v % 2147483648 := of_decide_eq_false hnan
      refine gets_four hA p32 g32 g64 A n c xs w h hk h4 v (by rw [e0, hv]) (by omega) (by omega) ?_ (by rw [hvn]; exact hnan) hvn
      have e1 : ((can32 v : Nat) : Int) = num 0 xs := by unfold can32; rw [hnan, hv]; rfl
      rw [e1]
      have := be_num xs h.byt
      rwa [hl] at this
    · exact gets_four_nan hA g32 g64 A n c xs w h hk h4 v (by rw [e0, hv]) (by omega) (of_decide_eq_true hnan)
  · by_cases h8 : n = 8
    · have hl : xs.length = 8 := by rw [h.len, h8]
      have hn := num_u64 xs h.byt (by omega)
      have e0 : (xs.drop 0).take 8 = xs := by rw [List.drop_zero, List.take_of_length_le (by omega)]
      obtain ⟨v, hv⟩ := Int.eq_ofNat_of_zero_le hn.1
      have hvn : (num 0 xs).toNat = v := by omega
      cases hnan : Rl.nanB v
      · refine gets_eight hA p64 g32 g64 A n c xs w h hk h8 v (by rw [e0, hv]) (by omega) hnan ?_ (by rw [hvn]; exact hnan) hvn
        have e1 : ((can64 v : Nat) : Int) = num 0 xs := by unfold can64; rw [hnan, hv]; rfl
        rw [e1]
        have := be_num xs h.byt
        rwa [hl] at this
      · exact gets_eight_nan hA g32 g64 A n c xs w h hk h8 v (by rw [e0, hv]) (by omega) hnan
    · rcases Nat.lt_or_ge n 4 with h1 | h1
      · exact gets_less hA g32 g64 A n c xs w h hk h1
      · rcases Nat.lt_or_ge n 8 with h2 | h2
        · exact gets_mid hA g32 g64 A n c xs w h hk (by omega) h2
        · exact gets_more hA g32 g64 A n c xs w h hk (by omega)
end Go.Proofs.Ytkddehfedfiagaa
