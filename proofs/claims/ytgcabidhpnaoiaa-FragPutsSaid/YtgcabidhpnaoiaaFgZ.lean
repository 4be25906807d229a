import Derived.Test.YtgcabidhpnaoiaaFgY
namespace Go.Proofs.Ytgcabidhpnaoiaa
open Go Go.RowKit Fg
set_option linter.unusedVariables false
set_option linter.unusedSimpArgs false
/-! The reference's Put, whatever comes. -/
namespace Fg
theorem RB.up {w w' : World} {b : Nat} {H : Option Addr} {c : Nat} {l : List PcB} {W : Option Addr} {d : Nat} {m : List LtB} {nx : Nat → Nat} (h : RB w b H c l W d m nx) (hu : Up w w') : RB w' b H c l W d m nx :=
  ⟨(hu.block b (lt_of_blk h.top)).trans h.top, own_up h.row hu, own_up h.rowW hu, fun x hx => ⟨own_up (h.by_ x hx).1 hu, (h.by_ x hx).2⟩, fun x hx => ⟨own_up (h.byW x hx).1 hu, (h.byW x hx).2⟩, h.bd⟩
theorem rput_no {b : Nat} {H W : Option Addr} {cH d : Nat} {l : List PcB} {m : List LtB} {nx : Nat → Nat} {p : Pc} {w w' : World} {r : Int} (h : RB w b H cH l W d m nx) (hu : Up w w') (hp : PutR ⟨ps l, ts m, nx⟩ p r [] ⟨ps l, ts m, nx⟩) (hl : ∀ s, nx s < 65536) (h256 : ∀ y ∈ l, y.p.bs.length ≤ 256) (hmW : ∀ y ∈ m, y.x.2.2.length ≤ 131072) : RPost b H W l m nx p w (.returned (.tuple #[.slice none 0 0, .int .i64 r])) w' :=
  ⟨r, none, 0, 0, [], H, cH, l, W, d, m, nx, rfl, Lib.hid ⟨h.up hu, World.ownsRow_nil _ _ _ _, rfl, by simp, hp, hu.out _, fun k hk => .inl hk, fun k hk => .inl hk, hl, by omega, h256, hmW⟩⟩
end Fg
theorem rput_any (b t st sq n c : Nat) (bg en un : Bool) (A H W : Option Addr) (cH d : Nat) (nx : Nat → Nat) (l : List PcB) (m : List LtB) (bs : List Int) (w : World) (hRB : RB w b H cH l W d m nx) (hin : InB w A n c bs) (hn : n ≤ 140737488351232) (ht32 : t < 4294967296) (hsq : sq < 65536) (ha : Apart (ps l)) (hkw : KApart (ts m)) (h256 : ∀ y ∈ l, y.p.bs.length ≤ 256) (hmW : ∀ y ∈ m, y.x.2.2.length ≤ 131072) (hnx : ∀ s, nx s < 65536) (hmm : m.length ≤ 4000) (hl512 : l.length ≤ 512) :
    Calls Try.prog 17 #[.pointer (some ⟨b, 0, none⟩), .agg #[.int .u32 (t : Int), .int .u16 (st : Int), .int .u16 (sq : Int), .bool bg, .bool en, .bool un, .slice A n c]] w (RPost b H W l m nx ⟨t, st, sq, un, bg, en, bs⟩ w) := by
  have hbn := hin.len
  have h0 : w.cell? ⟨b, 0, none⟩ = some (.slice H l.length cH) := cell_of hRB.top rfl
  by_cases hf : 0 < n ∧ n ≤ 256 ∧ st < 8
  · by_cases hth : ∃ q ∈ ps l, q.tsn = t
    · refine (rput_there b t st sq n c bg en un A H cH l w hf.1 hf.2.1 hf.2.2 hl512 h0 hRB.row hth).mono ?_
      rintro e w1 ⟨rfl, hu⟩
      exact rput_no hRB hu.out (.inr (.inl ⟨by unfold Fg.Form; simp only; omega, hth, rfl, rfl, rfl⟩)) hnx h256 hmW
    · have hno : ∀ q ∈ ps l, q.tsn ≠ t := fun q hq e => hth ⟨q, hq, e⟩
      by_cases hfull : l.length = 512
      · refine (rput_full b t st sq n c bg en un A H cH l w hf.1 hf.2.1 hf.2.2 hfull h0 hRB.row hno).mono ?_
        rintro e w1 ⟨rfl, hu⟩
        exact rput_no hRB hu.out (.inr (.inr (.inl ⟨by unfold Fg.Form; simp only; omega, hno, by unfold ps; simp [hfull], rfl, rfl, rfl⟩))) hnx h256 hmW
      · exact rput_ok b t st sq n c bg en un A H W cH d nx l m bs w hf.1 hf.2.1 hf.2.2 (by omega) hRB hno hin ht32 hsq ha hkw h256 hmW hnx hmm
  · refine (rput_bad b t st sq n c bg en un A w (by omega) (by omega)).mono ?_
    rintro e w1 ⟨rfl, hu⟩
    exact rput_no hRB hu.out (.inl ⟨by unfold Fg.Form; simp only; omega, rfl, rfl, rfl⟩) hnx h256 hmW
end Go.Proofs.Ytgcabidhpnaoiaa
