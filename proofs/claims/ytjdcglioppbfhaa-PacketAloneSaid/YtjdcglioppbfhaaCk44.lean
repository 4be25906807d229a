import Derived.Test.YtjdcglioppbfhaaCk32
import Derived.Test.YtjdcglioppbfhaaCk22
import Derived.Test.YtjdcglioppbfhaaCk17
import Derived.Test.YtjdcglioppbfhaaCk31
import Derived.Test.YtjdcglioppbfhaaCk53
import Derived.Test.YtjdcglioppbfhaaCk58
namespace Go.Proofs.Ytjdcglioppbfhaa
open Go Go.RowKit
set_option linter.unusedVariables false
set_option linter.unusedSimpArgs false
/-! The law ChunkPuts. -/
theorem putRes_take {l : List Ck.Chk} {ys : List Int} {k : Int} (h : PutRes (l.take 100) ys k) : PutRes l ys k := by
  by_cases hl : l.length ≤ 100
  · rwa [List.take_of_length_le hl] at h
  · rcases h with ⟨h1, h2, h3, h4⟩ | ⟨h1, h2, h3⟩
    · rw [List.length_take] at h3; omega
    · exact .inr ⟨h1, h2, fun h => by omega⟩
theorem PutRes.byt {l : List Ck.Chk} {ys : List Int} {k : Int} (h : PutRes l ys k) (hb : bytL l) : Byt ys := by
  rcases h with ⟨-, h2, -⟩ | ⟨-, h2, -⟩
  · rw [h2]; exact byt_encL hb
  · rw [h2]; exact byt_nil
end Go.Proofs.Ytjdcglioppbfhaa
namespace Go.Proofs.Ytjdcglioppbfhaa
open Go Go.RowKit
set_option linter.unusedVariables false
set_option linter.unusedSimpArgs false
/-! Chunks written and read, bytes read and written: mathematics of ChunkBack. -/
theorem be2 (n : Int) (h0 : 0 ≤ n) (h1 : n < 65536) : ∃ a b, be n 2 = [a, b] ∧ a * 256 + b = n ∧ 0 ≤ a ∧ a < 256 ∧ 0 ≤ b ∧ b < 256 := by
  refine ⟨n / 2 ^ 8 % 256, n / 2 ^ 0 % 256, rfl, ?_, ?_⟩
  · have : (2 : Int) ^ 8 = 256 := by decide
    rw [this]; omega
  · have : (2 : Int) ^ 8 = 256 := by decide
    rw [this]; omega
theorem stepG_enc (c : Ck.Chk) (l : List Int) (h : c.bs.length + 4 < 65536) : stepG (encC c ++ l) = .ok (c, l) := by
  obtain ⟨a, b, e, hab, -⟩ := be2 (4 + (c.bs.length : Int)) (by omega) (by omega)
  have hl : encC c ++ l = c.ty :: c.fl :: a :: b :: (padL c.bs ++ l) := by unfold encC; rw [e]; simp
  have hN : (a * 256 + b).toNat = c.bs.length + 4 := by omega
  rw [hl, stepG, hN, padN_add4]
  have hp : (padL c.bs ++ l) = c.bs ++ (List.replicate (padN c.bs.length) 0 ++ l) := by unfold padL; simp
  have h4 : c.bs.length + 4 - 4 = c.bs.length := by omega
  rw [h4, hp, if_neg (by omega), if_neg (by simp), List.drop_left' rfl, List.take_left' (by simp), if_pos rfl, List.take_left' rfl, ← List.drop_drop, List.drop_left' rfl, List.drop_left' (by simp)]
def okL (l : List Ck.Chk) : Prop := ∀ c ∈ l, c.bs.length + 4 < 65536
theorem encC_ne (c : Ck.Chk) (l : List Int) : encC c ++ l ≠ [] := by simp [encC]
theorem getS_enc : ∀ (cs : List Ck.Chk) (b : Nat), okL cs → cs.length ≤ b → getS b (encL cs) = (cs, 0) := by
  intro cs
  induction cs with
  | nil => intro b _ _; cases b <;> simp [getS, encL]
  | cons c cs ih =>
    intro b hok hb
    cases b with
    | zero => simp at hb
    | succ b =>
      have e : encL (c :: cs) = encC c ++ encL cs := by simp [encL]
      have i := ih b (fun x hx => hok x (List.mem_cons_of_mem _ hx)) (by simpa using hb)
      rw [e, getS, if_neg (encC_ne _ _), stepG_enc c _ (hok c List.mem_cons_self)]
      simp only
      rw [i, if_pos rfl]
theorem okL_of {l : List Ck.Chk} (h : (encL l).length ≤ 4096) : okL l := by
  intro c hc
  obtain ⟨s, t, rfl⟩ := List.append_of_mem hc
  rw [encL_append] at h
  have e : encL (c :: t) = encC c ++ encL t := by simp [encL]
  rw [e, List.length_append, List.length_append, encC_length] at h
  omega
theorem stepG_back {l rest : List Int} {c : Ck.Chk} (hb : Byt l) (h : stepG l = .ok (c, rest)) : l = encC c ++ rest := by
  by_cases h4 : l.length < 4
  · rw [stepG_short h4] at h; cases h
  obtain ⟨a, b, x, y, r, rfl⟩ := drop4 (by omega : 4 ≤ l.length)
  rw [stepG] at h
  have hx := hb x (by simp)
  have hy := hb y (by simp)
  obtain ⟨n, hn⟩ : ∃ n : Nat, x * 256 + y = n := ⟨(x * 256 + y).toNat, by omega⟩
  rw [hn, Int.toNat_natCast] at h
  split at h
  · cases h
  · rename_i h1
    split at h
    · cases h
    · rename_i h2
      split at h
      · rename_i h3
        injection h with h
        injection h with h5 h6
        subst h5 h6
        obtain ⟨m, rfl⟩ : ∃ m, n = m + 4 := ⟨n - 4, by omega⟩
        have h4' : m + 4 - 4 = m := by omega
        rw [h4', padN_add4] at h2 h3 ⊢
        have hlen : (r.take m).length = m := by simp; omega
        have he : be (4 + ((r.take m).length : Int)) 2 = [x, y] := by
          rw [hlen]
          obtain ⟨p, q, e, hpq, hp0, hp1, hq0, hq1⟩ := be2 (4 + (m : Int)) (by omega) (by omega)
          rw [e]
          have e1 : p = x := by omega
          have e2 : q = y := by omega
          rw [e1, e2]
        have key : r = padL (r.take m) ++ r.drop (m + padN m) := by
          unfold padL
          rw [hlen, ← h3, List.append_assoc, ← List.drop_drop, List.take_append_drop, List.take_append_drop]
        show a :: b :: x :: y :: r = encC ⟨a, b, r.take m⟩ ++ r.drop (m + padN m)
        unfold encC
        simp only
        rw [he]
        conv => lhs; rw [key]
        simp
      · cases h
theorem getS_back : ∀ (b : Nat) (l : List Int) (cs : List Ck.Chk), Byt l → getS b l = (cs, 0) → encL cs = l ∧ cs.length ≤ b := by
  intro b
  induction b with
  | zero =>
    intro l cs _ h
    unfold getS at h
    injection h with h1 h2
    split at h2
    · rename_i hl; subst hl h1; exact ⟨rfl, Nat.le_refl _⟩
    · exact absurd h2 (by decide)
  | succ b ih =>
    intro l cs hb h
    unfold getS at h
    split at h
    · rename_i hl
      injection h with h1 h2
      subst hl h1
      exact ⟨rfl, Nat.zero_le _⟩
    · rename_i hl
      split at h
      · rename_i k hs
        injection h with h1 h2
        subst h2
        exfalso
        have hz : stepG l = .error 0 := hs
        unfold stepG at hz
        repeat' split at hz
        all_goals first | (cases hz; done) | (injection hz with hz; exact absurd hz (by decide)) | cases hz
      · rename_i c rest hs
        have e := stepG_back hb hs
        have hb2 : Byt rest := fun x hx => hb x (by rw [e]; exact List.mem_append_right _ hx)
        split at h
        · rename_i h0
          injection h with h1 h2
          obtain ⟨i1, i2⟩ := ih rest (getS b rest).1 hb2 (by rw [← h0])
          subst h1
          refine ⟨?_, by simp; omega⟩
          rw [e]
          conv => rhs; rw [← i1]
          simp [encL]
        · rename_i h0
          injection h with h1 h2
          exact absurd h2 h0
end Go.Proofs.Ytjdcglioppbfhaa
namespace Go.Proofs.Ytjdcglioppbfhaa
open Go Go.RowKit
set_option linter.unusedVariables false
set_option linter.unusedSimpArgs false
/-! The law ChunkBack. -/
theorem getRes_enc {l : List Ck.Chk} {xs : List Int} {cs : List Ck.Chk} {k : Int} (hx : xs = encL l) (h32 : l.length ≤ 32) (h4 : (encL l).length ≤ 4096) (h : GetRes xs cs k) : cs = l ∧ k = 0 := by
  subst hx
  rcases h with ⟨h1, h2⟩ | ⟨h1, -, -⟩
  · rw [getS_enc l 32 (okL_of h4) h32] at h2
    injection h2 with e1 e2
    exact ⟨e1.symm, e2.symm⟩
  · omega
theorem getRes_err {xs : List Int} {cs : List Ck.Chk} {k : Int} (h : GetRes xs cs k) (hk : k ≠ 0) : cs = [] := by
  rcases h with ⟨h1, h2⟩ | ⟨h1, h2, -⟩
  · have h3 := getS_err 32 xs (by rw [h2]; exact hk)
    rw [h2] at h3; exact h3
  · exact h2
theorem getRes_back {xs : List Int} {cs : List Ck.Chk} (hb : Byt xs) (h : GetRes xs cs 0) : encL cs = xs ∧ cs.length ≤ 32 ∧ xs.length ≤ 4096 := by
  rcases h with ⟨h1, h2⟩ | ⟨-, -, h3⟩
  · obtain ⟨i1, i2⟩ := getS_back 32 xs cs hb h2
    exact ⟨i1, i2, h1⟩
  · exact absurd h3 (by decide)
theorem InL.out {T : Nat → Prop} {w w' : World} {A : Option Addr} {n cap : Nat} {l : List ChB} (h : InL w A n cap l) (ho : Out T w w') (hc : ∀ k, k < w.heap.size → ¬ T k) : InL w' A n cap l := h.up (Below.out (Up.refl w) ho (fun k hk => Nat.le_of_not_lt fun hl => hc k hl hk) (Nat.le_refl _))
end Go.Proofs.Ytjdcglioppbfhaa
namespace Go.Proofs.Ytjdcglioppbfhaa
open Go Go.RowKit
set_option linter.unusedVariables false
set_option linter.unusedSimpArgs false
/-! What was written is read; what was read is written: mathematics. -/
theorem be4 (n : Int) (h0 : 0 ≤ n) (h1 : n < 4294967296) : ∃ a b c d, be n 4 = [a, b, c, d] ∧ ((a * 256 + b) * 256 + c) * 256 + d = n ∧ (0 ≤ a ∧ a < 256) ∧ (0 ≤ b ∧ b < 256) ∧ (0 ≤ c ∧ c < 256) ∧ 0 ≤ d ∧ d < 256 := by
  refine ⟨n / 2 ^ 24 % 256, n / 2 ^ 16 % 256, n / 2 ^ 8 % 256, n / 2 ^ 0 % 256, rfl, ?_⟩
  have e1 : (2 : Int) ^ 24 = 16777216 := by decide
  have e2 : (2 : Int) ^ 16 = 65536 := by decide
  have e3 : (2 : Int) ^ 8 = 256 := by decide
  have e4 : (2 : Int) ^ 0 = 1 := by decide
  rw [e1, e2, e3, e4]
  refine ⟨?_, ?_, ?_, ?_, ?_⟩ <;> omega
theorem be_num2 {a b : Int} (ha : 0 ≤ a ∧ a < 256) (hb : 0 ≤ b ∧ b < 256) : be (num 0 [a, b]) 2 = [a, b] := by
  obtain ⟨x, y, e, h, hx0, hx1, hy0, hy1⟩ := be2 (num 0 [a, b]) (by simp [num]; omega) (by simp [num]; omega)
  simp only [num] at h
  rw [e]
  simp only [List.cons.injEq, and_true]
  constructor <;> omega
theorem be_num4 {a b c d : Int} (ha : 0 ≤ a ∧ a < 256) (hb : 0 ≤ b ∧ b < 256) (hc : 0 ≤ c ∧ c < 256) (hd : 0 ≤ d ∧ d < 256) : be (num 0 [a, b, c, d]) 4 = [a, b, c, d] := by
  obtain ⟨x, y, z, u, e, h, hx, hy, hz, hu⟩ := be4 (num 0 [a, b, c, d]) (by simp [num]; omega) (by simp [num]; omega)
  simp only [num] at h
  rw [e]
  simp only [List.cons.injEq, and_true]
  refine ⟨?_, ?_, ?_, ?_⟩ <;> omega
theorem num_2 {n : Int} (h0 : 0 ≤ n) (h1 : n < 65536) : num 0 (be n 2) = n := num_be_eq h0 (by rw [show (256 : Int) ^ 2 = 65536 by decide]; exact h1)
theorem num_4 {n : Int} (h0 : 0 ≤ n) (h1 : n < 4294967296) : num 0 (be n 4) = n := num_be_eq h0 (by rw [show (256 : Int) ^ 4 = 4294967296 by decide]; exact h1)
theorem zer_cut {h m r : List Int} (h1 : h.length = 8) (h2 : m.length = 4) : Pk.zer (h ++ (m ++ r)) = h ++ ([0, 0, 0, 0] ++ r) := by
  unfold Pk.zer
  rw [List.take_left' h1, ← List.append_assoc h m r, List.drop_left' (by simp [h1, h2])]
theorem sealP_cut {h m r : List Int} (h1 : h.length = 8) (h2 : m.length = 4) : Pk.sealP (h ++ (m ++ r)) = h ++ (le4 (Pk.sumOf (h ++ (m ++ r))) ++ r) := by
  unfold Pk.sealP
  rw [List.take_left' h1, ← List.append_assoc h m r, List.drop_left' (by simp [h1, h2])]
theorem sumOf_cut {h m m' r : List Int} (h1 : h.length = 8) (h2 : m.length = 4) (h3 : m'.length = 4) : Pk.sumOf (h ++ (m ++ r)) = Pk.sumOf (h ++ (m' ++ r)) := by
  unfold Pk.sumOf
  rw [zer_cut h1 h2, zer_cut h1 h3]
/-- What has its sum has it. -/
theorem sealP_twice {h m r : List Int} (h1 : h.length = 8) (h2 : m.length = 4) : Pk.sealP (Pk.sealP (h ++ (m ++ r))) = Pk.sealP (h ++ (m ++ r)) := by
  rw [sealP_cut h1 h2, sealP_cut h1 (by simp [le4]), sumOf_cut h1 (m := le4 _) (m' := m) (by simp [le4]) h2]
def hd8 (p : Pk.Pkt) : List Int := (be p.src 2 ++ be p.dst 2) ++ be p.tag 4
theorem hd8_length (p : Pk.Pkt) : (hd8 p).length = 8 := by simp [hd8, be_length]
theorem raw_cut (p : Pk.Pkt) : Pk.raw p = hd8 p ++ (be 0 4 ++ encL p.chs) := by simp [Pk.raw, hd8]
theorem be04 : be 0 4 = [0, 0, 0, 0] := by decide
theorem enc_cut (p : Pk.Pkt) : Pk.enc p = hd8 p ++ (le4 (Pk.sumOf (Pk.raw p)) ++ encL p.chs) := by
  unfold Pk.enc
  rw [raw_cut, sealP_cut (hd8_length p) (by simp [be_length])]
theorem enc_sealed (p : Pk.Pkt) : Pk.enc p = Pk.sealP (Pk.enc p) := by
  unfold Pk.enc
  rw [raw_cut, sealP_twice (hd8_length p) (by simp [be_length])]
theorem enc_drop (p : Pk.Pkt) : (Pk.enc p).drop 12 = encL p.chs := by
  rw [enc_cut, ← List.append_assoc]
  exact List.drop_left' (by simp [hd8_length, le4])
theorem at_enc (p : Pk.Pkt) (hp : Pk.PktOk p) : Pk.at_ (Pk.enc p) p.chs = p := by
  obtain ⟨a1, a2, a3, a4⟩ := p
  have h1 := hp.src; have h2 := hp.dst; have h3 := hp.tag
  simp only at h1 h2 h3
  have e : Pk.enc ⟨a1, a2, a3, a4⟩ = be a1 2 ++ (be a2 2 ++ (be a3 4 ++ (le4 (Pk.sumOf (Pk.raw ⟨a1, a2, a3, a4⟩)) ++ encL a4))) := by rw [enc_cut]; simp [hd8]
  unfold Pk.at_ nmA
  rw [e]
  have l2 : ∀ x : Int, (be x 2).length = 2 := fun x => be_length x 2
  have l4 : ∀ x : Int, (be x 4).length = 4 := fun x => be_length x 4
  generalize le4 _ ++ encL a4 = rest
  have d0 : List.take 2 (List.drop 0 (be a1 2 ++ (be a2 2 ++ (be a3 4 ++ rest)))) = be a1 2 := by rw [List.drop_zero, List.take_left' (l2 a1)]
  have d1 : List.take 2 (List.drop 2 (be a1 2 ++ (be a2 2 ++ (be a3 4 ++ rest)))) = be a2 2 := by rw [List.drop_left' (l2 a1), List.take_left' (l2 a2)]
  have d2 : List.take 4 (List.drop 4 (be a1 2 ++ (be a2 2 ++ (be a3 4 ++ rest)))) = be a3 4 := by
    rw [← List.append_assoc (be a1 2), List.drop_left' (by simp [be_length]), List.take_left' (l4 a3)]
  rw [d0, d1, d2, num_2 h1.1 h1.2, num_2 h2.1 h2.2, num_4 h3.1 h3.2]
/-- A packet that was written is read. -/
theorem pg_enc {p : Pk.Pkt} (hp : Pk.PktOk p) (hf : Pk.fits p) {q : Pk.Pkt} {k : Int} (h : PGRes (Pk.enc p) q k) : q = p ∧ k = 0 := by
  have hl := enc_length p
  have h4 := hf.2.2
  rcases h with ⟨a1, -, -⟩ | ⟨a1, -, -⟩ | ⟨-, -, a2, -, -⟩ | ⟨-, -, -, cs, k', hr, ha⟩
  · omega
  · omega
  · exact absurd (enc_sealed p) a2
  · rw [enc_drop] at hr
    obtain ⟨rfl, rfl⟩ := getRes_enc rfl hf.2.1 (by omega) hr
    rw [at_enc p hp] at ha
    rcases ha with ⟨c1, -, -⟩ | ⟨-, c2, c3, c4⟩ | ⟨-, c2, -, -⟩
    · exact absurd rfl c1
    · exact ⟨c3, c4⟩
    · rw [hf.1] at c2; cases c2
theorem pg_err {xs : List Int} {p : Pk.Pkt} {k : Int} (h : PGRes xs p k) (hk : k ≠ 0) : p = Pk.zero := by
  rcases h with ⟨-, h, -⟩ | ⟨-, h, -⟩ | ⟨-, -, -, h, -⟩ | ⟨-, -, -, cs, k', hr, ⟨-, h, -⟩ | ⟨-, -, -, h⟩ | ⟨-, -, h, -⟩⟩
  · exact h
  · exact h
  · exact h
  · exact h
  · exact absurd h hk
  · exact h
/-- Bytes that were read are written as they were. -/
theorem pg_back {xs : List Int} {p : Pk.Pkt} (hb : Byt xs) (h : PGRes xs p 0) : Pk.fits p ∧ Pk.enc p = xs := by
  rcases h with ⟨-, -, h⟩ | ⟨-, -, h⟩ | ⟨-, -, -, -, h⟩ | ⟨h12, h40, hs, cs, k', hr, ⟨h1, -, h⟩ | ⟨rfl, hso, rfl, -⟩ | ⟨-, -, -, h⟩⟩
  · exact absurd h (by decide)
  · exact absurd h (by decide)
  · exact absurd h (by decide)
  · exact absurd h.symm h1
  · obtain ⟨e1, e2, e3⟩ := getRes_back (hb.drop 12) hr
    refine ⟨⟨hso, e2, ?_⟩, ?_⟩
    · show (encL cs).length + 12 ≤ 4096
      rw [e1]; simp; omega
    · have hraw : Pk.raw (Pk.at_ xs cs) = Pk.zer xs := by
        obtain ⟨x0, x1, x2, x3, r1, hl1⟩ := drop4 (l := xs) (by omega)
        obtain ⟨x4, x5, x6, x7, r2, hl2⟩ := drop4 (l := r1) (by rw [hl1] at h12; simp at h12; omega)
        subst hl2 hl1
        have g := fun (x : Int) (hx : x ∈ x0 :: x1 :: x2 :: x3 :: x4 :: x5 :: x6 :: x7 :: r2) => hb x hx
        have n0 : nmA (x0 :: x1 :: x2 :: x3 :: x4 :: x5 :: x6 :: x7 :: r2) 0 2 = num 0 [x0, x1] := rfl
        have n1 : nmA (x0 :: x1 :: x2 :: x3 :: x4 :: x5 :: x6 :: x7 :: r2) 2 2 = num 0 [x2, x3] := rfl
        have n2 : nmA (x0 :: x1 :: x2 :: x3 :: x4 :: x5 :: x6 :: x7 :: r2) 4 4 = num 0 [x4, x5, x6, x7] := rfl
        have b0 := be_num2 (g x0 (by simp)) (g x1 (by simp))
        have b1 := be_num2 (g x2 (by simp)) (g x3 (by simp))
        have b2 := be_num4 (g x4 (by simp)) (g x5 (by simp)) (g x6 (by simp)) (g x7 (by simp))
        unfold Pk.raw Pk.at_
        simp only [n0, n1, n2, b0, b1, b2, e1, be04]
        rfl
      unfold Pk.enc
      rw [hraw]
      have h8 : (xs.take 8).length = 8 := by simp; omega
      have e : xs = xs.take 8 ++ ((xs.drop 8).take 4 ++ xs.drop 12) := by
        rw [show xs.drop 12 = (xs.drop 8).drop 4 by rw [List.drop_drop], List.take_append_drop, List.take_append_drop]
      have hm : ((xs.drop 8).take 4).length = 4 := by simp; omega
      have hz : Pk.zer xs = xs.take 8 ++ ([0, 0, 0, 0] ++ xs.drop 12) := rfl
      conv => rhs; rw [hs]
      conv => rhs; rw [e, sealP_cut h8 hm]
      rw [hz, sealP_cut h8 rfl, sumOf_cut h8 (m := [0, 0, 0, 0]) (m' := (xs.drop 8).take 4) rfl hm]
  · exact absurd h (by decide)
end Go.Proofs.Ytjdcglioppbfhaa
