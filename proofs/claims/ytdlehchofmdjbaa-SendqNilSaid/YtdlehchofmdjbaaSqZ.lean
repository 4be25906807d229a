import Derived.Test.YtdlehchofmdjbaaSqJ2
namespace Go.Proofs.Ytdlehchofmdjbaa
open Go Go.RowKit Sq
set_option linter.unusedVariables false
set_option linter.unusedSimpArgs false
/-! Heard: the queue. -/
namespace Sq
def Refused (n : Int) (Q : QS) (IsQ : (Nat → Prop) → World → Addr → QS → Prop) (p : Addr) (S : Nat → Prop) (w : World) (e : Ending) (w' : World) : Prop := ∃ S', e = .returned (.tuple #[.slice none 0 0, .slice none 0 0, .int .i64 n]) ∧ Hid (IsQ S' w' p Q) ∧ Hid (Sub S' S w) ∧ Hid (Out S w w')
theorem IQ.tsn {S : Nat → Prop} {w : World} {q c : Nat} {A : Option Addr} {L : List ItB} {Q : QS} (h : IQ S w q A c L Q) (i : Nat) (y : ItB) (hy : L[i]? = some y) : y.x.p.tsn = (cum Q + 1 + i) % 4294967296 :=
  h.ok.tsn i y.x (by rw [h.eq, List.getElem?_map, hy]; rfl)
theorem IQ.mem {S : Nat → Prop} {w : World} {q c : Nat} {A : Option Addr} {L : List ItB} {Q : QS} (h : IQ S w q A c L Q) {y : ItB} (hy : y ∈ L) : y.x ∈ Q.l := by
  rw [h.eq]; exact List.mem_map.2 ⟨y, hy, rfl⟩
end Sq
open Sq
theorem heard_any (S : Nat → Prop) (p : Addr) (Q : QS) (cu wi : Nat) (GA DA : Option Addr) (gn gc dn dc : Nat) (G : List (Nat × Nat)) (w : World) (h : IsQ S w p Q) (hG : InGs w GA gn gc G) (hGS : ∀ k, blk? GA = some k → ¬ S k)
    (hcu : cu < 4294967296) (hap : apart 2 G = true) (h64 : G.length ≤ 64) (hdo : done Q cu ≤ outN Q.l) :
    Calls Try.prog 10 #[.pointer (some p), .agg #[.int .u32 (cu : Int), .int .u32 (wi : Int), .slice GA gn gc, .slice DA dn dc]] w (HeardP Q (done Q cu) G IsQ p S w) := by
  obtain ⟨q, A, c, L, rfl, h⟩ := h
  have hlen := h.len
  refine (heard_core q (cum Q) (outN Q.l) (done Q cu) A L.length c L cu wi GA DA gn gc dn dc G w h.top (fun e => (h.inA _ e).2 rfl) rfl (by rw [hlen]; exact h.ok.len) (by rw [hlen]; exact outN_le _) h.row hG (fun k hk e => hGS k hk (h.inA k e).1) (cum_lt Q) hcu rfl hdo h.tsn (fun y hy => (h.ok.bs _ (h.mem hy)).2.1) (fun y hy => (h.ok.bd _ (h.mem hy)).2.2) hap h64).mono ?_
  rintro e w' ⟨a, B, m, k, rfl, hm, hF, htop, hrow, hO⟩
  have HG := heard_good h.ok hdo G
  have HL := heard_list h.eq h.ok hdo G
  have HFa := heard_fast (Q := Q) h.eq hdo G
  have ho := outN_le Q.l
  obtain ⟨L', hL'⟩ : ∃ L', L' = missL (L2of (done Q cu) G (outN Q.l) L) (flU (L2of (done Q cu) G (outN Q.l) L) (topR (L2of (done Q cu) G (outN Q.l) L) (outN Q.l - done Q cu) - 1)) := ⟨_, rfl⟩
  rw [← hL'] at HL hrow
  have hlen' : L'.length = L.length - done Q cu := by rw [hL']; unfold missL; rw [List.length_mapIdx, L2_len]
  have hO' : Out S w w' := hO.out.mono (fun k hk => by rcases hk with rfl | hk; exact h.inq; exact (h.inA k hk).1)
  refine ⟨S, some ⟨a, 0, none⟩, 2, 2, B, m, k, rfl, Lib.hid rfl, by rw [HFa]; exact hm, by rw [HFa]; exact hF, Lib.hid ⟨q, A, c, L', rfl, ?_⟩, Lib.hid (fun k hk => .inl hk), Lib.hid hO'⟩
  refine ⟨by rw [HG.2.2, hlen', HG.2.1]; exact htop.out, by rw [hlen']; exact hrow.out, HL, fun y' hy' => ?_, h.inq, h.inA, fun y' hy' => ?_, HG.1, fun k hk => Nat.lt_of_lt_of_le (h.lt k hk) hO.out.size⟩
  · rw [hL'] at hy'
    obtain ⟨y, hm, e1, e2, e3⟩ := keeps_mem y' hy'
    rw [e1, e2, e3]
    refine own_blk (h.by_ y hm) (fun g hg => ?_)
    rw [ownBlock_slice] at hg
    have hi := h.inB y hm g hg
    exact hO.out.block g (h.lt g hi.1) (fun e => by rcases e with e | e; exact hi.2.1 e; exact hi.2.2 e)
  · rw [hL'] at hy'
    obtain ⟨y, hm, e1, _, _⟩ := keeps_mem y' hy'
    rw [e1]; exact h.inB y hm
theorem old_any (S : Nat → Prop) (p : Addr) (Q : QS) (cu wi : Nat) (GA DA : Option Addr) (gn gc dn dc : Nat) (G : List (Nat × Nat)) (w : World) (h : IsQ S w p Q) (hG : InGs w GA gn gc G) (hGS : ∀ k, blk? GA = some k → ¬ S k)
    (hcu : cu < 4294967296) (hap : apart 2 G = true) (h64 : G.length ≤ 64) (hdo : outN Q.l < done Q cu) :
    Calls Try.prog 10 #[.pointer (some p), .agg #[.int .u32 (cu : Int), .int .u32 (wi : Int), .slice GA gn gc, .slice DA dn dc]] w (Refused 15 Q IsQ p S w) := by
  obtain ⟨q, A, c, L, rfl, h⟩ := h
  have hlen := h.len
  refine (heard_old q (cum Q) (outN Q.l) (done Q cu) A L.length c L cu wi GA DA gn gc dn dc G w h.top (fun e => (h.inA _ e).2 rfl) rfl (by rw [hlen]; exact h.ok.len) (by rw [hlen]; exact outN_le _) h.row hG (fun k hk e => hGS k hk (h.inA k e).1) (cum_lt Q) hcu rfl hdo h.tsn (fun y hy => (h.ok.bs _ (h.mem hy)).2.1) (fun y hy => (h.ok.bd _ (h.mem hy)).2.2) hap h64).mono ?_
  rintro e w' ⟨rfl, hU⟩
  exact ⟨S, rfl, Lib.hid ⟨q, A, c, L, rfl, h.up hU.out⟩, Lib.hid (fun k hk => .inl hk), Lib.hid (hU.out.out S)⟩
theorem heard0_any (cu wi : Nat) (A B : Option Addr) (n c m k : Nat) (w : World) : Calls Try.prog 10 #[.pointer none, .agg #[.int .u32 (cu : Int), .int .u32 (wi : Int), .slice A n c, .slice B m k]] w (Nix (.tuple #[.slice none 0 0, .slice none 0 0, .int .i64 1]) w) := by
  go_enter Try.func10, Try.ntmps10
  go_wp2_with fail
  go_ret3
  exact ⟨rfl, Lib.hid (up_alloc _ _)⟩
end Go.Proofs.Ytdlehchofmdjbaa
