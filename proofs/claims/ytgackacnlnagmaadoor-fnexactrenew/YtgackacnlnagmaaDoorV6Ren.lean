/-
  The two Renew answer alike.
-/
import Derived.Test.YtgackacnlnagmaaDoorV6SRn
namespace Go.Proofs.YtgackacnlnagmaaDoor
open Go.RowKit

theorem ren_both (n : Nat) (T N : Int) (ls : List Ls) (ad : Ad) (tk span : Int) (hn : n = ls.length) (hl : n ≤ 1048576) (hst : ∀ q ∈ ls, q.t.size ≤ 9223372036854775807) :
    ∃ (LS : List Ls) (nL : Nat) (C : Int), nL = LS.length ∧ nL ≤ 1048576 ∧ (∀ (g : Nat) (W : World), RowG KLs W (some ⟨g, 0, none⟩) ls → Calls Tryd.prog 7 #[.agg #[.slice (some ⟨g, 0, none⟩) n n, .int .i64 T, .int .i64 N], .agg #[.bool ad.s, .int .i64 ad.H.toInt, .int .i64 ad.L.toInt], .int .i64 tk, .int .i64 span] W fun e w' => ∃ a' c', e = .returned (.tuple #[.agg #[.slice a' nL c', .int .i64 T, .int .i64 N], .int .i64 C]) ∧ OwnG KLs 51 w' W.heap.size (.slice a' nL c') LS ∧ Below W.heap.size W w') ∧ (∀ (g : Nat) (W : World), RowG KLs W (some ⟨g, 0, none⟩) ls → GlobE W → Calls Tryd.prog 10 #[.agg #[.slice (some ⟨g, 0, none⟩) n n, .int .i64 T, .int .i64 N], .agg #[.bool ad.s, .int .i64 ad.H.toInt, .int .i64 ad.L.toInt], .int .i64 tk, .int .i64 span] W fun e w' => ∃ a' c', e = .returned (.tuple #[.agg #[.slice a' nL c', .int .i64 T, .int .i64 N], .int .i64 C]) ∧ OwnG KLs 51 w' W.heap.size (.slice a' nL c') LS ∧ Below W.heap.size W w') := by
  cases hr : rokB ls T N ad span
  · refine ⟨ls, n, 10, hn, hl, fun g W e1 => sRen_form _ n n T N ls ad tk span W hn e1 hl (fun h => by cases h) hst hr, fun g W e1 hg => iRen_no _ n n T N ls ad tk span W hn e1 hl 10 (fun W' a c e => ?_) hg⟩
    cases hs : spB N span
    · exact ptr_form a n c T N ad tk span W' hs
    · refine ptr_else a n c T N ad tk span W' hs _ _ (fun W2 hb => placeHeld_form a n c T N ls ad tk W2 hn (e.later hb) hl hst ?_)
      unfold rokB at hr
      cases hb2 : (bkB ls T N && ad.ok)
      · rfl
      · exfalso
        rw [hb2, Bool.true_and] at hr
        rw [Bool.and_eq_true] at hb2
        unfold spB at hs
        rw [Bool.and_eq_true] at hs
        rw [(sp_wrap (bk_now hb2.1) hs.1).2] at hs
        rw [hs.1, hs.2] at hr
        cases hr
  · have hr0 := hr
    unfold rokB at hr0
    rw [Bool.and_eq_true] at hr0
    obtain ⟨hbo, hsp⟩ := hr0
    rw [Bool.and_eq_true] at hsp
    have hw := sp_wrap (bk_now ((Bool.and_eq_true _ _).mp hbo).1) hsp.1
    have hs : spB N span = true := by unfold spB; rw [hw.2, hsp.1, hsp.2]; rfl
    cases hx : fxL ls ad with
    | none => exact ⟨ls, n, 13, hn, hl, fun g W e1 => sRen_code _ n n T N ls ad tk span W hn e1 hl (fun h => by cases h) hst hr 13 (by omega) (fun W' hb => l6Held_none _ n n T N ls ad tk W' hn (e1.later hb) hl hx), fun g W e1 hg => iRen_no _ n n T N ls ad tk span W hn e1 hl 13 (fun W' a c e => ptr_else a n c T N ad tk span W' hs _ _ (fun W2 hb => placeHeld_none a n c T N ls ad tk W2 hn (e.later hb) hl hst hbo hx)) hg⟩
    | some I =>
      obtain ⟨q, hq, _, hI⟩ := fx_at hx
      by_cases hk : q.k = tk
      · exact ⟨ls.set I (upd N span q), n, 0, by rw [List.length_set, hn], hl, fun g W e1 => sRen_yes _ n n T N ls ad tk span W hn e1 hl (fun h => by cases h) hst hr I q hq (fun W' hb => l6Held_yes _ n n T N ls ad tk W' hn (e1.later hb) hl I q hx hq hk), fun g W e1 _ => iRen_yes _ n n T N ls ad tk span W hn e1 hl hw.1 hw.2 I q hq (fun W' a c e => ptr_else a n c T N ad tk span W' hs _ _ (fun W2 hb => placeHeld_yes a n c T N ls ad tk W2 hn (e.later hb) hl hst hbo I q hx hq hk))⟩
      · exact ⟨ls, n, 14, hn, hl, fun g W e1 => sRen_code _ n n T N ls ad tk span W hn e1 hl (fun h => by cases h) hst hr 14 (by omega) (fun W' hb => l6Held_fence _ n n T N ls ad tk W' hn (e1.later hb) hl I q hx hq hk), fun g W e1 hg => iRen_no _ n n T N ls ad tk span W hn e1 hl 14 (fun W' a c e => ptr_else a n c T N ad tk span W' hs _ _ (fun W2 hb => placeHeld_fence a n c T N ls ad tk W2 hn (e.later hb) hl hst hbo I q hx hq hk)) hg⟩

end Go.Proofs.YtgackacnlnagmaaDoor
