/-
  The two Release answer alike.
-/
import Derived.Test.YtgackacnlnagmaaDoorV6SRl
namespace Go.Proofs.YtgackacnlnagmaaDoor
open Go.RowKit

theorem rel_both (n : Nat) (T N : Int) (ls : List Ls) (ad : Ad) (tk : Int) (hn : n = ls.length) (hl : n ≤ 1048576) (hst : ∀ q ∈ ls, q.t.size ≤ 9223372036854775807) :
    ∃ (LS : List Ls) (nL : Nat) (C : Int), nL = LS.length ∧ nL ≤ 1048576 ∧ (∀ (g : Nat) (W : World), RowG KLs W (some ⟨g, 0, none⟩) ls → Calls Tryd.prog 14 #[.agg #[.slice (some ⟨g, 0, none⟩) n n, .int .i64 T, .int .i64 N], .agg #[.bool ad.s, .int .i64 ad.H.toInt, .int .i64 ad.L.toInt], .int .i64 tk] W fun e w' => ∃ a' c', e = .returned (.tuple #[.agg #[.slice a' nL c', .int .i64 T, .int .i64 N], .int .i64 C]) ∧ OwnG KLs 51 w' W.heap.size (.slice a' nL c') LS ∧ Below W.heap.size W w') ∧ (∀ (g : Nat) (W : World), RowG KLs W (some ⟨g, 0, none⟩) ls → GlobE W → Calls Tryd.prog 15 #[.agg #[.slice (some ⟨g, 0, none⟩) n n, .int .i64 T, .int .i64 N], .agg #[.bool ad.s, .int .i64 ad.H.toInt, .int .i64 ad.L.toInt], .int .i64 tk] W fun e w' => ∃ a' c', e = .returned (.tuple #[.agg #[.slice a' nL c', .int .i64 T, .int .i64 N], .int .i64 C]) ∧ OwnG KLs 51 w' W.heap.size (.slice a' nL c') LS ∧ Below W.heap.size W w') := by
  cases hr : (bkB ls T N && ad.ok)
  · exact ⟨ls, n, 10, hn, hl, fun g W e1 => sRel_form _ n n T N ls ad tk W hn e1 hl (fun h => by cases h) hst hr, fun g W e1 hg => iRel_no _ n n T N ls ad tk W hn e1 hl 10 (fun W' a c e => placeHeld_form a n c T N ls ad tk W' hn e hl hst hr) hg⟩
  · cases hx : fxL ls ad with
    | none => exact ⟨ls, n, 13, hn, hl, fun g W e1 => sRel_code _ n n T N ls ad tk W hn e1 hl (fun h => by cases h) hst hr 13 (by omega) (fun W' hb => l6Held_none _ n n T N ls ad tk W' hn (e1.later hb) hl hx), fun g W e1 hg => iRel_no _ n n T N ls ad tk W hn e1 hl 13 (fun W' a c e => placeHeld_none a n c T N ls ad tk W' hn e hl hst hr hx) hg⟩
    | some I =>
      obtain ⟨q, hq, _, hI⟩ := fx_at hx
      by_cases hk : q.k = tk
      · refine ⟨ls.eraseIdx I, n - 1, 0, by rw [List.length_eraseIdx_of_lt hI, hn], by omega, fun g W e1 => ?_, fun g W e1 _ => iRel_yes _ n n T N ls ad tk W hn e1 hl I (by omega) (fun W' a c e => placeHeld_yes a n c T N ls ad tk W' hn e hl hst hr I q hx hq hk)⟩
        by_cases hcj : n = I + 1
        · exact sRel_yes0 g n T N ls ad tk W hn e1 hl hst hr I (by omega) hcj (fun W' hb => l6Held_yes _ n n T N ls ad tk W' hn (e1.later hb) hl I q hx hq hk)
        · exact sRel_yes1 g n T N ls ad tk W hn e1 hl hst hr I (by omega) hcj (fun W' hb => l6Held_yes _ n n T N ls ad tk W' hn (e1.later hb) hl I q hx hq hk)
      · exact ⟨ls, n, 14, hn, hl, fun g W e1 => sRel_code _ n n T N ls ad tk W hn e1 hl (fun h => by cases h) hst hr 14 (by omega) (fun W' hb => l6Held_fence _ n n T N ls ad tk W' hn (e1.later hb) hl I q hx hq hk), fun g W e1 hg => iRel_no _ n n T N ls ad tk W hn e1 hl 14 (fun W' a c e => placeHeld_fence a n c T N ls ad tk W' hn e hl hst hr I q hx hq hk) hg⟩

end Go.Proofs.YtgackacnlnagmaaDoor
