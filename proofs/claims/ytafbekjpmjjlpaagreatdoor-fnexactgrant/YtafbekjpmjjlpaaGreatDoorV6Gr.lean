/-
  The two Grant answer alike.
-/
import Derived.Test.YtafbekjpmjjlpaaGreatDoorV6IGy
import Derived.Test.YtafbekjpmjjlpaaGreatDoorV6SGy
namespace Go.Proofs.YtafbekjpmjjlpaaGreatDoor
open Go.RowKit

theorem gr_both (n : Nat) (T N : Int) (ls : List Ls) (ad : Ad) (own : ByteArray) (span : Int) (hn : n = ls.length) (hl : n ≤ 1048576) (hst : ∀ q ∈ ls, q.t.size ≤ 9223372036854775807) (hos : own.size ≤ 9223372036854775807) :
    ∃ (LS : List Ls) (nL : Nat) (T' K C : Int), nL = LS.length ∧ nL ≤ 1048577 ∧ (∀ (g : Nat) (W : World), RowG KLs W (some ⟨g, 0, none⟩) ls → Calls Tryz.prog 5 #[.agg #[.slice (some ⟨g, 0, none⟩) n n, .int .i64 T, .int .i64 N], .agg #[.bool ad.s, .int .i64 ad.H.toInt, .int .i64 ad.L.toInt], .string own, .int .i64 span] W fun e w' => ∃ a' c', e = .returned (.tuple #[.agg #[.slice a' nL c', .int .i64 T', .int .i64 N], .int .i64 K, .int .i64 C]) ∧ OwnG KLs 47 w' W.heap.size (.slice a' nL c') LS ∧ Below W.heap.size W w') ∧ (∀ (g : Nat) (W : World), RowG KLs W (some ⟨g, 0, none⟩) ls → GlobE W → Calls Tryz.prog 8 #[.agg #[.slice (some ⟨g, 0, none⟩) n n, .int .i64 T, .int .i64 N], .agg #[.bool ad.s, .int .i64 ad.H.toInt, .int .i64 ad.L.toInt], .string own, .int .i64 span] W fun e w' => ∃ a' c', e = .returned (.tuple #[.agg #[.slice a' nL c', .int .i64 T', .int .i64 N], .int .i64 K, .int .i64 C]) ∧ OwnG KLs 47 w' W.heap.size (.slice a' nL c') LS ∧ Below W.heap.size W w') := by
  cases hr : gokB ls T N ad own span
  · exact ⟨ls, n, T, 0, 10, hn, by omega, fun g W e1 => sGr_form _ n n T N ls ad own span W hn e1 hl (fun h => by cases h) hst hos hr, fun g W e1 hg => iGr_no _ n n T N ls ad own span W hn e1 hl 10 (fun W' a c e => ptg_form a n c T N ls ad own span W' hn e hl hst hos hr) hg⟩
  · have hr0 := hr
    unfold gokB at hr0
    simp only [Bool.and_eq_true] at hr0
    obtain ⟨hb, _, _, ⟨⟨h1, h1b⟩, h2⟩, hT0⟩ := hr0
    have h80 := (srt_bk hb).2
    have hw := (sp_wrap (bk_now hb) (show (decide (1 ≤ span) && decide (span ≤ 1000)) = true by rw [h1, h1b]; rfl)).1
    cases hx : fxL ls ad with
    | some I => exact ⟨ls, n, T, 0, 11, hn, by omega, fun g W e1 => sGr_held _ n n T N ls ad own span W hn e1 hl (fun h => by cases h) hst hos hr I hx, fun g W e1 hg => iGr_no _ n n T N ls ad own span W hn e1 hl 11 (fun W' a c e => ptg_held a n c T N ls ad own span W' hn e hl hst hos hr I hx) hg⟩
    | none =>
      by_cases hn80 : n = 80
      · exact ⟨ls, n, T, 0, 12, hn, by omega, fun g W e1 => sGr_many _ n n T N ls ad own span W hn e1 hl (fun h => by cases h) hst hos hr hx hn80, fun g W e1 hg => iGr_no _ n n T N ls ad own span W hn e1 hl 12 (fun W' a c e => ptg_many a n c T N ls ad own span W' hn e hl hst hos hr hx hn80) hg⟩
      · obtain ⟨I, hI⟩ := low_ex (ad := ad) (srt_bk hb).1
        have hTb := bk_tok hb
        have hT : 0 ≤ T ∧ T < 1000000000 := by
          have : ¬ T = 1000000000 := by simpa using hT0
          omega
        exact ⟨ls.take I ++ [(⟨ad, own, T + 1, N + span⟩ : Ls)] ++ ls.drop I, n + 1, T + 1, T + 1, 0, by rw [List.length_append, List.length_append, List.length_take, List.length_drop]; have := hI.1; simp; omega, by omega, fun g W e1 => sGr_yes _ n n T N ls ad own span W hn e1 hl (fun h => by cases h) hst hos hr hx (by omega) I hI, fun g W e1 _ => iGr_yes _ n n T N ls ad own span W hn e1 hl hT hw I (by have := hI.1; omega) (fun W' a c e => ptg_yes a n c T N ls ad own span W' hn e hl hst hos hr hx hn80 I hI)⟩

end Go.Proofs.YtafbekjpmjjlpaaGreatDoor
