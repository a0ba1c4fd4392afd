/-
  The two FileAdd answer alike.
-/
import Derived.Test.YtfhlplpiojhhmaaV11IA
import Derived.Test.YtfhlplpiojhhmaaV11SA
namespace Go.Proofs.Ytfhlplpiojhhmaa
open Go.RowKit

theorem ad_both (n : Nat) (N : Int) (zs : List Int) (hn : n = zs.length) (hl : n ≤ 1048576) (m : Nat) (bs : List Int) (hm : m = bs.length) (hk : m ≤ 1048576) :
    ∃ (LS : List Int) (nL : Nat) (x : Bool), nL = LS.length ∧ nL ≤ 1048576 ∧ (∀ (g h : Nat) (W : World), RowG KBy W (some ⟨g, 0, none⟩) zs → RowG KBy W (some ⟨h, 0, none⟩) bs → Calls Try.prog 18 #[.agg #[.slice (some ⟨g, 0, none⟩) n n, .int .i64 N], .slice (some ⟨h, 0, none⟩) m m] W fun e w' => ∃ a' c', e = .returned (.tuple #[.agg #[.slice a' nL c', .int .i64 N], .bool x]) ∧ OwnG KBy 5 w' W.heap.size (.slice a' nL c') LS ∧ Below W.heap.size W w') ∧ (∀ (g h : Nat) (W : World), RowG KBy W (some ⟨g, 0, none⟩) zs → RowG KBy W (some ⟨h, 0, none⟩) bs → Calls Try.prog 14 #[.agg #[.slice (some ⟨g, 0, none⟩) n n, .int .i64 N], .slice (some ⟨h, 0, none⟩) m m] W fun e w' => ∃ a' c', e = .returned (.tuple #[.agg #[.slice a' nL c', .int .i64 N], .bool x]) ∧ OwnG KBy 5 w' W.heap.size (.slice a' nL c') LS ∧ Below W.heap.size W w') := by
  cases hr : okF n N
  · exact ⟨zs, n, false, hn, hl, fun g h W e1 _ => sAd_no _ n n N zs W hn e1 _ m m (fun h => by cases h) hl hr, fun g h W e1 _ => iAd_no _ n n N zs W hn e1 _ m m hl hr⟩
  · by_cases hb : n + m ≤ 400000
    · exact ⟨zs ++ bs, n + m, true, by rw [List.length_append, hn, hm], by omega, fun g h W e1 e2 => sAd_yes _ n n N zs W hn e1 _ m m bs hm e2 (fun h => by cases h) hl (fun h => by cases h) hr hb, fun g h W e1 e2 => iAd_yes _ n n N zs W hn e1 _ m m bs hm e2 (fun h => by cases h) (fun h => by cases h) hr hb⟩
    · exact ⟨zs, n, false, hn, hl, fun g h W e1 _ => sAd_big _ n n N zs W hn e1 _ m m (fun h => by cases h) hl hr (by omega) hk, fun g h W e1 _ => iAd_big _ n n N zs W hn e1 _ m m hl hr (by omega)⟩

end Go.Proofs.Ytfhlplpiojhhmaa
