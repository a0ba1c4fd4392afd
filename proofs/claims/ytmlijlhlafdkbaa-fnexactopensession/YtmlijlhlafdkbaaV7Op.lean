/-
  The two OpenSession answer alike.
-/
import Derived.Test.YtmlijlhlafdkbaaV7IOp
import Derived.Test.YtmlijlhlafdkbaaV7SOp
namespace Go.Proofs.Ytmlijlhlafdkbaa
open Go.RowKit

theorem op_both (n : Nat) (N : Int) (ls : List Ss) (hn : n = ls.length) (hl : n ≤ 1048576) (u : Int) :
    ∃ (LS : List Ss) (nL : Nat) (N' : Int) (x : Int), nL = LS.length ∧ nL ≤ 1048577 ∧ (∀ (g : Nat) (W : World), RowG KSs W (some ⟨g, 0, none⟩) ls → Calls Try.prog 14 #[.agg #[.slice (some ⟨g, 0, none⟩) n n, .int .i64 N], .int .i64 u] W fun e w' => ∃ a' c', e = .returned (.tuple #[.agg #[.slice a' nL c', .int .i64 N'], .int .i64 x]) ∧ OwnG KSs 52 w' W.heap.size (.slice a' nL c') LS ∧ Below W.heap.size W w') ∧ (∀ (g : Nat) (W : World), RowG KSs W (some ⟨g, 0, none⟩) ls → Calls Try.prog 15 #[.agg #[.slice (some ⟨g, 0, none⟩) n n, .int .i64 N], .int .i64 u] W fun e w' => ∃ a' c', e = .returned (.tuple #[.agg #[.slice a' nL c', .int .i64 N'], .int .i64 x]) ∧ OwnG KSs 52 w' W.heap.size (.slice a' nL c') LS ∧ Below W.heap.size W w') := by
  cases hr : (dkB ls N && (!((n : Int) == 12) && (!(N == 1000000) && tmB u)))
  · exact ⟨ls, n, N, 0, hn, by omega, fun g W e1 => sOp_no _ n n N ls W hn e1 (fun h => by cases h) hl u hr, fun g W e1 => iOp_no _ n n N ls W hn e1 hl u hr⟩
  · exact ⟨ls ++ [(⟨N, 0, ⟨#[]⟩, u⟩ : Ss)], n + 1, N + 1, N, by rw [List.length_append, hn]; rfl, by omega, fun g W e1 => sOp_yes _ n n N ls W hn e1 (fun h => by cases h) hl u hr, fun g W e1 => iOp_yes _ n n N ls W hn e1 hl u hr⟩

end Go.Proofs.Ytmlijlhlafdkbaa
