/-
  The two CloseSession answer alike.
-/
import Derived.Test.YtmlijlhlafdkbaaV7ICl
import Derived.Test.YtmlijlhlafdkbaaV7SCl
namespace Go.Proofs.Ytmlijlhlafdkbaa
open Go.RowKit

theorem cl_both (n : Nat) (N : Int) (ls : List Ss) (hn : n = ls.length) (hl : n ≤ 1048576) (id : Int) :
    ∃ (LS : List Ss) (nL : Nat) (N' : Int) (x : Bool), nL = LS.length ∧ nL ≤ 1048577 ∧ (∀ (g : Nat) (W : World), RowG KSs W (some ⟨g, 0, none⟩) ls → Calls Try.prog 18 #[.agg #[.slice (some ⟨g, 0, none⟩) n n, .int .i64 N], .int .i64 id] W fun e w' => ∃ a' c', e = .returned (.tuple #[.agg #[.slice a' nL c', .int .i64 N'], .bool x]) ∧ OwnG KSs 52 w' W.heap.size (.slice a' nL c') LS ∧ Below W.heap.size W w') ∧ (∀ (g : Nat) (W : World), RowG KSs W (some ⟨g, 0, none⟩) ls → Calls Try.prog 19 #[.agg #[.slice (some ⟨g, 0, none⟩) n n, .int .i64 N], .int .i64 id] W fun e w' => ∃ a' c', e = .returned (.tuple #[.agg #[.slice a' nL c', .int .i64 N'], .bool x]) ∧ OwnG KSs 52 w' W.heap.size (.slice a' nL c') LS ∧ Below W.heap.size W w') := by
  cases hr : dkB ls N
  · exact ⟨ls, n, N, false, hn, by omega, fun g W e1 => sCl_form g n N ls W hn e1 hl id hr, fun g W e1 => iCl_form _ n n N ls W hn e1 hl id hr⟩
  · cases hf : findS id ls with
    | none => exact ⟨ls, n, N, false, hn, by omega, fun g W e1 => sCl_none g n N ls W hn e1 hl id hr hf, fun g W e1 => iCl_none _ n n N ls W hn e1 hl id hr hf⟩
    | some I =>
      obtain ⟨q, hq, _, hI, _⟩ := findS_at hf
      refine ⟨ls.eraseIdx I, n - 1, N, true, by rw [List.length_eraseIdx_of_lt hI, hn], by omega, fun g W e1 => ?_, fun g W e1 => iCl_yes _ n n N ls W hn e1 hl id hr I hf⟩
      by_cases hcj : n = I + 1
      · exact sCl_yes0 g n N ls W hn e1 hl id hr I (by omega) hf hcj
      · exact sCl_yes1 g n N ls W hn e1 hl id hr I (by omega) hf hcj

end Go.Proofs.Ytmlijlhlafdkbaa
