/-
  The two Settled answer alike: one statement of both.
-/
import Derived.Test.YtnngbeoeocbofaaV12St
namespace Go.Proofs.Ytnngbeoeocbofaa
open Go.ChangeShapes Go.WideShapes Go.ChangeAt Go.RowKit Go.Joins Go.Deep

theorem settled_both (np nb : Nat) (ps bs : List Int) (hnp : np = ps.length) (hnb : nb = bs.length) (hl : np ≤ 1048576) (hl' : nb ≤ 1048576) :
    ∃ (PS : List Int) (NP : Nat) (BS : List Int) (NB : Nat) (C : Bool), NP = PS.length ∧ NB = BS.length ∧ NP ≤ 1048577 ∧ NB ≤ 1048577 ∧ (∀ (g h : Nat) (W : World), RowG KI W (some ⟨g, 0, none⟩) ps → RowG KI W (some ⟨h, 0, none⟩) bs → Calls Try.prog 27 #[.agg #[.slice (some ⟨g, 0, none⟩) np np, .slice (some ⟨h, 0, none⟩) nb nb]] W fun e w' => ∃ a c b d, e = .returned (.tuple #[.agg #[.slice a NP c, .slice b NB d], .bool C]) ∧ OwnG KI 3 w' W.heap.size (.slice a NP c) PS ∧ OwnG KI 3 w' W.heap.size (.slice b NB d) BS ∧ (∀ k, (Value.slice a NP c).ownBlock = some k → (Value.slice b NB d).ownBlock ≠ some k) ∧ Below W.heap.size W w') ∧ (∀ (g h : Nat) (W : World), RowG KI W (some ⟨g, 0, none⟩) ps → RowG KI W (some ⟨h, 0, none⟩) bs → Calls Try.prog 28 #[.agg #[.slice (some ⟨g, 0, none⟩) np np, .slice (some ⟨h, 0, none⟩) nb nb]] W fun e w' => ∃ a c b d, e = .returned (.tuple #[.agg #[.slice a NP c, .slice b NB d], .bool C]) ∧ OwnG KI 3 w' W.heap.size (.slice a NP c) PS ∧ OwnG KI 3 w' W.heap.size (.slice b NB d) BS ∧ (∀ k, (Value.slice a NP c).ownBlock = some k → (Value.slice b NB d).ownBlock ≠ some k) ∧ Below W.heap.size W w') := by
  cases hr : grB ps bs
  · exact ⟨ps, np, bs, nb, false, hnp, hnb, by omega, by omega, fun g h W e1 e2 => sSt_no g h np nb ps bs W hnp hnb e1 e2 hl hl' hr, fun g h W e1 e2 => iSt_no g h np nb ps bs W hnp hnb e1 e2 hl hl' hr⟩
  · by_cases hj : nb = 0
    · exact ⟨ps, np, bs, nb, false, hnp, hnb, by omega, by omega, fun g h W e1 e2 => sSt_nj g h np nb ps bs W hnp hnb e1 e2 hl hl' hr hj, fun g h W e1 e2 => iSt_nj g h np nb ps bs W hnp hnb e1 e2 hl hl' hr hj⟩
    · exact ⟨bs, nb, [], 0, true, hnb, rfl, by omega, by omega, fun g h W e1 e2 => sSt_yes g h np nb ps bs W hnp hnb e1 e2 hl hl' hr (by omega), fun g h W e1 e2 => iSt_yes g h np nb ps bs W hnp hnb e1 e2 hl hl' hr (by omega)⟩

end Go.Proofs.Ytnngbeoeocbofaa
