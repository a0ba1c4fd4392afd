/-
  The two Joint answer alike: one statement of both.
-/
import Derived.Test.YtnngbeoeocbofaaV12JI
import Derived.Test.YtnngbeoeocbofaaV12JS
namespace Go.Proofs.Ytnngbeoeocbofaa
open Go.ChangeShapes Go.WideShapes Go.ChangeAt Go.RowKit Go.Joins Go.Deep

theorem joint_both (np nb m : Nat) (ps bs qs : List Int) (hnp : np = ps.length) (hnb : nb = bs.length) (hm : m = qs.length) (hl : np ≤ 1048576) (hl' : nb ≤ 1048576) (hl3 : m ≤ 1048576) :
    ∃ (PS : List Int) (NP : Nat) (BS : List Int) (NB : Nat) (C : Bool), NP = PS.length ∧ NB = BS.length ∧ NP ≤ 1048577 ∧ NB ≤ 1048577 ∧ (∀ (g h j : Nat) (W : World), RowG KI W (some ⟨g, 0, none⟩) ps → RowG KI W (some ⟨h, 0, none⟩) bs → RowG KI W (some ⟨j, 0, none⟩) qs → Calls Try.prog 20 #[.agg #[.slice (some ⟨g, 0, none⟩) np np, .slice (some ⟨h, 0, none⟩) nb nb], .slice (some ⟨j, 0, none⟩) m m] W fun e w' => ∃ a c b d, e = .returned (.tuple #[.agg #[.slice a NP c, .slice b NB d], .bool C]) ∧ OwnG KI 3 w' W.heap.size (.slice a NP c) PS ∧ OwnG KI 3 w' W.heap.size (.slice b NB d) BS ∧ (∀ k, (Value.slice a NP c).ownBlock = some k → (Value.slice b NB d).ownBlock ≠ some k) ∧ Below W.heap.size W w') ∧ (∀ (g h j : Nat) (W : World), RowG KI W (some ⟨g, 0, none⟩) ps → RowG KI W (some ⟨h, 0, none⟩) bs → RowG KI W (some ⟨j, 0, none⟩) qs → Calls Try.prog 22 #[.agg #[.slice (some ⟨g, 0, none⟩) np np, .slice (some ⟨h, 0, none⟩) nb nb], .slice (some ⟨j, 0, none⟩) m m] W fun e w' => ∃ a c b d, e = .returned (.tuple #[.agg #[.slice a NP c, .slice b NB d], .bool C]) ∧ OwnG KI 3 w' W.heap.size (.slice a NP c) PS ∧ OwnG KI 3 w' W.heap.size (.slice b NB d) BS ∧ (∀ k, (Value.slice a NP c).ownBlock = some k → (Value.slice b NB d).ownBlock ≠ some k) ∧ Below W.heap.size W w') := by
  cases hr : grB ps bs
  · exact ⟨ps, np, bs, nb, false, hnp, hnb, by omega, by omega, fun g h j W e1 e2 e3 => sJ_no g h j np nb m ps bs qs W hnp hnb e1 e2 hl hl' hm e3 hl3 hr, fun g h j W e1 e2 e3 => iJ_no g h j np nb m ps bs qs W hnp hnb e1 e2 hl hl' hm e3 hl3 hr⟩
  · by_cases hj : nb = 0
    · cases hi : idsB 0 qs
      · have ha : aftB ps qs = false := by unfold aftB; rw [hi, Bool.and_false]; rfl
        exact ⟨ps, np, bs, nb, false, hnp, hnb, by omega, by omega, fun g h j W e1 e2 e3 => sJ_id g h j np nb m ps bs qs W hnp hnb e1 e2 hl hl' hm e3 hl3 hr hj hi, fun g h j W e1 e2 e3 => iJ_af g h j np nb m ps bs qs W hnp hnb e1 e2 hl hl' hm e3 hl3 hr hj ha⟩
      · by_cases h0 : m = 0
        · have ha : aftB ps qs = false := by unfold aftB; rw [decide_eq_false (by omega)]; rfl
          exact ⟨ps, np, bs, nb, false, hnp, hnb, by omega, by omega, fun g h j W e1 e2 e3 => sJ_mt g h j np nb m ps bs qs W hnp hnb e1 e2 hl hl' hm e3 hl3 hr hj hi h0, fun g h j W e1 e2 e3 => iJ_af g h j np nb m ps bs qs W hnp hnb e1 e2 hl hl' hm e3 hl3 hr hj ha⟩
        · have hd : decide (0 < qs.length) = true := decide_eq_true (by omega)
          cases he : eqZ qs ps
          · have ha : aftB ps qs = true := by unfold aftB; rw [hi, hd, eqZ_comm, he]; rfl
            exact ⟨ps, np, qs, m, true, hnp, hm, by omega, by omega, fun g h j W e1 e2 e3 => sJ_yes g h j np nb m ps bs qs W hnp hnb e1 e2 hl hl' hm e3 hl3 hr hj hi (by omega) he, fun g h j W e1 e2 e3 => iJ_yes g h j np nb m ps bs qs W hnp hnb e1 e2 hl hl' hm e3 hl3 hr hj ha⟩
          · have ha : aftB ps qs = false := by unfold aftB; rw [hi, hd, eqZ_comm, he]; rfl
            exact ⟨ps, np, bs, nb, false, hnp, hnb, by omega, by omega, fun g h j W e1 e2 e3 => sJ_eq g h j np nb m ps bs qs W hnp hnb e1 e2 hl hl' hm e3 hl3 hr hj hi (by omega) he, fun g h j W e1 e2 e3 => iJ_af g h j np nb m ps bs qs W hnp hnb e1 e2 hl hl' hm e3 hl3 hr hj ha⟩
    · exact ⟨ps, np, bs, nb, false, hnp, hnb, by omega, by omega, fun g h j W e1 e2 e3 => sJ_jt g h j np nb m ps bs qs W hnp hnb e1 e2 hl hl' hm e3 hl3 hr (by omega), fun g h j W e1 e2 e3 => iJ_jt g h j np nb m ps bs qs W hnp hnb e1 e2 hl hl' hm e3 hl3 hr (by omega)⟩

end Go.Proofs.Ytnngbeoeocbofaa
