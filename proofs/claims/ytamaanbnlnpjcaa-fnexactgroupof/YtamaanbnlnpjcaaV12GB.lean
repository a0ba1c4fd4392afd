/-
  The two GetGroup answer alike: one statement of both.
-/
import Derived.Test.YtamaanbnlnpjcaaV12GI
import Derived.Test.YtamaanbnlnpjcaaV12GS
namespace Go.Proofs.Ytamaanbnlnpjcaa
open Go.ChangeShapes Go.WideShapes Go.ChangeAt Go.RowKit Go.Joins Go.Deep

theorem getg_both (n : Nat) (zs : List Int) (hn : n = zs.length) (ho : Oct zs) :
    ∃ (PS : List Int) (NP : Nat) (BS : List Int) (NB : Nat) (C : Bool), NP = PS.length ∧ NB = BS.length ∧ NP ≤ 1048577 ∧ NB ≤ 1048577 ∧ (∀ (g : Nat) (W : World), RowG KBy W (some ⟨g, 0, none⟩) zs → Calls Try.prog 84 #[.slice (some ⟨g, 0, none⟩) n n] W fun e w' => ∃ a c b d, e = .returned (.tuple #[.agg #[.slice a NP c, .slice b NB d], .bool C]) ∧ OwnG KI 3 w' W.heap.size (.slice a NP c) PS ∧ OwnG KI 3 w' W.heap.size (.slice b NB d) BS ∧ (∀ k, (Value.slice a NP c).ownBlock = some k → (Value.slice b NB d).ownBlock ≠ some k) ∧ Below W.heap.size W w') ∧ (∀ (g : Nat) (W : World), RowG KBy W (some ⟨g, 0, none⟩) zs → Calls Try.prog 42 #[.slice (some ⟨g, 0, none⟩) n n] W fun e w' => ∃ a c b d, e = .returned (.tuple #[.agg #[.slice a NP c, .slice b NB d], .bool C]) ∧ OwnG KI 3 w' W.heap.size (.slice a NP c) PS ∧ OwnG KI 3 w' W.heap.size (.slice b NB d) BS ∧ (∀ k, (Value.slice a NP c).ownBlock = some k → (Value.slice b NB d).ownBlock ≠ some k) ∧ Below W.heap.size W w') := by
  by_cases h2 : n = 2
  · subst h2
    match zs, hn with
    | [u, v], _ =>
      have hu := ho u (by simp)
      have hv := ho v (by simp)
      obtain ⟨bx, rfl⟩ : ∃ bx : Nat, u = (bx : Int) := ⟨u.toNat, by omega⟩
      obtain ⟨bq, rfl⟩ : ∃ bq : Nat, v = (bq : Int) := ⟨v.toNat, by omega⟩
      have hx : bx < 256 := by omega
      have hy : bq < 256 := by omega
      have hs := got_s bx bq hx hy
      have l1 := ls_len ⟨bx, hx⟩
      have l2 := ls_len ⟨bq, hy⟩
      simp only at l1 l2
      cases hg : gotB bx bq
      · rw [hg] at hs
        refine ⟨[], 0, [], 0, false, rfl, rfl, by omega, by omega, fun g W e1 => ?_, fun g W e1 => iGg_bad g bx bq hx hy W e1 hg⟩
        cases hr : grB (lsB 7 bx 1) (lsB 7 bq 1)
        · exact sGg_nok g bx bq hx hy W e1 hr
        · rw [hr, Bool.true_and] at hs
          exact sGg_dif g bx bq hx hy W e1 hr hs
      · rw [hg, Bool.and_eq_true] at hs
        obtain ⟨s1, s2⟩ := got_same bx bq hg
        refine ⟨lsB 7 bx 1, (lsB 7 bx 1).length, lsB 7 bq 1, (lsB 7 bq 1).length, true, rfl, rfl, by omega, by omega, fun g W e1 => sGg_good g bx bq hx hy W e1 hs.1 hs.2, fun g W e1 => ?_⟩
        have := iGg_good g bx bq hx hy W e1 hg
        rw [s1, s2] at this
        exact this
  · exact ⟨[], 0, [], 0, false, rfl, rfl, by omega, by omega, fun g W _ => sGg_len _ n n h2 W, fun g W _ => iGg_len _ n n h2 W⟩

end Go.Proofs.Ytamaanbnlnpjcaa
