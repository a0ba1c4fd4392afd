/-
  The two FileCrash answer alike.
-/
import Derived.Test.YtfhlplpiojhhmaaV11IC
import Derived.Test.YtfhlplpiojhhmaaV11SC
namespace Go.Proofs.Ytfhlplpiojhhmaa
open Go.RowKit

theorem cr_both (n : Nat) (N : Int) (zs : List Int) (hn : n = zs.length) (hl : n ≤ 1048576) (K : Int) :
    ∃ (LS : List Int) (nL : Nat) (M : Int), nL = LS.length ∧ nL ≤ 1048576 ∧ (∀ (g : Nat) (W : World), RowG KBy W (some ⟨g, 0, none⟩) zs → Calls Try.prog 24 #[.agg #[.slice (some ⟨g, 0, none⟩) n n, .int .i64 N], .int .i64 K] W fun e w' => ∃ a' c', e = .returned (.agg #[.slice a' nL c', .int .i64 M]) ∧ OwnG KBy 5 w' W.heap.size (.slice a' nL c') LS ∧ Below W.heap.size W w') ∧ (∀ (g : Nat) (W : World), RowG KBy W (some ⟨g, 0, none⟩) zs → Calls Try.prog 12 #[.agg #[.slice (some ⟨g, 0, none⟩) n n, .int .i64 N], .int .i64 K] W fun e w' => ∃ a' c', e = .returned (.agg #[.slice a' nL c', .int .i64 M]) ∧ OwnG KBy 5 w' W.heap.size (.slice a' nL c') LS ∧ Below W.heap.size W w') := by
  cases hr : okF n N
  · exact ⟨zs, n, N, hn, hl, fun g W e1 => sCr_no _ n n N zs W hn e1 (fun h => by cases h) hl K hr, fun g W e1 => iCr_no _ n n N zs W hn e1 hl K hr⟩
  · obtain ⟨k0, k1, k2⟩ := okF_yes hr
    by_cases he : N = (n : Int)
    · subst he
      refine ⟨zs, n, n, hn, hl, fun g W e1 => ?_, fun g W e1 => iCr_end _ n n n zs W hn e1 hl K hr rfl⟩
      by_cases hk : K < 0
      · exact sCr_keepA _ n n n zs W hn e1 (fun h => by cases h) hl K hr hk rfl
      · exact sCr_keepB _ n n n zs W hn e1 (fun h => by cases h) hl K hr (by omega) (by omega)
    · have he' : N < (n : Int) := by omega
      by_cases hk : K < 0
      · have h2 : ((N.toNat : Nat) : Int) = N := by omega
        exact ⟨zs.take N.toNat, N.toNat, N.toNat, by rw [List.length_take]; omega, by omega, fun g W e1 => sCr_cutA _ n n N zs W hn e1 (fun h => by cases h) hl K hr hk he' _ h2, fun g W e1 => iCr_neg _ n n N zs W hn e1 (Nat.le_refl _) hl K hr he' _ hk h2⟩
      · by_cases hm : K < (n : Int) - N
        · have h2 : (((N + K).toNat : Nat) : Int) = N + K := by omega
          exact ⟨zs.take (N + K).toNat, (N + K).toNat, (N + K).toNat, by rw [List.length_take]; omega, by omega, fun g W e1 => sCr_cutB _ n n N zs W hn e1 (fun h => by cases h) hl K hr (by omega) hm _ h2, fun g W e1 => iCr_mid _ n n N zs W hn e1 (Nat.le_refl _) hl K hr he' _ (by omega) (by omega) h2⟩
        · refine ⟨zs, n, n, hn, hl, fun g W e1 => sCr_keepB _ n n N zs W hn e1 (fun h => by cases h) hl K hr (by omega) (by omega), fun g W e1 => ?_⟩
          have ht : zs.take n = zs := by rw [hn]; exact List.take_length
          by_cases hq : (n : Int) - N < K
          · have := iCr_all (some ⟨g, 0, none⟩) n n N zs W hn e1 (Nat.le_refl _) hl K hr he' n hq rfl
            rw [ht] at this; exact this
          · have := iCr_mid (some ⟨g, 0, none⟩) n n N zs W hn e1 (Nat.le_refl _) hl K hr he' n (by omega) (by omega) (by omega)
            rw [ht] at this; exact this

end Go.Proofs.Ytfhlplpiojhhmaa
