/-
  The program's CmpAddr of the lower half's first address and the upper half's is -1.
-/
import Derived.Test.YtkmfbbcofojfaaaHFacts
import Derived.Test.YtkmfbbcofojfaaaACmpI
namespace Go.Proofs.Ytkmfbbcofojfaaa
open Go.RowKit

theorem cmp_halves (s : Bool) (H L : BitVec 64) (k : Nat) (hk : k < 128) (hs : 64 ≤ k → s = true) (hH : cH (k + 1) H = H) (hL : cL (k + 1) L = L)
    (ok0 : okB s H.toInt L.toInt = true) (ok1 : okB s (cH k (fH (k + 1) H)).toInt (cL k (fL (k + 1) L)).toInt = true) (w : World) :
    Calls Try.prog 49 #[.agg #[.bool s, .int .i64 H.toInt, .int .i64 L.toInt], .agg #[.bool s, .int .i64 (cH k (fH (k + 1) H)).toInt, .int .i64 (cL k (fL (k + 1) L)).toInt]] w fun e w' => e = .returned (.int .i64 (-1)) ∧ Below w.heap.size w w' := by
  have hz : Nrm s H.toInt L.toInt s H.toInt L.toInt := Or.inl ⟨ok0, rfl, rfl, rfl⟩
  have hz' : Nrm s (cH k (fH (k + 1) H)).toInt (cL k (fL (k + 1) L)).toInt s _ _ := Or.inl ⟨ok1, rfl, rfl, rfl⟩
  cases s
  · have h64 : k < 64 := by
      rcases Nat.lt_or_ge k 64 with h | h
      · exact h
      · cases hs h
    obtain ⟨_, _, _, e4⟩ := half_lo k h64 H L hL
    have i := iCmp_ne _ _ _ _ _ _ _ _ _ _ _ _ 0 0 (IntKind.u64.wrap L.toInt) 0 0 (IntKind.u64.wrap (cL k (fL (k + 1) L)).toInt) hz (Or.inr ⟨rfl, rfl, rfl, rfl⟩) hz' (Or.inr ⟨rfl, rfl, rfl, rfl⟩) w
    rwa [show cmp3 0 0 (IntKind.u64.wrap L.toInt) 0 0 (IntKind.u64.wrap (cL k (fL (k + 1) L)).toInt) = -1 by
      rw [wrapU, wrapU]; have h : ((L.toNat : Nat) : Int) < ((cL k (fL (k + 1) L)).toNat : Int) := by omega
      simp [cmp3, cmpW, h]] at i
  · have i := iCmp_ne _ _ _ _ _ _ _ _ _ _ _ _ 1 (IntKind.u64.wrap H.toInt) (IntKind.u64.wrap L.toInt) 1 (IntKind.u64.wrap (cH k (fH (k + 1) H)).toInt) (IntKind.u64.wrap (cL k (fL (k + 1) L)).toInt) hz (Or.inl ⟨rfl, rfl, rfl, rfl⟩) hz' (Or.inl ⟨rfl, rfl, rfl, rfl⟩) w
    rcases Nat.lt_or_ge k 64 with h64 | h64
    · obtain ⟨e1, _, _, e4⟩ := half_lo k h64 H L hL
      rwa [show cmp3 1 (IntKind.u64.wrap H.toInt) (IntKind.u64.wrap L.toInt) 1 (IntKind.u64.wrap (cH k (fH (k + 1) H)).toInt) (IntKind.u64.wrap (cL k (fL (k + 1) L)).toInt) = -1 by
        rw [e1, wrapU, wrapU, wrapU]; have h : ((L.toNat : Nat) : Int) < ((cL k (fL (k + 1) L)).toNat : Int) := by omega
        simp [cmp3, cmpW, h]] at i
    · obtain ⟨_, _, _, e4⟩ := half_hi k h64 hk H L hH
      rwa [show cmp3 1 (IntKind.u64.wrap H.toInt) (IntKind.u64.wrap L.toInt) 1 (IntKind.u64.wrap (cH k (fH (k + 1) H)).toInt) (IntKind.u64.wrap (cL k (fL (k + 1) L)).toInt) = -1 by
        rw [wrapU, wrapU, wrapU, wrapU]; have h : ((H.toNat : Nat) : Int) < ((cH k (fH (k + 1) H)).toNat : Int) := by omega
        simp [cmp3, cmpW, h]] at i

end Go.Proofs.Ytkmfbbcofojfaaa
