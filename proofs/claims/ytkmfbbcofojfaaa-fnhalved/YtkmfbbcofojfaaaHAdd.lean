/-
  The program's AddTo of the lower half's last address and 1 is the upper half's first address.
-/
import Derived.Test.YtkmfbbcofojfaaaHFacts
import Derived.Test.YtkmfbbcofojfaaaAAdd
namespace Go.Proofs.Ytkmfbbcofojfaaa
open Go.RowKit

theorem add_last (s : Bool) (H L : BitVec 64) (k : Nat) (hk : k < 128) (hH : cH (k + 1) H = H) (hL : cL (k + 1) L = L)
    (ok0 : okB s (fH k H).toInt (fL k L).toInt = true) (ok1 : okB s (cH k (fH (k + 1) H)).toInt (cL k (fL (k + 1) L)).toInt = true) (w : World) :
    Calls Try.prog 17 #[.agg #[.bool s, .int .i64 (fH k H).toInt, .int .i64 (fL k L).toInt], .int .i64 1] w fun e w' => e = .returned (.tuple #[.agg #[.bool s, .int .i64 (cH k (fH (k + 1) H)).toInt, .int .i64 (cL k (fL (k + 1) L)).toInt], .bool true]) ∧ Below w.heap.size w w' := by
  have hz : Nrm s (fH k H).toInt (fL k L).toInt s (fH k H).toInt (fL k L).toInt := Or.inl ⟨ok0, rfl, rfl, rfl⟩
  have u1 : IntKind.u64.wrap 1 = 1 := by decide
  have a1 := add64 (IntKind.u64.wrap (fL k L).toInt) (IntKind.u64.wrap 1) 0 (Word_u _) (Word_u _) Bit0
  by_cases h64 : k < 64
  · obtain ⟨e1, e2, e3, _⟩ := half_lo k h64 H L hL
    have lt := (cL k (fL (k + 1) L)).isLt
    have c1 : addS (IntKind.u64.wrap (fL k L).toInt) (IntKind.u64.wrap 1) 0 = ((cL k (fL (k + 1) L)).toNat : Int) := by rw [wrapU, u1, e3]; unfold addS; omega
    have c2 : addC (IntKind.u64.wrap (fL k L).toInt) (IntKind.u64.wrap 1) 0 = 0 := by rw [wrapU, u1]; unfold addC; omega
    rw [c1, c2] at a1
    have a2 := add64 (IntKind.u64.wrap (fH k H).toInt) 0 0 (Word_u _) Word0 Bit0
    have lh := (fH k H).isLt
    have c3 : addS (IntKind.u64.wrap (fH k H).toInt) 0 0 = ((cH k (fH (k + 1) H)).toNat : Int) := by rw [wrapU, e1, e2]; unfold addS; have := H.isLt; omega
    have c4 : addC (IntKind.u64.wrap (fH k H).toInt) 0 0 = 0 := by rw [wrapU]; unfold addC; omega
    rw [c3, c4] at a2
    have i := iAddTo_ok s _ _ 1 s _ _ _ 0 _ _ hz (by omega) a1 a2 rfl (by
      show okB _ _ _ = true
      rw [w64, w64, wrapI, wrapI]; exact ok1) w
    rwa [w64, w64, wrapI, wrapI] at i
  · obtain ⟨e1, e2, e3, _⟩ := half_hi k (by omega) hk H L hH
    have lt := (cH k (fH (k + 1) H)).isLt
    have c1 : addS (IntKind.u64.wrap (fL k L).toInt) (IntKind.u64.wrap 1) 0 = ((cL k (fL (k + 1) L)).toNat : Int) := by rw [wrapU, u1, e1, e2]; decide
    have c2 : addC (IntKind.u64.wrap (fL k L).toInt) (IntKind.u64.wrap 1) 0 = 1 := by rw [wrapU, u1, e2]; decide
    rw [c1, c2] at a1
    have a2 := add64 (IntKind.u64.wrap (fH k H).toInt) 0 1 (Word_u _) Word0 (by unfold Bit; omega)
    have c3 : addS (IntKind.u64.wrap (fH k H).toInt) 0 1 = ((cH k (fH (k + 1) H)).toNat : Int) := by rw [wrapU, e3]; unfold addS; omega
    have c4 : addC (IntKind.u64.wrap (fH k H).toInt) 0 1 = 0 := by rw [wrapU]; unfold addC; omega
    rw [c3, c4] at a2
    have i := iAddTo_ok s _ _ 1 s _ _ _ 1 _ _ hz (by omega) a1 a2 rfl (by
      show okB _ _ _ = true
      rw [w64, w64, wrapI, wrapI]; exact ok1) w
    rwa [w64, w64, wrapI, wrapI] at i

end Go.Proofs.Ytkmfbbcofojfaaa
