/-
  The specification's text of an address, by its plain twin; nothing old in memory turns.
-/
import Derived.Test.YtnchndcanhmbeaaGreatDoorDNrm
import Derived.Test.YtnchndcanhmbeaaGreatDoorDFig
namespace Go.Proofs.YtnchndcanhmbeaaGreatDoor
open Go.RowKit

theorem ba3 (a b c : List UInt8) : (⟨a.toArray⟩ : ByteArray) ++ (⟨b.toArray⟩ : ByteArray) ++ (⟨c.toArray⟩ : ByteArray) = ⟨(a ++ b ++ c).toArray⟩ := by rw [ba_app, ba_app]
theorem decs_len (x : Int) : (decs x).length ≤ 3 := by unfold decs; split; simp; split <;> simp
theorem and8 (u : Int) (h0 : 0 ≤ u) (h1 : u < 18446744073709551616) : bits .and .u64 u 255 = u % 256 := by
  obtain ⟨n, rfl⟩ := Int.eq_ofNat_of_zero_le h0
  rw [u64_and _ _ (by omega) (by omega) (by omega) (by omega)]
  have : (255 : Int).toNat = 2 ^ 8 - 1 := by decide
  rw [this, Int.toNat_natCast, Nat.and_two_pow_sub_one_eq_mod]
  omega

/-- The text of 32 bits. -/
def txt4 (L : Int) : List UInt8 := [] ++ decs (L / 16777216 % 256) ++ [46] ++ decs (L / 65536 % 256) ++ [46] ++ decs (L / 256 % 256) ++ [46] ++ decs (L % 256)

end Go.Proofs.YtnchndcanhmbeaaGreatDoor
