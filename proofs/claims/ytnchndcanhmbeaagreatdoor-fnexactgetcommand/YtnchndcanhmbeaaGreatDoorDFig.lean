/-
  The specification's figures of a number, digit by digit, and its groups of an address; memory stays as it was.
-/
import Derived.Test.YtnchndcanhmbeaaGreatDoorDFmt
import Derived.Deep.QuietTactic
import Derived.BigQuiet
namespace Go.Proofs.YtnchndcanhmbeaaGreatDoor
open Go.RowKit

theorem sl16 (k : Int) (h0 : 0 ≤ k) (h1 : k < 16) (w : World) : (Instr.slice 9 (.string ⟨#[48, 49, 50, 51, 52, 53, 54, 55, 56, 57, 97, 98, 99, 100, 101, 102]⟩) (some (.int .u64 k)) (some (.int .u64 (k + 1))) none).run Tryz.prog w = .ok (.string ⟨#[hexb k.toNat]⟩) w := by
  rcases below16 k h0 h1 with rfl | rfl | rfl | rfl | rfl | rfl | rfl | rfl | rfl | rfl | rfl | rfl | rfl | rfl | rfl | rfl <;> kernel_rfl

theorem ba_app (a b : List UInt8) : (⟨a.toArray⟩ : ByteArray) ++ (⟨b.toArray⟩ : ByteArray) = ⟨(a ++ b).toArray⟩ := by
  apply ByteArray.ext; simp
theorem ret_ba {a b : ByteArray} (h : a = b) : Ending.returned (.string a) = .returned (.string b) := by rw [h]

/-- The decimal digits of a number below 256. -/
def decs (x : Int) : List UInt8 := if x < 10 then [hexb x.toNat] else if x < 100 then [hexb (x / 10).toNat] ++ [hexb (x % 10).toNat] else ([hexb (x / 10 / 10).toNat] ++ [hexb (x / 10 % 10).toNat]) ++ [hexb (x % 10).toNat]

theorem uw (x : Int) : 0 ≤ IntKind.u64.wrap x ∧ IntKind.u64.wrap x < 18446744073709551616 := by rw [IntKind.wrap_u64]; omega
theorem and16 (u : Int) (h0 : 0 ≤ u) (h1 : u < 18446744073709551616) : bits .and .u64 u 65535 = u % 65536 := by
  obtain ⟨n, rfl⟩ := Int.eq_ofNat_of_zero_le h0
  rw [u64_and _ _ (by omega) (by omega) (by omega) (by omega)]
  have : (65535 : Int).toNat = 2 ^ 16 - 1 := by decide
  rw [this, Int.toNat_natCast, Nat.and_two_pow_sub_one_eq_mod]
  omega

/-- The eight groups of an address of 128 bits. -/
def grp (H L : Int) : Nat → Int
  | 0 => IntKind.u64.wrap H / 281474976710656 % 65536
  | 1 => IntKind.u64.wrap H / 4294967296 % 65536
  | 2 => IntKind.u64.wrap H / 65536 % 65536
  | 3 => IntKind.u64.wrap H % 65536
  | 4 => IntKind.u64.wrap L / 281474976710656 % 65536
  | 5 => IntKind.u64.wrap L / 4294967296 % 65536
  | 6 => IntKind.u64.wrap L / 65536 % 65536
  | 7 => IntKind.u64.wrap L % 65536
  | _ => 0
theorem grp_bd (H L : Int) (i : Nat) : 0 ≤ grp H L i ∧ grp H L i < 65536 := by
  unfold grp; split <;> omega

end Go.Proofs.YtnchndcanhmbeaaGreatDoor
