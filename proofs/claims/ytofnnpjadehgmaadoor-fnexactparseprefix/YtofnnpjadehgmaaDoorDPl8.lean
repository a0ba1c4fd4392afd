/-
  The plain twin of the program's reading of an address of 128 bits: the numbers spread over eight groups, and the groups folded into one number.
-/
import Derived.Test.YtofnnpjadehgmaaDoorDSpr
import Derived.Test.YtofnnpjadehgmaaDoorDR32
import Derived.Test.YtofnnpjadehgmaaDoorDGrp
namespace Go.Proofs.YtofnnpjadehgmaaDoor
open Go.RowKit

def zf (zs : List Int) : Nat → Int := fun j => zs.getD j 0
/-- The numbers spread over eight groups; none: they are no address's. -/
def sp (zs : List Int) : Option (Nat → Int) :=
  if Lib.idxOf zs (-1) = -1 then (if zs.length = 8 then some (zf zs) else none)
  else some fun j => if 8 - (zs.length - lastM (zf zs) zs.length) ≤ j then zf zs (lastM (zf zs) zs.length + (j - (8 - (zs.length - lastM (zf zs) zs.length)))) else if j < (Lib.idxOf zs (-1)).toNat then zf zs j else 0
def p128 (l : List UInt8) : Option (Nat → Int) := (rn 58 16 65535 l [] (-1)).bind sp

theorem lastM_hit (z : Nat → Int) : ∀ b, (∃ a, a < b ∧ z a = -1) → 0 < lastM z b ∧ z (lastM z b - 1) = -1 ∧ (∀ a, a < b → z a = -1 → a < lastM z b)
  | 0, ⟨a, h, _⟩ => by omega
  | b + 1, ⟨a, h, ha⟩ => by
      unfold lastM
      by_cases e : z b = -1
      · rw [if_pos e]
        exact ⟨by omega, by simpa using e, fun a h _ => h⟩
      · rw [if_neg e]
        have hab : a < b := by
          by_cases q : a = b
          · subst q; exact absurd ha e
          · omega
        obtain ⟨h1, h2, h3⟩ := lastM_hit z b ⟨a, hab, ha⟩
        refine ⟨h1, h2, fun a' h' e' => h3 a' ?_ e'⟩
        by_cases q : a' = b
        · subst q; exact absurd e' e
        · omega

/-- All the groups as one number. -/
def fold (g : Nat → Int) : Nat → Int
  | 0 => 0
  | k + 1 => fold g k * 65536 + g k
def fh (g : Nat → Int) (k : Nat) : Int := fold g k / 18446744073709551616 % 18446744073709551616
def fl (g : Nat → Int) (k : Nat) : Int := fold g k % 18446744073709551616
theorem fl_bd (g : Nat → Int) (k : Nat) : 0 ≤ fl g k ∧ fl g k < 18446744073709551616 := by unfold fl; omega
theorem fh_bd (g : Nat → Int) (k : Nat) : 0 ≤ fh g k ∧ fh g k < 18446744073709551616 := by unfold fh; omega
theorem fh_or (g : Nat → Int) (k : Nat) (h0 : 0 ≤ g k) (h1 : g k < 65536) : bits .or .u64 (IntKind.u64.wrap (fh g k * 65536)) (fl g k / 281474976710656) = fh g (k + 1) := by
  have b := fl_bd g k
  have b2 := fh_bd g k
  have b3 := uw (fh g k * 65536)
  rw [u64_or _ _ b3.1 b3.2 (by omega) (by omega)]
  rw [nat_join 16 _ _ (by rw [IntKind.wrap_u64]; omega) (by omega)]
  rw [IntKind.wrap_u64]
  unfold fl fh
  rw [fold]
  omega
theorem fl_or (g : Nat → Int) (k : Nat) (h0 : 0 ≤ g k) (h1 : g k < 65536) : bits .or .u64 (IntKind.u64.wrap (fl g k * 65536)) (g k) = fl g (k + 1) := by
  have b := fl_bd g k
  have b3 := uw (fl g k * 65536)
  rw [u64_or _ _ b3.1 b3.2 (by omega) (by omega)]
  rw [nat_join 16 _ _ (by rw [IntKind.wrap_u64]; omega) (by omega)]
  rw [IntKind.wrap_u64]
  unfold fl
  rw [fold]
  omega

end Go.Proofs.YtofnnpjadehgmaaDoor
