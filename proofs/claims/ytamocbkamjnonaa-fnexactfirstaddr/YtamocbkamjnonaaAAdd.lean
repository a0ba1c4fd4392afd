/-
  The program's AddTo and the library's adding with carry, by their plain twins; nothing old in memory turns.
-/
import Derived.Test.YtamocbkamjnonaaANrm
import Derived.Laws.Externs
namespace Go.Proofs.Ytamocbkamjnonaa
open Go.RowKit

def addS (x y c : Int) : Int := (x + y + c) % 18446744073709551616
def addC (x y c : Int) : Int := (x + y + c) / 18446744073709551616
/-- A word of 64 bits without a sign; a carry. -/
def Word (x : Int) : Prop := 0 ≤ x ∧ x < 18446744073709551616
def Bit (x : Int) : Prop := 0 ≤ x ∧ x ≤ 1

theorem Bit0 : Bit 0 := by unfold Bit; omega
theorem Word0 : Word 0 := by unfold Word; omega
theorem Word_u (x : Int) : Word (IntKind.u64.wrap x) := by unfold Word; rw [IntKind.wrap_u64]; omega
theorem addC_bit {x y c : Int} (hx : Word x) (hy : Word y) (hc : Bit c) : Bit (addC x y c) := by unfold Word Bit at *; unfold addC; omega
theorem addS_word (x y c : Int) : Word (addS x y c) := by unfold Word addS; omega

end Go.Proofs.Ytamocbkamjnonaa
