/-
  The two CmpAddr (the program's and the specification's) return the same order of two addresses; nothing old in memory turns.
-/
import Derived.Test.YtkmfbbcofojfaadANrm
namespace Go.Proofs.Ytkmfbbcofojfaad
open Go.RowKit

/-- The library's comparing of two rows of three words. -/
def cmp3 (a0 a1 a2 b0 b1 b2 : Int) : Int := if cmpW a0 b0 ≠ 0 then cmpW a0 b0 else if cmpW a1 b1 ≠ 0 then cmpW a1 b1 else cmpW a2 b2

theorem ret_int {k : IntKind} {a b : Int} (h : a = b) : Ending.returned (.int k a) = .returned (.int k b) := by rw [h]
theorem ret_bool {a b : Bool} (h : a = b) : Ending.returned (.bool a) = .returned (.bool b) := by rw [h]

/-- Two words that the library finds the same. -/
def Same (a b : Int) : Prop := (cmpW a b != 0) = false

theorem cmp3_0 {a0 a1 a2 b0 b1 b2 : Int} (h : (cmpW a0 b0 != 0) = true) : cmp3 a0 a1 a2 b0 b1 b2 = cmpW a0 b0 := by
  simp at h; simp [cmp3, h]
theorem cmp3_1 {a0 a1 a2 b0 b1 b2 : Int} (h0 : Same a0 b0) (h : (cmpW a1 b1 != 0) = true) : cmp3 a0 a1 a2 b0 b1 b2 = cmpW a1 b1 := by
  simp [Same] at h h0; simp [cmp3, h, h0]
theorem cmp3_2 {a0 a1 a2 b0 b1 b2 : Int} (h0 : Same a0 b0) (h1 : Same a1 b1) : cmp3 a0 a1 a2 b0 b1 b2 = cmpW a2 b2 := by
  simp [Same] at h1 h0; simp [cmp3, h1, h0]

/-- The three words by which the program orders an address. -/
def Rank (S : Bool) (H L r0 r1 r2 : Int) : Prop := (S = true ∧ r0 = 1 ∧ r1 = IntKind.u64.wrap H ∧ r2 = IntKind.u64.wrap L) ∨ (S = false ∧ r0 = 0 ∧ r1 = 0 ∧ r2 = IntKind.u64.wrap L)

end Go.Proofs.Ytkmfbbcofojfaad
