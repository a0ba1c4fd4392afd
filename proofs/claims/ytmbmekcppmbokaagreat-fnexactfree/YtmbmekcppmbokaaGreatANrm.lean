/-
  The order of numbers without a sign, and the library's comparing of three words, each by its plain twin; nothing in memory turns. (The normalisers: DNrm.)
-/
import Derived.Test.YtmbmekcppmbokaaGreatDNrm

namespace Go.Proofs.YtmbmekcppmbokaaGreat
open Go.RowKit

/-- Less, as numbers without a sign. -/
def ult (a b : Int) : Bool := decide (IntKind.u64.wrap a < IntKind.u64.wrap b)

theorem l1Less_any (a b : Int) (w : World) :
    Calls Tryz.prog 80 #[.int .i64 a, .int .i64 b] w fun e w' => e = .returned (.bool (ult a b)) ∧ w' = w := by
  go_enter Tryz.func80, Tryz.ntmps80
  go_wp2
  go_ret
  exact ⟨rfl, rfl⟩

/-- The library's comparing of two words. -/
def cmpW (a b : Int) : Int := if a < b then -1 else if b < a then 1 else 0

set_option maxHeartbeats 400000 in
theorem cmpCompare_any (a b : Int) (w : World) :
    Calls Tryz.prog 132 #[.int .u64 a, .int .u64 b] w fun e w' => e = .returned (.int .i64 (cmpW a b)) ∧ w' = w := by
  by_cases h1 : a < b
  · have e : cmpW a b = -1 := by simp [cmpW, h1]
    rw [e]
    go_enter Tryz.func132, Tryz.ntmps132
    go_wp2
    go_ret
    exact ⟨rfl, rfl⟩
  · by_cases h2 : b < a
    · have e : cmpW a b = 1 := by simp [cmpW, h1, h2]
      rw [e]
      go_enter Tryz.func132, Tryz.ntmps132
      go_wp2
      go_ret
      exact ⟨rfl, rfl⟩
    · have e : cmpW a b = 0 := by simp [cmpW, h1, h2]
      rw [e]
      go_enter Tryz.func132, Tryz.ntmps132
      go_wp2
      go_ret
      exact ⟨rfl, rfl⟩

end Go.Proofs.YtmbmekcppmbokaaGreat
