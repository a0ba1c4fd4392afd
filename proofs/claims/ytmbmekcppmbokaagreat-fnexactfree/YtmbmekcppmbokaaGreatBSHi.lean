/-
  The specification's l2Width, l1In and l2High, each by its plain twin; nothing old in memory turns.
-/
import Derived.Test.YtmbmekcppmbokaaGreatBAddr
import Derived.Deep.RegionWith
import Derived.Deep.DeepCutAuto
namespace Go.Proofs.YtmbmekcppmbokaaGreat
open Go.RowKit

set_option maxHeartbeats 1000000 in
theorem l2Width_any (s : Bool) (h l : Int) (w : World) :
    Calls Tryz.prog 51 #[.agg #[.bool s, .int .i64 h, .int .i64 l]] w fun e w' => e = .returned (.int .i64 (wd s)) ∧ Below w.heap.size w w' := by
  cases s <;>
  · go_enter Tryz.func51, Tryz.ntmps51
    go_wp2
    go_ret
    exact ⟨rfl, (Below.refl _ _).alloc (Nat.le_refl _) _⟩

theorem inB (x a b : Int) : (decide (a ≤ x) && decide (x ≤ b)) = decide (a ≤ x ∧ x ≤ b) := by
  by_cases h : a ≤ x <;> by_cases h1 : x ≤ b <;> simp [h, h1]

set_option maxHeartbeats 1000000 in
theorem l1In_any (x a b : Int) (w : World) :
    Calls Tryz.prog 50 #[.int .i64 x, .int .i64 a, .int .i64 b] w fun e w' => e = .returned (.bool (decide (a ≤ x ∧ x ≤ b))) ∧ w' = w := by
  rw [← inB]
  by_cases h : a ≤ x
  · rw [decide_eq_true h]
    go_enter Tryz.func50, Tryz.ntmps50
    go_wp2
    all_goals go_ret
    all_goals exact ⟨by simp_all, rfl⟩
  · rw [decide_eq_false h]
    go_enter Tryz.func50, Tryz.ntmps50
    go_wp2
    all_goals go_ret
    all_goals exact ⟨by simp_all, rfl⟩

theorem shr32' (r : BitVec 64) : (r.toNat : Int) / (4294967296 : Int) = ((r >>> 32).toNat : Int) := by
  rw [← shr32, Int.fdiv_eq_ediv_of_nonneg _ (by decide)]
  rfl

theorem hgA (b : Int) (h : b ≤ 0) : hg b = 0 := by simp [hg, h]
theorem hgB (b : Int) (h : ¬ b ≤ 0) (h1 : 64 ≤ b) : hg b = BitVec.allOnes 64 := by simp [hg, h, h1]

set_option maxHeartbeats 1000000 in
theorem l2High_any (b : Int) (h0 : -64 ≤ b) (h1 : b ≤ 128) (w : World) :
    Calls Tryz.prog 75 #[.int .i64 b] w fun e w' => e = .returned (.int .u64 (hg b).toNat) ∧ w' = w := by
  by_cases c : b ≤ 0
  · rw [hgA b c]
    go_enter Tryz.func75, Tryz.ntmps75
    go_wp2
    go_ret
    exact ⟨rfl, rfl⟩
  · by_cases d : 64 ≤ b
    · rw [hgB b c d]
      go_enter Tryz.func75, Tryz.ntmps75
      go_wp2
      go_ret
      exact ⟨rfl, rfl⟩
    · have e := hg_sh b (by omega) (by omega)
      rw [Nat.min_eq_left (by omega)] at e
      have u : IntKind.u64.wrap (64 - b) = 64 - b := by rw [IntKind.wrap_u64]; omega
      go_enter Tryz.func75, Tryz.ntmps75
      go_wp2
      go_ret
      exact ⟨rfl, rfl⟩

end Go.Proofs.YtmbmekcppmbokaaGreat
