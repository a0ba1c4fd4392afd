/-
  The specification's text of an address of 128 bits, by its plain twin; nothing old in memory turns.
-/
import Derived.Test.YtnchndcanhmbeaaGreatDoorDSTxt
import Derived.Test.YtnchndcanhmbeaaGreatDoorDPlain
namespace Go.Proofs.YtnchndcanhmbeaaGreatDoor
open Go.RowKit

theorem best_bd (g : Nat → Int) : ∀ k, k ≤ 8 → (best g k).1 ≤ 8 ∧ 1 ≤ (best g k).2 ∧ (best g k).2 ≤ 8 ∧ ((best g k).1 < 8 → (best g k).1 + (best g k).2 ≤ 8)
  | 0, _ => by simp [best]
  | i + 1, h => by
      have ih := best_bd g i (by omega)
      have hr := run_le g (8 - i) i
      unfold best
      split
      · refine ⟨by omega, ?_, by omega, fun _ => ?_⟩ <;> simp only <;> omega
      · exact ih
theorem asm_at (g : Nat → Int) (hx : Int → List UInt8) (f l i : Nat) (hi : i < 8) : asm g hx f l (8 - i) 0 = if i = f then [58, 58] ++ asm g hx f l (7 - i) (l - 1) else (if 0 < i ∧ i ≠ f + l then [58] else []) ++ hx (g i) ++ asm g hx f l (7 - i) 0 := by
  obtain ⟨k, hk⟩ : ∃ k, 8 - i = k + 1 := ⟨7 - i, by omega⟩
  rw [hk, show 7 - i = k from by omega, asm, show 7 - k = i from by omega]
theorem hexs_len (x : Int) : (hexs x).length ≤ 4 := by unfold hexs; split; simp [l0]; split; simp [l1]; split <;> simp [l2, l3]

end Go.Proofs.YtnchndcanhmbeaaGreatDoor
