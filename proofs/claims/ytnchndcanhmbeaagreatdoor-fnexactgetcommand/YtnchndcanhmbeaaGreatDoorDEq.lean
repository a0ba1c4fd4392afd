/-
  The specification's text of eight groups and the program's are one and the same.
-/
import Derived.Test.YtnchndcanhmbeaaGreatDoorDTxt
namespace Go.Proofs.YtnchndcanhmbeaaGreatDoor

def runB (p : Nat → Bool) : Nat → Nat → Nat
  | 0, _ => 0
  | f + 1, i => if p i = true then runB p f (i + 1) + 1 else 0
def bestB (p : Nat → Bool) : Nat → Nat × Nat
  | 0 => (8, 1)
  | i + 1 => if runB p (8 - i) i > (bestB p i).2 then (i, runB p (8 - i) i) else bestB p i
def lrowB (p : Nat → Bool) : Nat → Nat × Nat × Nat
  | 0 => (0, 0, 0)
  | i + 1 => if p i = true then (if i + 1 - (lrowB p i).2.2 > (lrowB p i).2.1 - (lrowB p i).1 then ((lrowB p i).2.2, i + 1, (lrowB p i).2.2) else lrowB p i)
      else ((lrowB p i).1, (lrowB p i).2.1, i + 1)
def pt (b0 b1 b2 b3 b4 b5 b6 b7 : Bool) : Nat → Bool
  | 0 => b0 | 1 => b1 | 2 => b2 | 3 => b3 | 4 => b4 | 5 => b5 | 6 => b6 | 7 => b7 | _ => false

theorem run_B (g : Nat → Int) (p : Nat → Bool) (h : ∀ i, i < 8 → (p i = true ↔ g i = 0)) : ∀ f i, f + i ≤ 8 → run g f i = runB p f i
  | 0, _, _ => rfl
  | f + 1, i, hi => by
      have ih := run_B g p h f (i + 1) (by omega)
      have hp := h i (by omega)
      unfold run runB
      by_cases e : g i = 0
      · rw [if_pos e, if_pos (hp.2 e), ih]
      · rw [if_neg e, if_neg (fun c => e (hp.1 c))]
theorem best_B (g : Nat → Int) (p : Nat → Bool) (h : ∀ i, i < 8 → (p i = true ↔ g i = 0)) : ∀ k, k ≤ 8 → best g k = bestB p k
  | 0, _ => rfl
  | i + 1, hi => by unfold best bestB; rw [best_B g p h i (by omega), run_B g p h (8 - i) i (by omega)]
theorem lrow_B (g : Nat → Int) (p : Nat → Bool) (h : ∀ i, i < 8 → (p i = true ↔ g i = 0)) : ∀ k, k ≤ 8 → lrow g k = lrowB p k
  | 0, _ => rfl
  | i + 1, hi => by
      have hp := h i (by omega)
      unfold lrow lrowB
      rw [lrow_B g p h i (by omega)]
      by_cases e : g i = 0
      · rw [if_pos e, if_pos (hp.2 e)]
      · rw [if_neg e, if_neg (fun c => e (hp.1 c))]

/-- Both searches find one and the same row, whichever groups are noughts. -/
theorem rows_B : ∀ b0 b1 b2 b3 b4 b5 b6 b7 : Bool, ((lrowB (pt b0 b1 b2 b3 b4 b5 b6 b7) 8).2.1 - (lrowB (pt b0 b1 b2 b3 b4 b5 b6 b7) 8).1 < 2 ∧ bestB (pt b0 b1 b2 b3 b4 b5 b6 b7) 8 = (8, 1)) ∨
    (¬ (lrowB (pt b0 b1 b2 b3 b4 b5 b6 b7) 8).2.1 - (lrowB (pt b0 b1 b2 b3 b4 b5 b6 b7) 8).1 < 2 ∧ bestB (pt b0 b1 b2 b3 b4 b5 b6 b7) 8 = ((lrowB (pt b0 b1 b2 b3 b4 b5 b6 b7) 8).1, (lrowB (pt b0 b1 b2 b3 b4 b5 b6 b7) 8).2.1 - (lrowB (pt b0 b1 b2 b3 b4 b5 b6 b7) 8).1)) := by decide +kernel

theorem rows_eq (g : Nat → Int) : ((lrow g 8).2.1 - (lrow g 8).1 < 2 ∧ best g 8 = (8, 1)) ∨ (¬ (lrow g 8).2.1 - (lrow g 8).1 < 2 ∧ best g 8 = ((lrow g 8).1, (lrow g 8).2.1 - (lrow g 8).1)) := by
  have h : ∀ i, i < 8 → (pt (decide (g 0 = 0)) (decide (g 1 = 0)) (decide (g 2 = 0)) (decide (g 3 = 0)) (decide (g 4 = 0)) (decide (g 5 = 0)) (decide (g 6 = 0)) (decide (g 7 = 0)) i = true ↔ g i = 0) := by
    intro i hi
    have : i = 0 ∨ i = 1 ∨ i = 2 ∨ i = 3 ∨ i = 4 ∨ i = 5 ∨ i = 6 ∨ i = 7 := by omega
    rcases this with rfl | rfl | rfl | rfl | rfl | rfl | rfl | rfl <;> simp [pt]
  rw [best_B g _ h 8 (by omega), lrow_B g _ h 8 (by omega)]
  exact rows_B _ _ _ _ _ _ _ _

theorem eqA (g : Nat → Int) : asm g hexs 8 1 8 0 = Lib.join ((List.range 8).map fun j => hexs (g (0 + j))) [58] := by
  simp [asm, Lib.join, List.intercalate, List.range_succ]
theorem eqB_0_2 (g : Nat → Int) : asm g hexs 0 2 8 0 = Lib.join ((List.range 0).map fun j => hexs (g (0 + j))) [58] ++ [58, 58] ++ Lib.join ((List.range 6).map fun j => hexs (g (2 + j))) [58] := by
  simp [asm, Lib.join, List.intercalate, List.range_succ]
theorem eqB_0_3 (g : Nat → Int) : asm g hexs 0 3 8 0 = Lib.join ((List.range 0).map fun j => hexs (g (0 + j))) [58] ++ [58, 58] ++ Lib.join ((List.range 5).map fun j => hexs (g (3 + j))) [58] := by
  simp [asm, Lib.join, List.intercalate, List.range_succ]
theorem eqB_0_4 (g : Nat → Int) : asm g hexs 0 4 8 0 = Lib.join ((List.range 0).map fun j => hexs (g (0 + j))) [58] ++ [58, 58] ++ Lib.join ((List.range 4).map fun j => hexs (g (4 + j))) [58] := by
  simp [asm, Lib.join, List.intercalate, List.range_succ]
theorem eqB_0_5 (g : Nat → Int) : asm g hexs 0 5 8 0 = Lib.join ((List.range 0).map fun j => hexs (g (0 + j))) [58] ++ [58, 58] ++ Lib.join ((List.range 3).map fun j => hexs (g (5 + j))) [58] := by
  simp [asm, Lib.join, List.intercalate, List.range_succ]
theorem eqB_0_6 (g : Nat → Int) : asm g hexs 0 6 8 0 = Lib.join ((List.range 0).map fun j => hexs (g (0 + j))) [58] ++ [58, 58] ++ Lib.join ((List.range 2).map fun j => hexs (g (6 + j))) [58] := by
  simp [asm, Lib.join, List.intercalate, List.range_succ]
theorem eqB_0_7 (g : Nat → Int) : asm g hexs 0 7 8 0 = Lib.join ((List.range 0).map fun j => hexs (g (0 + j))) [58] ++ [58, 58] ++ Lib.join ((List.range 1).map fun j => hexs (g (7 + j))) [58] := by
  simp [asm, Lib.join, List.intercalate, List.range_succ]
theorem eqB_0_8 (g : Nat → Int) : asm g hexs 0 8 8 0 = Lib.join ((List.range 0).map fun j => hexs (g (0 + j))) [58] ++ [58, 58] ++ Lib.join ((List.range 0).map fun j => hexs (g (8 + j))) [58] := by
  simp [asm, Lib.join, List.intercalate]
theorem eqB_1_3 (g : Nat → Int) : asm g hexs 1 2 8 0 = Lib.join ((List.range 1).map fun j => hexs (g (0 + j))) [58] ++ [58, 58] ++ Lib.join ((List.range 5).map fun j => hexs (g (3 + j))) [58] := by
  simp [asm, Lib.join, List.intercalate, List.range_succ]
theorem eqB_1_4 (g : Nat → Int) : asm g hexs 1 3 8 0 = Lib.join ((List.range 1).map fun j => hexs (g (0 + j))) [58] ++ [58, 58] ++ Lib.join ((List.range 4).map fun j => hexs (g (4 + j))) [58] := by
  simp [asm, Lib.join, List.intercalate, List.range_succ]
theorem eqB_1_5 (g : Nat → Int) : asm g hexs 1 4 8 0 = Lib.join ((List.range 1).map fun j => hexs (g (0 + j))) [58] ++ [58, 58] ++ Lib.join ((List.range 3).map fun j => hexs (g (5 + j))) [58] := by
  simp [asm, Lib.join, List.intercalate, List.range_succ]
theorem eqB_1_6 (g : Nat → Int) : asm g hexs 1 5 8 0 = Lib.join ((List.range 1).map fun j => hexs (g (0 + j))) [58] ++ [58, 58] ++ Lib.join ((List.range 2).map fun j => hexs (g (6 + j))) [58] := by
  simp [asm, Lib.join, List.intercalate, List.range_succ]
theorem eqB_1_7 (g : Nat → Int) : asm g hexs 1 6 8 0 = Lib.join ((List.range 1).map fun j => hexs (g (0 + j))) [58] ++ [58, 58] ++ Lib.join ((List.range 1).map fun j => hexs (g (7 + j))) [58] := by
  simp [asm, Lib.join, List.intercalate, List.range_succ]
theorem eqB_1_8 (g : Nat → Int) : asm g hexs 1 7 8 0 = Lib.join ((List.range 1).map fun j => hexs (g (0 + j))) [58] ++ [58, 58] ++ Lib.join ((List.range 0).map fun j => hexs (g (8 + j))) [58] := by
  simp [asm, Lib.join, List.intercalate, List.range_succ]
theorem eqB_2_4 (g : Nat → Int) : asm g hexs 2 2 8 0 = Lib.join ((List.range 2).map fun j => hexs (g (0 + j))) [58] ++ [58, 58] ++ Lib.join ((List.range 4).map fun j => hexs (g (4 + j))) [58] := by
  simp [asm, Lib.join, List.intercalate, List.range_succ]
theorem eqB_2_5 (g : Nat → Int) : asm g hexs 2 3 8 0 = Lib.join ((List.range 2).map fun j => hexs (g (0 + j))) [58] ++ [58, 58] ++ Lib.join ((List.range 3).map fun j => hexs (g (5 + j))) [58] := by
  simp [asm, Lib.join, List.intercalate, List.range_succ]
theorem eqB_2_6 (g : Nat → Int) : asm g hexs 2 4 8 0 = Lib.join ((List.range 2).map fun j => hexs (g (0 + j))) [58] ++ [58, 58] ++ Lib.join ((List.range 2).map fun j => hexs (g (6 + j))) [58] := by
  simp [asm, Lib.join, List.intercalate, List.range_succ]
theorem eqB_2_7 (g : Nat → Int) : asm g hexs 2 5 8 0 = Lib.join ((List.range 2).map fun j => hexs (g (0 + j))) [58] ++ [58, 58] ++ Lib.join ((List.range 1).map fun j => hexs (g (7 + j))) [58] := by
  simp [asm, Lib.join, List.intercalate, List.range_succ]
theorem eqB_2_8 (g : Nat → Int) : asm g hexs 2 6 8 0 = Lib.join ((List.range 2).map fun j => hexs (g (0 + j))) [58] ++ [58, 58] ++ Lib.join ((List.range 0).map fun j => hexs (g (8 + j))) [58] := by
  simp [asm, Lib.join, List.intercalate, List.range_succ]
theorem eqB_3_5 (g : Nat → Int) : asm g hexs 3 2 8 0 = Lib.join ((List.range 3).map fun j => hexs (g (0 + j))) [58] ++ [58, 58] ++ Lib.join ((List.range 3).map fun j => hexs (g (5 + j))) [58] := by
  simp [asm, Lib.join, List.intercalate, List.range_succ]
theorem eqB_3_6 (g : Nat → Int) : asm g hexs 3 3 8 0 = Lib.join ((List.range 3).map fun j => hexs (g (0 + j))) [58] ++ [58, 58] ++ Lib.join ((List.range 2).map fun j => hexs (g (6 + j))) [58] := by
  simp [asm, Lib.join, List.intercalate, List.range_succ]
theorem eqB_3_7 (g : Nat → Int) : asm g hexs 3 4 8 0 = Lib.join ((List.range 3).map fun j => hexs (g (0 + j))) [58] ++ [58, 58] ++ Lib.join ((List.range 1).map fun j => hexs (g (7 + j))) [58] := by
  simp [asm, Lib.join, List.intercalate, List.range_succ]
theorem eqB_3_8 (g : Nat → Int) : asm g hexs 3 5 8 0 = Lib.join ((List.range 3).map fun j => hexs (g (0 + j))) [58] ++ [58, 58] ++ Lib.join ((List.range 0).map fun j => hexs (g (8 + j))) [58] := by
  simp [asm, Lib.join, List.intercalate, List.range_succ]
theorem eqB_4_6 (g : Nat → Int) : asm g hexs 4 2 8 0 = Lib.join ((List.range 4).map fun j => hexs (g (0 + j))) [58] ++ [58, 58] ++ Lib.join ((List.range 2).map fun j => hexs (g (6 + j))) [58] := by
  simp [asm, Lib.join, List.intercalate, List.range_succ]
theorem eqB_4_7 (g : Nat → Int) : asm g hexs 4 3 8 0 = Lib.join ((List.range 4).map fun j => hexs (g (0 + j))) [58] ++ [58, 58] ++ Lib.join ((List.range 1).map fun j => hexs (g (7 + j))) [58] := by
  simp [asm, Lib.join, List.intercalate, List.range_succ]
theorem eqB_4_8 (g : Nat → Int) : asm g hexs 4 4 8 0 = Lib.join ((List.range 4).map fun j => hexs (g (0 + j))) [58] ++ [58, 58] ++ Lib.join ((List.range 0).map fun j => hexs (g (8 + j))) [58] := by
  simp [asm, Lib.join, List.intercalate, List.range_succ]
theorem eqB_5_7 (g : Nat → Int) : asm g hexs 5 2 8 0 = Lib.join ((List.range 5).map fun j => hexs (g (0 + j))) [58] ++ [58, 58] ++ Lib.join ((List.range 1).map fun j => hexs (g (7 + j))) [58] := by
  simp [asm, Lib.join, List.intercalate, List.range_succ]
theorem eqB_5_8 (g : Nat → Int) : asm g hexs 5 3 8 0 = Lib.join ((List.range 5).map fun j => hexs (g (0 + j))) [58] ++ [58, 58] ++ Lib.join ((List.range 0).map fun j => hexs (g (8 + j))) [58] := by
  simp [asm, Lib.join, List.intercalate, List.range_succ]
theorem eqB_6_8 (g : Nat → Int) : asm g hexs 6 2 8 0 = Lib.join ((List.range 6).map fun j => hexs (g (0 + j))) [58] ++ [58, 58] ++ Lib.join ((List.range 0).map fun j => hexs (g (8 + j))) [58] := by
  simp [asm, Lib.join, List.intercalate, List.range_succ]

theorem eqB (g : Nat → Int) (f t : Nat) (h2 : f + 2 ≤ t) (h8 : t ≤ 8) : asm g hexs f (t - f) 8 0 = Lib.join ((List.range f).map fun j => hexs (g (0 + j))) [58] ++ [58, 58] ++ Lib.join ((List.range (8 - t)).map fun j => hexs (g (t + j))) [58] := by
  have hf : f = 0 ∨ f = 1 ∨ f = 2 ∨ f = 3 ∨ f = 4 ∨ f = 5 ∨ f = 6 := by omega
  rcases hf with rfl | rfl | rfl | rfl | rfl | rfl | rfl
  · have ht : t = 2 ∨ t = 3 ∨ t = 4 ∨ t = 5 ∨ t = 6 ∨ t = 7 ∨ t = 8 := by omega
    rcases ht with rfl | rfl | rfl | rfl | rfl | rfl | rfl
    · exact eqB_0_2 g
    · exact eqB_0_3 g
    · exact eqB_0_4 g
    · exact eqB_0_5 g
    · exact eqB_0_6 g
    · exact eqB_0_7 g
    · exact eqB_0_8 g
  · have ht : t = 3 ∨ t = 4 ∨ t = 5 ∨ t = 6 ∨ t = 7 ∨ t = 8 := by omega
    rcases ht with rfl | rfl | rfl | rfl | rfl | rfl
    · exact eqB_1_3 g
    · exact eqB_1_4 g
    · exact eqB_1_5 g
    · exact eqB_1_6 g
    · exact eqB_1_7 g
    · exact eqB_1_8 g
  · have ht : t = 4 ∨ t = 5 ∨ t = 6 ∨ t = 7 ∨ t = 8 := by omega
    rcases ht with rfl | rfl | rfl | rfl | rfl
    · exact eqB_2_4 g
    · exact eqB_2_5 g
    · exact eqB_2_6 g
    · exact eqB_2_7 g
    · exact eqB_2_8 g
  · have ht : t = 5 ∨ t = 6 ∨ t = 7 ∨ t = 8 := by omega
    rcases ht with rfl | rfl | rfl | rfl
    · exact eqB_3_5 g
    · exact eqB_3_6 g
    · exact eqB_3_7 g
    · exact eqB_3_8 g
  · have ht : t = 6 ∨ t = 7 ∨ t = 8 := by omega
    rcases ht with rfl | rfl | rfl
    · exact eqB_4_6 g
    · exact eqB_4_7 g
    · exact eqB_4_8 g
  · have ht : t = 7 ∨ t = 8 := by omega
    rcases ht with rfl | rfl
    · exact eqB_5_7 g
    · exact eqB_5_8 g
  · have ht : t = 8 := by omega
    subst ht
    exact eqB_6_8 g

theorem text_eq (g : Nat → Int) : asm g hexs (best g 8).1 (best g 8).2 8 0 = txt8 g := by
  have bd := lrow_bd g 8
  rcases rows_eq g with ⟨h, e⟩ | ⟨h, e⟩
  · rw [e, txt8, if_pos h]; exact eqA g
  · rw [e, txt8, if_neg h]; exact eqB g _ _ (by omega) (by omega)

end Go.Proofs.YtnchndcanhmbeaaGreatDoor
