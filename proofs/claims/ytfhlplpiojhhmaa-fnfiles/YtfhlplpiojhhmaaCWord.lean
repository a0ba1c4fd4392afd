/-
  The bytes of a word, the highest first: the program's wordBytes and the specification's l3Great, each by that; the row that is handed back is new, nothing old turns.
-/
import Derived.Test.YtfhlplpiojhhmaaCApp
namespace Go.Proofs.Ytfhlplpiojhhmaa
open Go.RowKit

/-- The byte i of a word, from the lowest. -/
def byteAt (n : Int) (i : Nat) : Int := n / 2 ^ (8 * i) % 256
def big (n : Int) (c : Nat) : List Int := (List.range c).map fun (j : Nat) => byteAt n (c - 1 - j)
theorem big_len (n : Int) (c : Nat) : (big n c).length = c := by simp [big]
theorem byteAt_bd (n : Int) (i : Nat) : 0 ≤ byteAt n i ∧ byteAt n i ≤ 255 := by unfold byteAt; omega
theorem big_oct (n : Int) (c : Nat) : Oct (big n c) := by
  intro z hz
  obtain ⟨j, _, rfl⟩ := List.mem_map.1 hz
  exact byteAt_bd _ _
/-- Those that are written already, from the end on. -/
def part (n : Int) (c i : Nat) : List Int := (List.range c).map fun (j : Nat) => if c - i ≤ j then byteAt n (c - 1 - j) else 0
theorem part_len (n : Int) (c i : Nat) : (part n c i).length = c := by simp [part]
theorem part_zero (n : Int) (c : Nat) : part n c 0 = List.replicate c 0 := by
  apply List.ext_getElem?
  intro j
  simp only [part, List.getElem?_map, List.getElem?_replicate]
  by_cases hj : j < c
  · rw [List.getElem?_range hj]; simp; omega
  · rw [List.getElem?_eq_none (by simp; omega)]; simp [hj]
theorem part_all (n : Int) (c : Nat) : part n c c = big n c := by
  unfold part big; apply List.map_congr_left; intro j hj; rw [if_pos (by omega)]
theorem part_step (n : Int) (c i : Nat) (hi : i < c) : ((part n c i).map (Value.int .u8)).set (c - 1 - i) (.int .u8 (byteAt n i)) = (part n c (i + 1)).map (Value.int .u8) := by
  apply List.ext_getElem?
  intro j
  rw [List.getElem?_set]
  simp only [part, List.getElem?_map, List.length_map, List.length_range]
  by_cases hj : j < c
  · rw [List.getElem?_range hj]
    by_cases e : c - 1 - i = j
    · subst e
      simp only [if_true, Option.map_some]
      rw [if_pos (by omega), if_pos (by omega), show c - 1 - (c - 1 - i) = i from by omega]
    · rw [if_neg e]
      simp only [Option.map_some, Option.some.injEq, Value.int.injEq, true_and]
      by_cases h : c - i ≤ j
      · rw [if_pos h, if_pos (by omega)]
      · rw [if_neg h, if_neg (by omega)]
  · rw [if_neg (by omega), List.getElem?_eq_none (by simp; omega)]; rfl
theorem shr_u (n : Int) (k : Nat) (hk : k < 8) : IntKind.u64.wrap n / 2 ^ (8 * k) % 256 = byteAt n k := by
  unfold byteAt; rw [IntKind.wrap_u64]
  have h : k = 0 ∨ k = 1 ∨ k = 2 ∨ k = 3 ∨ k = 4 ∨ k = 5 ∨ k = 6 ∨ k = 7 := by omega
  rcases h with rfl | rfl | rfl | rfl | rfl | rfl | rfl | rfl <;> (simp only [Nat.mul_zero, Nat.mul_one, Nat.reduceMul, Int.reducePow, Int.pow_zero]; omega)

/-- The first i bytes. -/
def bigTo (n : Int) (c i : Nat) : List Int := (List.range i).map fun (j : Nat) => byteAt n (c - 1 - j)
theorem bigTo_succ (n : Int) (c i : Nat) : bigTo n c (i + 1) = bigTo n c i ++ [byteAt n (c - 1 - i)] := by simp [bigTo, List.range_succ]
theorem bigTo_len (n : Int) (c i : Nat) : (bigTo n c i).length = i := by simp [bigTo]

end Go.Proofs.Ytfhlplpiojhhmaa
