/-
  Plain twins of the two texts of 128 bits: the longest row of noughts, and the texts; they are one and the same.
-/
import Derived.Lib.Strings
namespace Go.Proofs.YtnchndcanhmbeaaGreatDoor

/-- How many noughts stand from place i on (f: how many places are left). -/
def run (g : Nat → Int) : Nat → Nat → Nat
  | 0, _ => 0
  | f + 1, i => if g i = 0 then run g f (i + 1) + 1 else 0

theorem run_le (g : Nat → Int) : ∀ f i, run g f i ≤ f
  | 0, _ => Nat.le_refl _
  | f + 1, i => by unfold run; split; exact Nat.succ_le_succ (run_le g f (i + 1)); exact Nat.zero_le _

theorem run_is (g : Nat → Int) : ∀ f i m, m ≤ f → (∀ j, j < m → g (i + j) = 0) → (m = f ∨ g (i + m) ≠ 0) → run g f i = m
  | 0, i, m, hm, _, _ => by have : m = 0 := by omega
                            subst this; rfl
  | f + 1, i, 0, _, _, h => by
      unfold run
      have : g i ≠ 0 := by rcases h with h | h; omega; simpa using h
      rw [if_neg this]
  | f + 1, i, m + 1, hm, ha, h => by
      unfold run
      have h0 : g i = 0 := by simpa using ha 0 (by omega)
      rw [if_pos h0]
      congr 1
      refine run_is g f (i + 1) m (by omega) (fun j hj => ?_) ?_
      · have := ha (j + 1) (by omega); rwa [show i + 1 + j = i + (j + 1) from by omega]
      · rcases h with h | h
        · left; omega
        · right; rwa [show i + 1 + m = i + (m + 1) from by omega]

/-- The specification's search: where the longest row begins, and how long it is. -/
def best (g : Nat → Int) : Nat → Nat × Nat
  | 0 => (8, 1)
  | i + 1 => if run g (8 - i) i > (best g i).2 then (i, run g (8 - i) i) else best g i

/-- The specification's text: k places are left, sk of them are passed over. -/
def asm (g : Nat → Int) (hx : Int → List UInt8) (f l : Nat) : Nat → Nat → List UInt8
  | 0, _ => []
  | k + 1, sk + 1 => asm g hx f l k sk
  | k + 1, 0 => if 7 - k = f then [58, 58] ++ asm g hx f l k (l - 1)
      else (if 0 < 7 - k ∧ 7 - k ≠ f + l then [58] else []) ++ hx (g (7 - k)) ++ asm g hx f l k 0

theorem asm_skip (g : Nat → Int) (hx : Int → List UInt8) (f l : Nat) : ∀ k sk, sk ≤ k → asm g hx f l k sk = asm g hx f l (k - sk) 0
  | k, 0, _ => rfl
  | 0, sk + 1, h => by omega
  | k + 1, sk + 1, h => by
      show asm g hx f l k sk = _
      rw [asm_skip g hx f l k sk (by omega), show k + 1 - (sk + 1) = k - sk from by omega]

/-- The program's search: where the longest row begins, the place behind it, where the row at hand begins. -/
def lrow (g : Nat → Int) : Nat → Nat × Nat × Nat
  | 0 => (0, 0, 0)
  | i + 1 => if g i = 0 then (if i + 1 - (lrow g i).2.2 > (lrow g i).2.1 - (lrow g i).1 then ((lrow g i).2.2, i + 1, (lrow g i).2.2) else lrow g i)
      else ((lrow g i).1, (lrow g i).2.1, i + 1)

end Go.Proofs.YtnchndcanhmbeaaGreatDoor
