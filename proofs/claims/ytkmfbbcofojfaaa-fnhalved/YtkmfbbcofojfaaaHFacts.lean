/-
  Plain facts on the halves of a prefix: the upper one's first address is the lower one's last and one more; they rise. No program is named.
-/
import Derived.Test.YtkmfbbcofojfaaaBPlain
namespace Go.Proofs.Ytkmfbbcofojfaaa
open Go.RowKit

theorem ml_all (n : Nat) (h : 64 ≤ n) : ml n = BitVec.allOnes 64 := by simp [ml, h]
theorem ml_nat (n : Nat) (h : n < 64) : (ml n).toNat = 2 ^ n - 1 := by
  have : ∀ k : Fin 64, (ml k.val).toNat = 2 ^ k.val - 1 := by decide
  exact this ⟨n, h⟩
/-- the bit that parts the halves -/
theorem ml_bitn (n : Nat) (h : n < 64) : (ml (n + 1) &&& ~~~ ml n).toNat = 2 ^ n := by
  have : ∀ k : Fin 64, (ml (k.val + 1) &&& ~~~ ml k.val).toNat = 2 ^ k.val := by decide
  exact this ⟨n, h⟩
theorem disj_ml (n m : Nat) (hm : m ≤ n) (L : BitVec 64) (h : L &&& ~~~ ml n = L) : L &&& ml m = 0#64 := by
  rw [← h]
  apply BitVec.eq_of_getLsbD_eq
  intro i hi
  simp only [BitVec.getLsbD_and, BitVec.getLsbD_not, ml_bit, hi, decide_true, Bool.true_and, BitVec.getLsbD_zero]
  by_cases a : i < n <;> by_cases b : i < m <;> simp [a, b] <;> omega
theorem or_nat (x y : BitVec 64) (h : x &&& y = 0#64) : (x ||| y).toNat = x.toNat + y.toNat := by
  rw [← BitVec.add_eq_or_of_and_eq_zero x y h]
  exact BitVec.toNat_add_of_and_eq_zero h
/-- a word whose last n + 1 bits are 0, filled by n bits: so much more -/
theorem fill_nat (n : Nat) (h : n < 64) (L : BitVec 64) (hL : L &&& ~~~ ml (n + 1) = L) : (L ||| ml n).toNat = L.toNat + (2 ^ n - 1) := by
  rw [or_nat L _ (disj_ml (n + 1) n (by omega) L hL), ml_nat n h]
theorem up_eq (n : Nat) (L : BitVec 64) (hL : L &&& ~~~ ml (n + 1) = L) : (L ||| ml (n + 1)) &&& ~~~ ml n = L ||| (ml (n + 1) &&& ~~~ ml n) := by
  conv => lhs; rw [← hL]
  conv => rhs; rw [← hL]
  apply BitVec.eq_of_getLsbD_eq
  intro i hi
  simp only [BitVec.getLsbD_and, BitVec.getLsbD_or, BitVec.getLsbD_not, ml_bit, hi, decide_true, Bool.true_and]
  by_cases a : i < n + 1 <;> by_cases b : i < n <;> simp [a, b] <;> omega
theorem up_nat (n : Nat) (h : n < 64) (L : BitVec 64) (hL : L &&& ~~~ ml (n + 1) = L) : ((L ||| ml (n + 1)) &&& ~~~ ml n).toNat = L.toNat + 2 ^ n := by
  have hd : L &&& (ml (n + 1) &&& ~~~ ml n) = 0#64 := by rw [← BitVec.and_assoc, disj_ml (n + 1) (n + 1) (Nat.le_refl _) L hL]; simp
  rw [up_eq n L hL, or_nat _ _ hd, ml_bitn n h]

/-- below 64 bits: the upper word is the same, the lower one rises by 2^k; its last and one more is the upper half's first -/
theorem half_lo (k : Nat) (hk : k < 64) (H L : BitVec 64) (hL : cL (k + 1) L = L) :
    cH k (fH (k + 1) H) = H ∧ fH k H = H ∧ (cL k (fL (k + 1) L)).toNat = (fL k L).toNat + 1 ∧ L.toNat < (cL k (fL (k + 1) L)).toNat := by
  have m1 : mh (k + 1) = 0 := by
    have : ∀ j : Fin 64, mh (j.val + 1) = 0 := by decide
    exact this ⟨k, hk⟩
  have m0 : mh k = 0 := by
    have : ∀ j : Fin 64, mh j.val = 0 := by decide
    exact this ⟨k, hk⟩
  have h1 := fill_nat k hk L hL
  have h2 := up_nat k hk L hL
  have h3 : 0 < 2 ^ k := Nat.two_pow_pos k
  refine ⟨by rw [cH, fH, m1, m0, show (0 : BitVec 64) = 0#64 from rfl, BitVec.or_zero, show ~~~ (0#64) = BitVec.allOnes 64 by decide, BitVec.and_allOnes], by rw [fH, m0, show (0 : BitVec 64) = 0#64 from rfl, BitVec.or_zero], ?_, ?_⟩
  · show ((L ||| ml (k + 1)) &&& ~~~ ml k).toNat = (L ||| ml k).toNat + 1
    omega
  · show L.toNat < ((L ||| ml (k + 1)) &&& ~~~ ml k).toNat
    omega
/-- from 64 bits on: the lower word is all ones and then 0, the upper one rises -/
theorem half_hi (k : Nat) (h64 : 64 ≤ k) (hk : k < 128) (H L : BitVec 64) (hH : cH (k + 1) H = H) :
    cL k (fL (k + 1) L) = 0 ∧ fL k L = BitVec.allOnes 64 ∧ (cH k (fH (k + 1) H)).toNat = (fH k H).toNat + 1 ∧ H.toNat < (cH k (fH (k + 1) H)).toNat := by
  obtain ⟨j, rfl⟩ : ∃ j, k = j + 64 := ⟨k - 64, by omega⟩
  have e1 : mh (j + 64 + 1) = ml (j + 1) := by simp only [mh]; congr 1
  have e0 : mh (j + 64) = ml j := by simp only [mh]; congr 1
  have hH' : H &&& ~~~ ml (j + 1) = H := by rw [← e1]; exact hH
  have h1 := fill_nat j (by omega) H hH'
  have h2 := up_nat j (by omega) H hH'
  have h3 : 0 < 2 ^ j := Nat.two_pow_pos j
  refine ⟨by simp [cL, ml_all (j + 64) (by omega)], by rw [fL, ml_all (j + 64) (by omega), BitVec.or_allOnes], ?_, ?_⟩
  · show ((H ||| mh (j + 64 + 1)) &&& ~~~ mh (j + 64)).toNat = (H ||| mh (j + 64)).toNat + 1
    rw [e1, e0]; omega
  · show H.toNat < ((H ||| mh (j + 64 + 1)) &&& ~~~ mh (j + 64)).toNat
    rw [e1, e0]; omega

end Go.Proofs.Ytkmfbbcofojfaaa
