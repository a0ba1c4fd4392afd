/-
  Plain facts on words of 64 bits: masks of the last bits, an address whose last bits are cleared or filled, the first bits as the specification takes them. No program is named.
-/
import Derived.WalkKit
namespace Go.Proofs.YtmbmekcppmbokaaGreat
open Go.RowKit

def ml (n : Nat) : BitVec 64 := if 64 ≤ n then BitVec.allOnes 64 else BitVec.ofNat 64 (2 ^ n - 1)
def mh (n : Nat) : BitVec 64 := ml (n - 64)
def hg (b : Int) : BitVec 64 := if b ≤ 0 then 0 else if 64 ≤ b then BitVec.allOnes 64 else BitVec.allOnes 64 <<< (64 - b).toNat

theorem wrapI (r : BitVec 64) : IntKind.wrap .i64 (r.toNat : Int) = r.toInt := by
  have h := r.isLt
  simp [IntKind.wrap, IntKind.bits, IntKind.signed, BitVec.toInt_eq_toNat_cond]
  omega
theorem wrapU (r : BitVec 64) : IntKind.wrap .u64 (r.toInt) = (r.toNat : Int) := by
  have h := r.isLt
  simp [IntKind.wrap, IntKind.bits, IntKind.signed, BitVec.toInt_eq_toNat_cond]
  split <;> omega
theorem wrapUn (r : BitVec 64) : IntKind.wrap .u64 (r.toNat) = (r.toNat : Int) := by
  have h := r.isLt
  simp [IntKind.wrap, IntKind.bits, IntKind.signed]
  omega
theorem ofN (r : BitVec 64) : BitVec.ofInt 64 (r.toNat : Int) = r := by simp
theorem ofI (r : BitVec 64) : BitVec.ofInt 64 r.toInt = r := by simp

theorem w64 (x : Int) : wrap64 x = IntKind.i64.wrap x := by rw [IntKind.wrap_i64, wrap64]

theorem bAN (H M : BitVec 64) : bits .andNot .i64 H.toInt M.toInt = (H &&& ~~~ M).toInt := by
  show IntKind.i64.wrap ((BitVec.ofInt 64 H.toInt &&& ~~~ BitVec.ofInt 64 M.toInt).toNat : Int) = _
  rw [ofI, ofI, wrapI]
theorem bOr (H M : BitVec 64) : bits .or .i64 H.toInt M.toInt = (H ||| M).toInt := by
  show IntKind.i64.wrap ((BitVec.ofInt 64 H.toInt ||| BitVec.ofInt 64 M.toInt).toNat : Int) = _
  rw [ofI, ofI, wrapI]
theorem bAnd (H M : BitVec 64) : bits .and .i64 H.toInt M.toInt = (H &&& M).toInt := by
  show IntKind.i64.wrap ((BitVec.ofInt 64 H.toInt &&& BitVec.ofInt 64 M.toInt).toNat : Int) = _
  rw [ofI, ofI, wrapI]
theorem bAndU (H M : BitVec 64) : bits .and .u64 H.toNat M.toNat = (H &&& M).toNat := by
  show IntKind.u64.wrap ((BitVec.ofInt 64 H.toNat &&& BitVec.ofInt 64 M.toNat).toNat : Int) = _
  rw [ofN, ofN, wrapUn]
theorem bOrU (H M : BitVec 64) : bits .or .u64 H.toNat M.toNat = (H ||| M).toNat := by
  show IntKind.u64.wrap ((BitVec.ofInt 64 H.toNat ||| BitVec.ofInt 64 M.toNat).toNat : Int) = _
  rw [ofN, ofN, wrapUn]

theorem lo_at (n : Nat) (h : n ≤ 128) : IntKind.wrap .i64 (IntKind.wrap .u64 (IntKind.wrap .u64 (1 * 2 ^ min n 64) - 1)) = (ml n).toInt := by
  have : ∀ k : Fin 129, IntKind.wrap .i64 (IntKind.wrap .u64 (IntKind.wrap .u64 (1 * 2 ^ min k.val 64) - 1)) = (ml k.val).toInt := by decide
  exact this ⟨n, by omega⟩
theorem hg_sh (b : Int) (h : 0 < b) (h1 : b < 64) : IntKind.wrap .u64 (18446744073709551615 * 2 ^ min (64 - b).toNat 64) = (hg b).toNat := by
  have : ∀ k : Fin 64, 0 < k.val → IntKind.wrap .u64 (18446744073709551615 * 2 ^ min (64 - (k.val : Int)).toNat 64) = (hg (k.val : Int)).toNat := by decide
  have := this ⟨b.toNat, by omega⟩ (by simp; omega)
  simpa [Int.toNat_of_nonneg (Int.le_of_lt h)] using this
theorem hg_hi (n : Nat) (h : n ≤ 128) : hg (128 - (n : Int)) = ~~~ mh n := by
  have : ∀ k : Fin 129, hg (128 - (k.val : Int)) = ~~~ mh k.val := by decide
  exact this ⟨n, by omega⟩
theorem hg_lo (n : Nat) (h : n ≤ 128) : hg (128 - (n : Int) - 64) = ~~~ ml n := by
  have : ∀ k : Fin 129, hg (128 - (k.val : Int) - 64) = ~~~ ml k.val := by decide
  exact this ⟨n, by omega⟩
theorem hg_32 (n : Nat) (h : n ≤ 32) : 0xFFFFFFFF#64 &&& ~~~ ml n = hg (32 - (n : Int)) >>> 32 := by
  have : ∀ k : Fin 33, 0xFFFFFFFF#64 &&& ~~~ ml k.val = hg (32 - (k.val : Int)) >>> 32 := by decide
  exact this ⟨n, by omega⟩
theorem ng_32 (n : Nat) (h : n ≤ 32) : (~~~ hg (32 - (n : Int))) >>> 32 = ml n := by
  have : ∀ k : Fin 33, (~~~ hg (32 - (k.val : Int))) >>> 32 = ml k.val := by decide
  exact this ⟨n, by omega⟩
theorem mh_32 (n : Nat) (h : n ≤ 32) : mh n = 0 := by
  have : ∀ k : Fin 33, mh k.val = 0 := by decide
  exact this ⟨n, by omega⟩
theorem low32 (L : BitVec 64) (h : L.toNat < 4294967296) : L = L &&& 0xFFFFFFFF#64 := by
  apply BitVec.eq_of_toNat_eq
  rw [BitVec.toNat_and]
  have := Nat.and_two_pow_sub_one_eq_mod L.toNat 32
  simp at this ⊢
  omega
theorem msk32 (L : BitVec 64) (h : L.toNat < 4294967296) (n : Nat) (hn : n ≤ 32) : L &&& (hg (32 - (n : Int)) >>> 32) = L &&& ~~~ ml n := by
  rw [← hg_32 n hn, ← BitVec.and_assoc, ← low32 L h]
theorem shr32 (r : BitVec 64) : ((r.toNat : Int).fdiv (2 ^ 32)) = ((r >>> 32).toNat : Int) := by
  simp [BitVec.toNat_ushiftRight, Nat.shiftRight_eq_div_pow]
  rw [Int.fdiv_eq_ediv_of_nonneg _ (by decide)]
theorem ml_lt (n : Nat) (h : n ≤ 32) : (ml n).toNat < 4294967296 := by
  have : ∀ k : Fin 33, (ml k.val).toNat < 4294967296 := by decide
  exact this ⟨n, by omega⟩
theorem or_lt32 (L M : BitVec 64) (h : L.toNat < 4294967296) (h1 : M.toNat < 4294967296) : (L ||| M).toNat < 4294967296 := by
  rw [BitVec.toNat_or]
  exact Nat.or_lt_two_pow (n := 32) h h1
theorem and_lt32 (L M : BitVec 64) (h : L.toNat < 4294967296) : (L &&& M).toNat < 4294967296 := by
  rw [BitVec.toNat_and]
  exact Nat.lt_of_le_of_lt Nat.and_le_left h

theorem ml_bit (n i : Nat) : (ml n).getLsbD i = (decide (i < 64) && decide (i < n)) := by
  unfold ml
  split
  · rw [BitVec.getLsbD_allOnes]
    by_cases a : i < 64
    · simp only [a, decide_true, Bool.true_and]
      exact (decide_eq_true (by omega)).symm
    · simp only [a, decide_false, Bool.false_and]
  · rw [BitVec.getLsbD_ofNat, Nat.testBit_two_pow_sub_one]
theorem mh_bit (n i : Nat) : (mh n).getLsbD i = (decide (i < 64) && decide (i + 64 < n)) := by
  rw [mh, ml_bit]
  congr 1
  exact decide_eq_decide.mpr (by omega)

/-- cleared and filled -/
def cH (n : Nat) (H : BitVec 64) := H &&& ~~~ mh n
def cL (n : Nat) (L : BitVec 64) := L &&& ~~~ ml n
def fH (n : Nat) (H : BitVec 64) := H ||| mh n
def fL (n : Nat) (L : BitVec 64) := L ||| ml n

theorem cH_less (n : Nat) (H : BitVec 64) (h : cH (n + 1) H = H) : cH n H = H := by
  rw [← h]
  apply BitVec.eq_of_getLsbD_eq
  intro i hi
  simp only [cH, BitVec.getLsbD_and, BitVec.getLsbD_not, mh_bit, hi, decide_true, Bool.true_and]
  by_cases a : i + 64 < n + 1 <;> by_cases b : i + 64 < n <;> simp [a, b] <;> omega
theorem cL_less (n : Nat) (L : BitVec 64) (h : cL (n + 1) L = L) : cL n L = L := by
  rw [← h]
  apply BitVec.eq_of_getLsbD_eq
  intro i hi
  simp only [cL, BitVec.getLsbD_and, BitVec.getLsbD_not, ml_bit, hi, decide_true, Bool.true_and]
  by_cases a : i < n + 1 <;> by_cases b : i < n <;> simp [a, b] <;> omega
theorem cH_idem (n : Nat) (H : BitVec 64) : cH n (cH n H) = cH n H := by
  simp [cH, BitVec.and_assoc]
theorem cL_idem (n : Nat) (L : BitVec 64) : cL n (cL n L) = cL n L := by
  simp [cL, BitVec.and_assoc]
/-- the upper half lies in the whole -/
theorem up_cH (n : Nat) (H : BitVec 64) (h : cH (n + 1) H = H) : cH (n + 1) (cH n (fH (n + 1) H)) = H := by
  conv => rhs; rw [← h]
  apply BitVec.eq_of_getLsbD_eq
  intro i hi
  simp only [cH, fH, BitVec.getLsbD_and, BitVec.getLsbD_or, BitVec.getLsbD_not, mh_bit, hi, decide_true, Bool.true_and]
  by_cases a : i + 64 < n + 1 <;> by_cases b : i + 64 < n <;> simp [a, b] <;> omega
theorem up_cL (n : Nat) (L : BitVec 64) (h : cL (n + 1) L = L) : cL (n + 1) (cL n (fL (n + 1) L)) = L := by
  conv => rhs; rw [← h]
  apply BitVec.eq_of_getLsbD_eq
  intro i hi
  simp only [cL, fL, BitVec.getLsbD_and, BitVec.getLsbD_or, BitVec.getLsbD_not, ml_bit, hi, decide_true, Bool.true_and]
  by_cases a : i < n + 1 <;> by_cases b : i < n <;> simp [a, b] <;> omega
/-- the upper half's last is the whole's last -/
theorem up_fH (n : Nat) (H : BitVec 64) : fH n (cH n (fH (n + 1) H)) = fH (n + 1) H := by
  apply BitVec.eq_of_getLsbD_eq
  intro i hi
  simp only [cH, fH, BitVec.getLsbD_and, BitVec.getLsbD_or, BitVec.getLsbD_not, mh_bit, hi, decide_true, Bool.true_and]
  by_cases a : i + 64 < n + 1 <;> by_cases b : i + 64 < n <;> simp [a, b] <;> omega
theorem up_fL (n : Nat) (L : BitVec 64) : fL n (cL n (fL (n + 1) L)) = fL (n + 1) L := by
  apply BitVec.eq_of_getLsbD_eq
  intro i hi
  simp only [cL, fL, BitVec.getLsbD_and, BitVec.getLsbD_or, BitVec.getLsbD_not, ml_bit, hi, decide_true, Bool.true_and]
  by_cases a : i < n + 1 <;> by_cases b : i < n <;> simp [a, b] <;> omega
/-- the halves are two -/
theorem up_neL (n : Nat) (hn : n < 64) (L : BitVec 64) (h : cL (n + 1) L = L) : cL n (fL (n + 1) L) ≠ L := by
  intro e
  have e1 := congrArg (fun x : BitVec 64 => x.getLsbD n) e
  have e2 := congrArg (fun x : BitVec 64 => x.getLsbD n) h
  simp only [cL, fL, BitVec.getLsbD_and, BitVec.getLsbD_or, BitVec.getLsbD_not, ml_bit, hn, decide_true, Nat.lt_succ_self, Nat.lt_irrefl, decide_false, Bool.or_true, Bool.not_true, Bool.not_false, Bool.and_false, Bool.and_true] at e1 e2
  rw [← e1] at e2
  cases e2
theorem up_neH (n : Nat) (hn : n < 128) (h64 : 64 ≤ n) (H : BitVec 64) (h : cH (n + 1) H = H) : cH n (fH (n + 1) H) ≠ H := by
  intro e
  have e1 := congrArg (fun x : BitVec 64 => x.getLsbD (n - 64)) e
  have e2 := congrArg (fun x : BitVec 64 => x.getLsbD (n - 64)) h
  have hi : n - 64 < 64 := by omega
  have hj : n - 64 + 64 = n := by omega
  simp only [cH, fH, BitVec.getLsbD_and, BitVec.getLsbD_or, BitVec.getLsbD_not, mh_bit, hi, hj, decide_true, Nat.lt_succ_self, Nat.lt_irrefl, decide_false, Bool.or_true, Bool.not_true, Bool.not_false, Bool.and_false, Bool.and_true] at e1 e2
  rw [← e1] at e2
  cases e2
/-- adding: a filled word and one are the upper half's -/
theorem add_disj (x y : BitVec 64) (h : x &&& y = 0#64) : x ||| y = x + y := (BitVec.add_eq_or_of_and_eq_zero x y h).symm

end Go.Proofs.YtmbmekcppmbokaaGreat
