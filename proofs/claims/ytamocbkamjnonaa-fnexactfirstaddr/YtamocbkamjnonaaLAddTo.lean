/-
  For every address and every number the two AddTo answer alike, so the exact law of AddTo returns true; no condition.
-/
import Derived.Test.YtamocbkamjnonaaAAdd
import Derived.Test.YtamocbkamjnonaaASAdd
import Derived.ProofKit
import Derived.Lib.SmallJoins
namespace Go.Proofs.Ytamocbkamjnonaa
open Go.ChangeShapes Go.WideShapes Go.ChangeAt Go.RowKit Go.Joins

/-- A number of the kind int lies in its bounds. -/
theorem wf_bounds {x : Int} (h : (Lit.int .i64 x).wf = true) : -9223372036854775808 ≤ x ∧ x ≤ 9223372036854775807 := by
  simpa [Lit.wf, IntKind.min, IntKind.max, IntKind.signed, IntKind.bits] using h
theorem Bit1 : Bit 1 := by unfold Bit; omega
theorem u64_u (x : Int) : IntKind.u64.wrap x = x % 18446744073709551616 := IntKind.wrap_u64 x

/-- What the two calls of the library's Add64 give. -/
theorem add_c0 (L n : Int) (h : IntKind.u64.wrap L + IntKind.u64.wrap n < 18446744073709551616) : addC (IntKind.u64.wrap L) (IntKind.u64.wrap n) 0 = 0 := by
  have := Word_u L; have := Word_u n; unfold Word at *; unfold addC; omega
theorem add_c1 (L n : Int) (h : ¬ IntKind.u64.wrap L + IntKind.u64.wrap n < 18446744073709551616) : addC (IntKind.u64.wrap L) (IntKind.u64.wrap n) 0 = 1 := by
  have := Word_u L; have := Word_u n; unfold Word at *; unfold addC; omega
theorem lo_eq (L n : Int) : wrap64 (addS (IntKind.u64.wrap L) (IntKind.u64.wrap n) 0) = wrap64 (IntKind.u64.wrap (IntKind.u64.wrap L + IntKind.u64.wrap n)) := by
  rw [u64_u (_ + _)]; simp only [addS, Int.add_zero]
theorem less_0 (L n : Int) (h : IntKind.u64.wrap L + IntKind.u64.wrap n < 18446744073709551616) : ult (wrap64 (IntKind.u64.wrap (IntKind.u64.wrap L + IntKind.u64.wrap n))) L = false := by
  have h1 := Word_u L; have h2 := Word_u n
  unfold ult Word at *
  generalize IntKind.u64.wrap L = u at *
  generalize IntKind.u64.wrap n = v at *
  simp only [u64_u, wrap64, decide_eq_false_iff_not]
  omega
theorem less_1 (L n : Int) (h : ¬ IntKind.u64.wrap L + IntKind.u64.wrap n < 18446744073709551616) : ult (wrap64 (IntKind.u64.wrap (IntKind.u64.wrap L + IntKind.u64.wrap n))) L = true := by
  have h1 := Word_u L; have h2 := Word_u n
  unfold ult Word at *
  generalize IntKind.u64.wrap L = u at *
  generalize IntKind.u64.wrap n = v at *
  simp only [u64_u, wrap64, decide_eq_true_eq]
  omega
theorem hi_0 (H : Int) (wh : -9223372036854775808 ≤ H ∧ H ≤ 9223372036854775807) : wrap64 (addS (IntKind.u64.wrap H) 0 0) = H := by
  simp only [addS, u64_u, wrap64]; omega
theorem past_0 (H : Int) : (addC (IntKind.u64.wrap H) 0 0 != 0) = false := by
  have := Word_u H; unfold Word at this; rw [bne_eq_false_iff_eq]; unfold addC; omega
theorem hi_1 (H : Int) : wrap64 (addS (IntKind.u64.wrap H) 0 1) = wrap64 (IntKind.u64.wrap (IntKind.u64.wrap H + 1)) := by
  rw [u64_u (_ + _)]; simp only [addS, Int.add_zero]
theorem past_1 (H : Int) (h : (wrap64 (IntKind.u64.wrap (IntKind.u64.wrap H + 1)) == 0) = false) : (addC (IntKind.u64.wrap H) 0 1 != 0) = false := by
  have h1 := Word_u H
  unfold Word at *
  rw [beq_eq_false_iff_ne] at h
  rw [bne_eq_false_iff_eq]
  generalize IntKind.u64.wrap H = u at *
  simp only [u64_u, wrap64] at h
  unfold addC
  omega
theorem past_2 (H : Int) (h : (wrap64 (IntKind.u64.wrap (IntKind.u64.wrap H + 1)) == 0) = true) : (addC (IntKind.u64.wrap H) 0 1 != 0) = true := by
  have h1 := Word_u H
  unfold Word at *
  rw [beq_iff_eq] at h
  rw [bne_iff_ne]
  generalize IntKind.u64.wrap H = u at *
  simp only [u64_u, wrap64] at h
  unfold addC
  omega
theorem four_c (L n : Int) (h0 : 0 ≤ L) (h1 : L ≤ 4294967295) (hn : 0 ≤ n) (hn1 : n ≤ 9223372036854775807) : addC (IntKind.u64.wrap L) (IntKind.u64.wrap n) 0 = 0 := by
  simp only [u64_u]; unfold addC; omega
theorem four_ok (L n : Int) (h0 : 0 ≤ L) (hn : 0 ≤ n) (hle : n ≤ 4294967295 - L) : wrap64 (addS (IntKind.u64.wrap L) (IntKind.u64.wrap n) 0) = L + n := by
  simp only [addS, u64_u, wrap64]; omega
theorem four_no (L n : Int) (h0 : 0 ≤ L) (h1 : L ≤ 4294967295) (hn : 0 ≤ n) (hn1 : n ≤ 9223372036854775807) (hle : 4294967295 - L < n) :
    okB false 0 (wrap64 (addS (IntKind.u64.wrap L) (IntKind.u64.wrap n) 0)) = false := by
  simp only [okB, addS, u64_u, wrap64, Bool.false_or, beq_self_eq_true, Bool.true_and, Bool.and_eq_false_iff, decide_eq_false_iff_not]; omega
theorem four_yes (L n : Int) (h0 : 0 ≤ L) (hn : 0 ≤ n) (hle : n ≤ 4294967295 - L) : okB false 0 (L + n) = true := okB_yes _ (by omega) (by omega)

theorem Try.ownAddTo : ownKnob Try.prog.godebug = none := by kernel_rfl
theorem Try.cellsAddTo : Try.prog.cellsOf 31 = 3 := by kernel_rfl

end Go.Proofs.Ytamocbkamjnonaa
