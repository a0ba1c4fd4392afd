/-
  For every address and every number the two AddTo answer alike, so the exact law of AddTo returns true; no condition.
-/
import Derived.Test.YtofnnpjadehgmaaDoorAAdd
import Derived.Test.YtofnnpjadehgmaaDoorASAdd
import Derived.ProofKit
import Derived.Lib.SmallJoins
namespace Go.Proofs.YtofnnpjadehgmaaDoor
open Go.ChangeShapes Go.WideShapes Go.ChangeAt Go.RowKit Go.Joins

/-- A number of the kind int lies in its bounds. -/
theorem wf_bounds {x : Int} (h : (Lit.int .i64 x).wf = true) : -9223372036854775808 ≤ x ∧ x ≤ 9223372036854775807 := by
  simpa [Lit.wf, IntKind.min, IntKind.max, IntKind.signed, IntKind.bits] using h
theorem Bit1 : Bit 1 := by unfold Bit; omega
theorem u64_u (x : Int) : IntKind.u64.wrap x = x % 18446744073709551616 := IntKind.wrap_u64 x

/-- What the two calls of the library's Add64 give. -/
theorem add_c0 (L n : Int) (h : IntKind.u64.wrap L + IntKind.u64.wrap n < 18446744073709551616) : addC (IntKind.u64.wrap L) (IntKind.u64.wrap n) 0 = 0 := by
  have := Word_u L; have := Word_u n; unfold Word at *; unfold addC; omega
theorem add_c1 (L n : Int) (h : ¬ IntKind.u64.wrap L + IntKind.u64.wrap n < 18446744073709551616) : addC (IntKind.u64.wrap L) (IntKind.u64.wrap n) 0 = 1 := by
  have := Word_u L; have := Word_u n; unfold Word at *; unfold addC; omega
theorem lo_eq (L n : Int) : wrap64 (addS (IntKind.u64.wrap L) (IntKind.u64.wrap n) 0) = wrap64 (IntKind.u64.wrap (IntKind.u64.wrap L + IntKind.u64.wrap n)) := by
  rw [u64_u (_ + _)]; simp only [addS, Int.add_zero]
theorem less_0 (L n : Int) (h : IntKind.u64.wrap L + IntKind.u64.wrap n < 18446744073709551616) : ult (wrap64 (IntKind.u64.wrap (IntKind.u64.wrap L + IntKind.u64.wrap n))) L = false := by
  have h1 := Word_u L; have h2 := Word_u n
  unfold ult Word at *
  generalize IntKind.u64.wrap L = u at *
  generalize IntKind.u64.wrap n = v at *
  simp only [u64_u, wrap64, decide_eq_false_iff_not]
  omega
theorem less_1 (L n : Int) (h : ¬ IntKind.u64.wrap L + IntKind.u64.wrap n < 18446744073709551616) : ult (wrap64 (IntKind.u64.wrap (IntKind.u64.wrap L + IntKind.u64.wrap n))) L = true := by
  have h1 := Word_u L; have h2 := Word_u n
  unfold ult Word at *
  generalize IntKind.u64.wrap L = u at *
  generalize IntKind.u64.wrap n = v at *
  simp only [u64_u, wrap64, decide_eq_true_eq]
  omega
theorem hi_0 (H : Int) (wh : -9223372036854775808 ≤ H ∧ H ≤ 9223372036854775807) : wrap64 (addS (IntKind.u64.wrap H) 0 0) = H := by
  simp only [addS, u64_u, wrap64]; omega
theorem past_0 (H : Int) : (addC (IntKind.u64.wrap H) 0 0 != 0) = false := by
  have := Word_u H; unfold Word at this; rw [bne_eq_false_iff_eq]; unfold addC; omega
theorem hi_1 (H : Int) : wrap64 (addS (IntKind.u64.wrap H) 0 1) = wrap64 (IntKind.u64.wrap (IntKind.u64.wrap H + 1)) := by
  rw [u64_u (_ + _)]; simp only [addS, Int.add_zero]
theorem past_1 (H : Int) (h : (wrap64 (IntKind.u64.wrap (IntKind.u64.wrap H + 1)) == 0) = false) : (addC (IntKind.u64.wrap H) 0 1 != 0) = false := by
  have h1 := Word_u H
  unfold Word at *
  rw [beq_eq_false_iff_ne] at h
  rw [bne_eq_false_iff_eq]
  generalize IntKind.u64.wrap H = u at *
  simp only [u64_u, wrap64] at h
  unfold addC
  omega
theorem past_2 (H : Int) (h : (wrap64 (IntKind.u64.wrap (IntKind.u64.wrap H + 1)) == 0) = true) : (addC (IntKind.u64.wrap H) 0 1 != 0) = true := by
  have h1 := Word_u H
  unfold Word at *
  rw [beq_iff_eq] at h
  rw [bne_iff_ne]
  generalize IntKind.u64.wrap H = u at *
  simp only [u64_u, wrap64] at h
  unfold addC
  omega
theorem four_c (L n : Int) (h0 : 0 ≤ L) (h1 : L ≤ 4294967295) (hn : 0 ≤ n) (hn1 : n ≤ 9223372036854775807) : addC (IntKind.u64.wrap L) (IntKind.u64.wrap n) 0 = 0 := by
  simp only [u64_u]; unfold addC; omega
theorem four_ok (L n : Int) (h0 : 0 ≤ L) (hn : 0 ≤ n) (hle : n ≤ 4294967295 - L) : wrap64 (addS (IntKind.u64.wrap L) (IntKind.u64.wrap n) 0) = L + n := by
  simp only [addS, u64_u, wrap64]; omega
theorem four_no (L n : Int) (h0 : 0 ≤ L) (h1 : L ≤ 4294967295) (hn : 0 ≤ n) (hn1 : n ≤ 9223372036854775807) (hle : 4294967295 - L < n) :
    okB false 0 (wrap64 (addS (IntKind.u64.wrap L) (IntKind.u64.wrap n) 0)) = false := by
  simp only [okB, addS, u64_u, wrap64, Bool.false_or, beq_self_eq_true, Bool.true_and, Bool.and_eq_false_iff, decide_eq_false_iff_not]; omega
theorem four_yes (L n : Int) (h0 : 0 ≤ L) (hn : 0 ≤ n) (hle : n ≤ 4294967295 - L) : okB false 0 (L + n) = true := okB_yes _ (by omega) (by omega)

/-- Both AddTo return one and the same pair. -/
theorem addTo_both (s : Bool) (h l n : Int) (wh : -9223372036854775808 ≤ h ∧ h ≤ 9223372036854775807) (wl : -9223372036854775808 ≤ l ∧ l ≤ 9223372036854775807) (wn : n ≤ 9223372036854775807) :
    ∃ (S : Bool) (H L : Int) (ok : Bool),
      (∀ w : World, Calls Tryd.prog 13 #[.agg #[.bool s, .int .i64 h, .int .i64 l], .int .i64 n] w fun e w' => e = .returned (.tuple #[.agg #[.bool S, .int .i64 H, .int .i64 L], .bool ok]) ∧ Below w.heap.size w w') ∧
      (∀ w : World, Calls Tryd.prog 12 #[.agg #[.bool s, .int .i64 h, .int .i64 l], .int .i64 n] w fun e w' => e = .returned (.tuple #[.agg #[.bool S, .int .i64 H, .int .i64 L], .bool ok]) ∧ Below w.heap.size w w') := by
  obtain ⟨S, H, L, hz, bH, bL, hS⟩ := Nrm_ex s h l wh wl
  by_cases hn : n < 0
  · exact ⟨false, 0, 0, false, sAddTo_neg s h l n S H L hz hn, iAddTo_neg s h l n hn⟩
  have hn0 : 0 ≤ n := by omega
  have a1 := add64 (IntKind.u64.wrap L) (IntKind.u64.wrap n) 0 (Word_u _) (Word_u _) Bit0
  cases S
  · obtain ⟨rfl, h0, h1⟩ := hS rfl
    have ec := four_c L n h0 h1 hn0 wn
    rw [ec] at a1
    have a2 := add64 (IntKind.u64.wrap 0) 0 0 (Word_u _) Word0 Bit0
    by_cases hle : n ≤ 4294967295 - L
    · have i := iAddTo_ok s h l n false 0 L _ 0 _ _ hz hn0 a1 a2 (past_0 0) (by
        show okB _ _ _ = true
        rw [hi_0 0 (by omega), four_ok L n h0 hn0 hle]; exact four_yes L n h0 hn0 hle)
      rw [hi_0 0 (by omega), four_ok L n h0 hn0 hle] at i
      exact ⟨false, 0, L + n, true, sAddTo_four s h l n 0 L hz h0 h1 hn0 wn hle, i⟩
    · have i := iAddTo_bad s h l n false 0 L _ 0 _ _ hz hn0 a1 a2 (past_0 0) (by
        show okB _ _ _ = false
        rw [hi_0 0 (by omega)]; exact four_no L n h0 h1 hn0 wn (by omega))
      exact ⟨false, 0, 0, false, sAddTo_fourno s h l n 0 L hz h0 h1 hn0 wn (by omega), i⟩
  · by_cases hc : IntKind.u64.wrap L + IntKind.u64.wrap n < 18446744073709551616
    · rw [add_c0 L n hc] at a1
      have a2 := add64 (IntKind.u64.wrap H) 0 0 (Word_u _) Word0 Bit0
      have i := iAddTo_ok s h l n true H L _ 0 _ _ hz hn0 a1 a2 (past_0 H) (okB_t _ _)
      rw [hi_0 H bH, lo_eq] at i
      exact ⟨true, H, _, true, sAddTo_six s h l n H L hz hn0 (less_0 L n hc), i⟩
    · rw [add_c1 L n hc] at a1
      have a2 := add64 (IntKind.u64.wrap H) 0 1 (Word_u _) Word0 Bit1
      cases hg : (wrap64 (IntKind.u64.wrap (IntKind.u64.wrap H + 1)) == 0)
      · have i := iAddTo_ok s h l n true H L _ 1 _ _ hz hn0 a1 a2 (past_1 H hg) (okB_t _ _)
        rw [hi_1, lo_eq] at i
        exact ⟨true, _, _, true, sAddTo_sixc s h l n H L hz hn0 (less_1 L n hc) hg, i⟩
      · have i := iAddTo_past s h l n true H L _ 1 _ _ hz hn0 a1 a2 (past_2 H hg)
        exact ⟨false, 0, 0, false, sAddTo_sixno s h l n H L hz hn0 (less_1 L n hc) hg, i⟩

theorem Tryd.ownAddTo : ownKnob Tryd.prog.godebug = none := by kernel_rfl
end Go.Proofs.YtofnnpjadehgmaaDoor
