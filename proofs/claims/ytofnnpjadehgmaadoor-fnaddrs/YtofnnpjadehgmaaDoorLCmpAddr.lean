/-
  For every two addresses the two CmpAddr answer alike, so the exact law of CmpAddr returns true; no condition.
-/
import Derived.Test.YtofnnpjadehgmaaDoorACmpI
import Derived.Test.YtofnnpjadehgmaaDoorACmpS
import Derived.ProofKit
import Derived.Lib.SmallJoins
namespace Go.Proofs.YtofnnpjadehgmaaDoor
open Go.ChangeShapes Go.WideShapes Go.ChangeAt Go.RowKit Go.Joins

theorem ult_t {a b : Int} (h : ult a b = true) : IntKind.u64.wrap a < IntKind.u64.wrap b := by simpa [ult] using h
theorem ult_f {a b : Int} (h : ult a b = false) : ¬ IntKind.u64.wrap a < IntKind.u64.wrap b := by simpa [ult] using h
theorem u64_inj {a b : Int} (ha : -9223372036854775808 ≤ a ∧ a ≤ 9223372036854775807) (hb : -9223372036854775808 ≤ b ∧ b ≤ 9223372036854775807) (h : IntKind.u64.wrap a = IntKind.u64.wrap b) : a = b := by
  rw [IntKind.wrap_u64, IntKind.wrap_u64] at h; omega

theorem cmp3_lt0 {a0 a1 a2 b0 b1 b2 : Int} (h : a0 < b0) : cmp3 a0 a1 a2 b0 b1 b2 = -1 := by simp [cmp3, cmpW, h]
theorem cmp3_gt0 {a0 a1 a2 b0 b1 b2 : Int} (h : b0 < a0) : cmp3 a0 a1 a2 b0 b1 b2 = 1 := by
  have : ¬ a0 < b0 := by omega
  simp [cmp3, cmpW, h, this]
theorem cmp3_lt1 {a a1 a2 b1 b2 : Int} (h : a1 < b1) : cmp3 a a1 a2 a b1 b2 = -1 := by simp [cmp3, cmpW, h]
theorem cmp3_gt1 {a a1 a2 b1 b2 : Int} (h : b1 < a1) : cmp3 a a1 a2 a b1 b2 = 1 := by
  have : ¬ a1 < b1 := by omega
  simp [cmp3, cmpW, h, this]
theorem cmp3_lt2 {a b a2 b2 : Int} (h : a2 < b2) : cmp3 a b a2 a b b2 = -1 := by simp [cmp3, cmpW, h]
theorem cmp3_gt2 {a b a2 b2 : Int} (h : b2 < a2) : cmp3 a b a2 a b b2 = 1 := by
  have : ¬ a2 < b2 := by omega
  simp [cmp3, cmpW, h, this]
theorem cmp3_eq (a b c : Int) : cmp3 a b c a b c = 0 := by simp [cmp3, cmpW]

theorem Rank_ex (S : Bool) (H L : Int) : ∃ r0 r1 r2, Rank S H L r0 r1 r2 ∧ (S = true → r0 = 1 ∧ r1 = IntKind.u64.wrap H) ∧ (S = false → r0 = 0 ∧ r1 = 0) ∧ r2 = IntKind.u64.wrap L := by
  cases S
  · exact ⟨0, 0, _, Or.inr ⟨rfl, rfl, rfl, rfl⟩, by simp, by simp, rfl⟩
  · exact ⟨1, _, _, Or.inl ⟨rfl, rfl, rfl, rfl⟩, by simp, by simp, rfl⟩

theorem Tryd.ownCmp : ownKnob Tryd.prog.godebug = none := by kernel_rfl
/-- A number of the kind int lies in its bounds. -/
theorem wf_bdC {x : Int} (h : (Lit.int .i64 x).wf = true) : -9223372036854775808 ≤ x ∧ x ≤ 9223372036854775807 := by
  simpa [Lit.wf, IntKind.min, IntKind.max, IntKind.signed, IntKind.bits] using h

end Go.Proofs.YtofnnpjadehgmaaDoor
