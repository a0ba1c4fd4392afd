/-
  For every two addresses the two CmpAddr answer alike, so the exact law of CmpAddr returns true; no condition.
-/
import Derived.Test.YtmbmekcppmbokaaGreatACmpI
import Derived.Test.YtmbmekcppmbokaaGreatACmpS
import Derived.ProofKit
import Derived.Lib.SmallJoins
namespace Go.Proofs.YtmbmekcppmbokaaGreat
open Go.ChangeShapes Go.WideShapes Go.ChangeAt Go.RowKit Go.Joins

theorem ult_t {a b : Int} (h : ult a b = true) : IntKind.u64.wrap a < IntKind.u64.wrap b := by simpa [ult] using h
theorem ult_f {a b : Int} (h : ult a b = false) : ¬ IntKind.u64.wrap a < IntKind.u64.wrap b := by simpa [ult] using h
theorem u64_inj {a b : Int} (ha : -9223372036854775808 ≤ a ∧ a ≤ 9223372036854775807) (hb : -9223372036854775808 ≤ b ∧ b ≤ 9223372036854775807) (h : IntKind.u64.wrap a = IntKind.u64.wrap b) : a = b := by
  rw [IntKind.wrap_u64, IntKind.wrap_u64] at h; omega

theorem cmp3_lt0 {a0 a1 a2 b0 b1 b2 : Int} (h : a0 < b0) : cmp3 a0 a1 a2 b0 b1 b2 = -1 := by simp [cmp3, cmpW, h]
theorem cmp3_gt0 {a0 a1 a2 b0 b1 b2 : Int} (h : b0 < a0) : cmp3 a0 a1 a2 b0 b1 b2 = 1 := by
  have : ¬ a0 < b0 := by omega
  simp [cmp3, cmpW, h, this]
theorem cmp3_lt1 {a a1 a2 b1 b2 : Int} (h : a1 < b1) : cmp3 a a1 a2 a b1 b2 = -1 := by simp [cmp3, cmpW, h]
theorem cmp3_gt1 {a a1 a2 b1 b2 : Int} (h : b1 < a1) : cmp3 a a1 a2 a b1 b2 = 1 := by
  have : ¬ a1 < b1 := by omega
  simp [cmp3, cmpW, h, this]
theorem cmp3_lt2 {a b a2 b2 : Int} (h : a2 < b2) : cmp3 a b a2 a b b2 = -1 := by simp [cmp3, cmpW, h]
theorem cmp3_gt2 {a b a2 b2 : Int} (h : b2 < a2) : cmp3 a b a2 a b b2 = 1 := by
  have : ¬ a2 < b2 := by omega
  simp [cmp3, cmpW, h, this]
theorem cmp3_eq (a b c : Int) : cmp3 a b c a b c = 0 := by simp [cmp3, cmpW]

theorem Rank_ex (S : Bool) (H L : Int) : ∃ r0 r1 r2, Rank S H L r0 r1 r2 ∧ (S = true → r0 = 1 ∧ r1 = IntKind.u64.wrap H) ∧ (S = false → r0 = 0 ∧ r1 = 0) ∧ r2 = IntKind.u64.wrap L := by
  cases S
  · exact ⟨0, 0, _, Or.inr ⟨rfl, rfl, rfl, rfl⟩, by simp, by simp, rfl⟩
  · exact ⟨1, _, _, Or.inl ⟨rfl, rfl, rfl, rfl⟩, by simp, by simp, rfl⟩

/-- Both CmpAddr return one and the same number. -/
theorem cmp_both (s : Bool) (h l : Int) (s' : Bool) (h' l' : Int) (wh : -9223372036854775808 ≤ h ∧ h ≤ 9223372036854775807) (wl : -9223372036854775808 ≤ l ∧ l ≤ 9223372036854775807) (wh' : -9223372036854775808 ≤ h' ∧ h' ≤ 9223372036854775807) (wl' : -9223372036854775808 ≤ l' ∧ l' ≤ 9223372036854775807) :
    ∃ c : Int,
      (∀ w : World, Calls Tryz.prog 56 #[.agg #[.bool s, .int .i64 h, .int .i64 l], .agg #[.bool s', .int .i64 h', .int .i64 l']] w fun e w' => e = .returned (.int .i64 c) ∧ Below w.heap.size w w') ∧
      (∀ w : World, Calls Tryz.prog 106 #[.agg #[.bool s, .int .i64 h, .int .i64 l], .agg #[.bool s', .int .i64 h', .int .i64 l']] w fun e w' => e = .returned (.int .i64 c) ∧ Below w.heap.size w w') := by
  obtain ⟨S, H, L, hz, bH, bL, hS⟩ := Nrm_ex s h l wh wl
  obtain ⟨S', H', L', hz', bH', bL', hS'⟩ := Nrm_ex s' h' l' wh' wl'
  obtain ⟨r0, r1, r2, hr, rt, rf, r2e⟩ := Rank_ex S H L
  obtain ⟨q0, q1, q2, hr', qt, qf, q2e⟩ := Rank_ex S' H' L'
  have hi := iCmp_ne s h l s' h' l' S H L S' H' L' r0 r1 r2 q0 q1 q2 hz hr hz' hr'
  subst r2e q2e
  cases S <;> cases S'
  · obtain ⟨rfl, rfl⟩ := rf rfl
    obtain ⟨rfl, rfl⟩ := qf rfl
    obtain ⟨rfl, _, _⟩ := hS rfl
    obtain ⟨rfl, _, _⟩ := hS' rfl
    by_cases hL : L = L'
    · subst hL
      rw [cmp3_eq] at hi
      exact ⟨0, sCmp_eq s h l s' h' l' false false 0 L 0 L hz hz' (fun wx => by rw [eqSt]; simp), hi⟩
    · have hq : ∀ wx, (Op.equalIn 10000 35 (.agg #[.bool false, .int .i64 0, .int .i64 L]) (.agg #[.bool false, .int .i64 0, .int .i64 L'])).run Tryz.prog wx = .ok false wx := fun wx => by rw [eqSt]; simp [hL]
      have u0 : ult 0 0 = false := by simp [ult]
      have ne : IntKind.u64.wrap L ≠ IntKind.u64.wrap L' := fun e => hL (u64_inj bL bL' e)
      cases u : ult L L'
      · rw [cmp3_gt2 (by have := ult_f u; omega)] at hi
        exact ⟨1, sCmp_gt2 s h l s' h' l' false 0 L 0 L' hz hz' hq u0 (by simp) u, hi⟩
      · rw [cmp3_lt2 (ult_t u)] at hi
        exact ⟨-1, sCmp_lt2 s h l s' h' l' false 0 L 0 L' hz hz' hq u0 (by simp) u, hi⟩
  · obtain ⟨rfl, rfl⟩ := rf rfl
    obtain ⟨rfl, rfl⟩ := qt rfl
    rw [cmp3_lt0 (by omega)] at hi
    exact ⟨-1, sCmp_ft s h l s' h' l' H L H' L' hz hz' (fun wx => by rw [eqSt]; simp), hi⟩
  · obtain ⟨rfl, rfl⟩ := rt rfl
    obtain ⟨rfl, rfl⟩ := qf rfl
    rw [cmp3_gt0 (by omega)] at hi
    exact ⟨1, sCmp_tf s h l s' h' l' H L H' L' hz hz' (fun wx => by rw [eqSt]; simp), hi⟩
  · obtain ⟨rfl, rfl⟩ := rt rfl
    obtain ⟨rfl, rfl⟩ := qt rfl
    by_cases hH : H = H'
    · subst hH
      by_cases hL : L = L'
      · subst hL
        rw [cmp3_eq] at hi
        exact ⟨0, sCmp_eq s h l s' h' l' true true H L H L hz hz' (fun wx => by rw [eqSt]; simp), hi⟩
      · have hq : ∀ wx, (Op.equalIn 10000 35 (.agg #[.bool true, .int .i64 H, .int .i64 L]) (.agg #[.bool true, .int .i64 H, .int .i64 L'])).run Tryz.prog wx = .ok false wx := fun wx => by rw [eqSt]; simp [hL]
        have u0 : ult H H = false := by simp [ult]
        have ne : IntKind.u64.wrap L ≠ IntKind.u64.wrap L' := fun e => hL (u64_inj bL bL' e)
        cases u : ult L L'
        · rw [cmp3_gt2 (by have := ult_f u; omega)] at hi
          exact ⟨1, sCmp_gt2 s h l s' h' l' true H L H L' hz hz' hq u0 (by simp) u, hi⟩
        · rw [cmp3_lt2 (ult_t u)] at hi
          exact ⟨-1, sCmp_lt2 s h l s' h' l' true H L H L' hz hz' hq u0 (by simp) u, hi⟩
    · have hq : ∀ wx, (Op.equalIn 10000 35 (.agg #[.bool true, .int .i64 H, .int .i64 L]) (.agg #[.bool true, .int .i64 H', .int .i64 L'])).run Tryz.prog wx = .ok false wx := fun wx => by rw [eqSt]; simp [hH]
      have ne : IntKind.u64.wrap H ≠ IntKind.u64.wrap H' := fun e => hH (u64_inj bH bH' e)
      cases u : ult H H'
      · rw [cmp3_gt1 (by have := ult_f u; omega)] at hi
        exact ⟨1, sCmp_gt1 s h l s' h' l' true H L H' L' hz hz' hq u (by simp [hH]), hi⟩
      · rw [cmp3_lt1 (ult_t u)] at hi
        exact ⟨-1, sCmp_lt1 s h l s' h' l' true H L H' L' hz hz' hq u, hi⟩

theorem Tryz.ownCmp : ownKnob Tryz.prog.godebug = none := by kernel_rfl
theorem Tryz.cellsCmp : Tryz.prog.cellsOf 27 = 3 := by kernel_rfl
/-- A number of the kind int lies in its bounds. -/
theorem wf_bdC {x : Int} (h : (Lit.int .i64 x).wf = true) : -9223372036854775808 ≤ x ∧ x ≤ 9223372036854775807 := by
  simpa [Lit.wf, IntKind.min, IntKind.max, IntKind.signed, IntKind.bits] using h

/-- An address by value, read again in whatever world. -/
theorem readC {H : Type} {enc : TypeId × Value → H} {s : Bool} {a b : Int} (wa : (Lit.int .i64 a).wf = true) (wb : (Lit.int .i64 b).wf = true) (W' : World) (sp : Nat → Bool) :
    DataW.Trod enc Tryz.prog W' 0 sp true 27 (.agg #[.bool s, .int .i64 a, .int .i64 b]) (.agg [.lit (.bool s), .lit (.int .i64 a), .lit (.int .i64 b)]) [] :=
  shut_agg3 (y0 := (.lit (.bool s), [])) (y1 := (.lit (.int .i64 a), [])) (y2 := (.lit (.int .i64 b), [])) Tryz.underlying27 (by kernel_rfl) Tryz.cellsCmp ⟨1, by simp [DataW.trod, Tryz.underlying4]⟩ ⟨1, by simp [DataW.trod, Tryz.underlying3, wa]⟩ ⟨1, by simp [DataW.trod, Tryz.underlying3, wb]⟩

end Go.Proofs.YtmbmekcppmbokaaGreat
