/-
  For every two addresses the two GapTo answer alike, so the exact law of GapTo returns true; no condition.
-/
import Derived.Test.YtkmfbbcofojfaadACmpI
import Derived.Test.YtkmfbbcofojfaadAGapI
import Derived.Test.YtkmfbbcofojfaadAGapS
import Derived.ProofKit
import Derived.Lib.SmallJoins
namespace Go.Proofs.Ytkmfbbcofojfaad
open Go.ChangeShapes Go.WideShapes Go.ChangeAt Go.RowKit Go.Joins

theorem ultg_t {a b : Int} (h : ult a b = true) : IntKind.u64.wrap a < IntKind.u64.wrap b := by simpa [ult] using h
theorem ultg_f {a b : Int} (h : ult a b = false) : ¬ IntKind.u64.wrap a < IntKind.u64.wrap b := by simpa [ult] using h
theorem u64g_inj {a b : Int} (ha : -9223372036854775808 ≤ a ∧ a ≤ 9223372036854775807) (hb : -9223372036854775808 ≤ b ∧ b ≤ 9223372036854775807) (h : IntKind.u64.wrap a = IntKind.u64.wrap b) : a = b := by
  rw [IntKind.wrap_u64, IntKind.wrap_u64] at h; omega

/-- A right address is its own. -/
theorem Nrm_self (S : Bool) (H L : Int) (hS : S = false → H = 0 ∧ 0 ≤ L ∧ L ≤ 4294967295) : Nrm S H L S H L := by
  refine Or.inl ⟨?_, rfl, rfl, rfl⟩
  cases S
  · obtain ⟨rfl, h0, h1⟩ := hS rfl; exact okB_yes L h0 h1
  · exact okB_t H L

/-- The order of two right addresses of one width: below 0 just where the words are less. -/
theorem sCmp_sign (S : Bool) (H L H' L' : Int) (hS : S = false → H = 0 ∧ 0 ≤ L ∧ L ≤ 4294967295) (hS' : S = false → H' = 0 ∧ 0 ≤ L' ∧ L' ≤ 4294967295) (bH : -9223372036854775808 ≤ H ∧ H ≤ 9223372036854775807) (bH' : -9223372036854775808 ≤ H' ∧ H' ≤ 9223372036854775807) :
    ∃ c : Int, (∀ w : World, Calls Try.prog 46 #[.agg #[.bool S, .int .i64 H', .int .i64 L'], .agg #[.bool S, .int .i64 H, .int .i64 L]] w fun e w' => e = .returned (.int .i64 c) ∧ Below w.heap.size w w')
      ∧ (c < 0 ↔ (IntKind.u64.wrap H' < IntKind.u64.wrap H ∨ (IntKind.u64.wrap H' = IntKind.u64.wrap H ∧ IntKind.u64.wrap L' < IntKind.u64.wrap L))) := by
  have z := Nrm_self S H L hS
  have z' := Nrm_self S H' L' hS'
  by_cases hH : H' = H
  · subst hH
    by_cases hL : L' = L
    · subst hL
      exact ⟨0, sCmp_eq S H' L' S H' L' S S H' L' H' L' z' z (fun wx => by rw [eqSt]; simp), by omega⟩
    · have hq : ∀ wx, (Op.equalIn 10000 26 (.agg #[.bool S, .int .i64 H', .int .i64 L']) (.agg #[.bool S, .int .i64 H', .int .i64 L])).run Try.prog wx = .ok false wx := fun wx => by rw [eqSt]; simp [hL]
      have u0 : ult H' H' = false := by simp [ult]
      cases u : ult L' L
      · have := ultg_f u
        exact ⟨1, sCmp_gt2 S H' L' S H' L S H' L' H' L z' z hq u0 (by simp) u, by omega⟩
      · have := ultg_t u
        exact ⟨-1, sCmp_lt2 S H' L' S H' L S H' L' H' L z' z hq u0 (by simp) u, by omega⟩
  · have hq : ∀ wx, (Op.equalIn 10000 26 (.agg #[.bool S, .int .i64 H', .int .i64 L']) (.agg #[.bool S, .int .i64 H, .int .i64 L])).run Try.prog wx = .ok false wx := fun wx => by rw [eqSt]; simp [hH]
    have ne : IntKind.u64.wrap H' ≠ IntKind.u64.wrap H := fun e => hH (u64g_inj bH' bH e)
    cases u : ult H' H
    · have := ultg_f u
      exact ⟨1, sCmp_gt1 S H' L' S H L S H' L' H L z' z hq u (by simp [hH]), by omega⟩
    · have := ultg_t u
      exact ⟨-1, sCmp_lt1 S H' L' S H L S H' L' H L z' z hq u, by omega⟩

theorem lo_is (u v : Int) : subD u v 0 = IntKind.u64.wrap (u - v) := by rw [IntKind.wrap_u64]; unfold subD; congr 1; omega
theorem hi_is0 (x y : Int) : subD x y 0 = IntKind.u64.wrap (x - y) := lo_is x y
theorem hi_is1 (x y : Int) : subD x y 1 = IntKind.u64.wrap (IntKind.u64.wrap (x - y) - 1) := by rw [IntKind.wrap_u64, IntKind.wrap_u64]; unfold subD; omega
theorem bo_0 {u v : Int} (h : ¬ u < v) : subB u v 0 = 0 := by unfold subB; rw [if_neg (by omega)]
theorem bo_1 {u v : Int} (h : u < v) : subB u v 0 = 1 := by unfold subB; rw [if_pos (by omega)]
theorem be_t {x y b : Int} (h : x < y + b) : (subB x y b != 0) = true := by unfold subB; rw [if_pos h]; rfl
theorem be_f {x y b : Int} (h : ¬ x < y + b) : (subB x y b != 0) = false := by unfold subB; rw [if_neg h]; rfl
theorem BitG1 : BitG 1 := by unfold BitG; omega
theorem wrap_nn (x : Int) : 0 ≤ IntKind.u64.wrap x := by rw [IntKind.wrap_u64]; omega

/-- Both GapTo return one and the same pair. -/
theorem gap_both (s : Bool) (h l : Int) (s' : Bool) (h' l' : Int) (wh : -9223372036854775808 ≤ h ∧ h ≤ 9223372036854775807) (wl : -9223372036854775808 ≤ l ∧ l ≤ 9223372036854775807) (wh' : -9223372036854775808 ≤ h' ∧ h' ≤ 9223372036854775807) (wl' : -9223372036854775808 ≤ l' ∧ l' ≤ 9223372036854775807) :
    ∃ (c : Int) (ok : Bool),
      (∀ w : World, Calls Try.prog 31 #[.agg #[.bool s, .int .i64 h, .int .i64 l], .agg #[.bool s', .int .i64 h', .int .i64 l']] w fun e w' => e = .returned (.tuple #[.int .i64 c, .bool ok]) ∧ Below w.heap.size w w') ∧
      (∀ w : World, Calls Try.prog 33 #[.agg #[.bool s, .int .i64 h, .int .i64 l], .agg #[.bool s', .int .i64 h', .int .i64 l']] w fun e w' => e = .returned (.tuple #[.int .i64 c, .bool ok]) ∧ Below w.heap.size w w') := by
  obtain ⟨S, H, L, hz, bH, _, hS⟩ := Nrm_ex s h l wh wl
  obtain ⟨S', H', L', hz', bH', _, hS'⟩ := Nrm_ex s' h' l' wh' wl'
  have a1 := sub64 (IntKind.u64.wrap L') (IntKind.u64.wrap L) 0 (WordG_u _) (WordG_u _) BitG0
  have a2 := sub64 (IntKind.u64.wrap H') (IntKind.u64.wrap H) (subB (IntKind.u64.wrap L') (IntKind.u64.wrap L) 0) (WordG_u _) (WordG_u _) (subB_bit _ _ _)
  by_cases hSS : S = S'
  · subst hSS
    obtain ⟨c, HC, hcs⟩ := sCmp_sign S H L H' L' hS hS' bH bH'
    rw [lo_is] at a1
    cases u : ult L' L
    · have hn := ultg_f u
      rw [bo_0 hn] at a1 a2
      rw [hi_is0] at a2
      by_cases hc : c < 0
      · exact ⟨0, false, sGap_neg s h l s' h' l' S H L H' L' hz hz' c HC hc, iGap_below s h l s' h' l' S H L H' L' _ _ _ _ hz hz' a1 a2 (be_t (by omega))⟩
      · have k1 : (subB (IntKind.u64.wrap H') (IntKind.u64.wrap H) 0 != 0) = false := be_f (by omega)
        cases k2 : (IntKind.u64.wrap (IntKind.u64.wrap H' - IntKind.u64.wrap H) != 0)
        · by_cases k3 : IntKind.u64.wrap (IntKind.u64.wrap L' - IntKind.u64.wrap L) ≤ 9223372036854775807
          · exact ⟨_, true, sGap_ok0 s h l s' h' l' S H L H' L' hz hz' c HC (by omega) u k2 k3 (wrap_nn _), iGap_ok s h l s' h' l' S H L H' L' _ _ _ _ hz hz' a1 a2 k1 k2 k3 (wrap_nn _)⟩
          · exact ⟨0, false, sGap_lo0 s h l s' h' l' S H L H' L' hz hz' c HC (by omega) u k2 (by omega), iGap_lo s h l s' h' l' S H L H' L' _ _ _ _ hz hz' a1 a2 k1 k2 (by omega)⟩
        · exact ⟨0, false, sGap_hi0 s h l s' h' l' S H L H' L' hz hz' c HC (by omega) u k2, iGap_hi s h l s' h' l' S H L H' L' _ _ _ _ hz hz' a1 a2 k1 k2⟩
    · have hn := ultg_t u
      rw [bo_1 hn] at a1 a2
      rw [hi_is1] at a2
      by_cases hc : c < 0
      · exact ⟨0, false, sGap_neg s h l s' h' l' S H L H' L' hz hz' c HC hc, iGap_below s h l s' h' l' S H L H' L' _ _ _ _ hz hz' a1 a2 (be_t (by omega))⟩
      · have k1 : (subB (IntKind.u64.wrap H') (IntKind.u64.wrap H) 1 != 0) = false := be_f (by omega)
        cases k2 : (IntKind.u64.wrap (IntKind.u64.wrap (IntKind.u64.wrap H' - IntKind.u64.wrap H) - 1) != 0)
        · by_cases k3 : IntKind.u64.wrap (IntKind.u64.wrap L' - IntKind.u64.wrap L) ≤ 9223372036854775807
          · exact ⟨_, true, sGap_ok1 s h l s' h' l' S H L H' L' hz hz' c HC (by omega) u k2 k3 (wrap_nn _), iGap_ok s h l s' h' l' S H L H' L' _ _ _ _ hz hz' a1 a2 k1 k2 k3 (wrap_nn _)⟩
          · exact ⟨0, false, sGap_lo1 s h l s' h' l' S H L H' L' hz hz' c HC (by omega) u k2 (by omega), iGap_lo s h l s' h' l' S H L H' L' _ _ _ _ hz hz' a1 a2 k1 k2 (by omega)⟩
        · exact ⟨0, false, sGap_hi1 s h l s' h' l' S H L H' L' hz hz' c HC (by omega) u k2, iGap_hi s h l s' h' l' S H L H' L' _ _ _ _ hz hz' a1 a2 k1 k2⟩
  · cases S <;> cases S'
    · exact absurd rfl hSS
    · exact ⟨0, false, sGap_ft s h l s' h' l' H L H' L' hz hz', iGap_ft s h l s' h' l' H L H' L' _ _ _ _ hz hz' a1 a2⟩
    · exact ⟨0, false, sGap_tf s h l s' h' l' H L H' L' hz hz', iGap_tf s h l s' h' l' H L H' L' _ _ _ _ hz hz' a1 a2⟩
    · exact absurd rfl hSS

theorem Try.ownGap : ownKnob Try.prog.godebug = none := by kernel_rfl
theorem Try.cellsGap : Try.prog.cellsOf 23 = 3 := by kernel_rfl
/-- A number of the kind int lies in its bounds. -/
theorem wf_bdG {x : Int} (h : (Lit.int .i64 x).wf = true) : -9223372036854775808 ≤ x ∧ x ≤ 9223372036854775807 := by
  simpa [Lit.wf, IntKind.min, IntKind.max, IntKind.signed, IntKind.bits] using h

/-- An address by value, read again in whatever world. -/
theorem readG {H : Type} {enc : TypeId × Value → H} {s : Bool} {a b : Int} (wa : (Lit.int .i64 a).wf = true) (wb : (Lit.int .i64 b).wf = true) (W' : World) (sp : Nat → Bool) :
    DataW.Trod enc Try.prog W' 0 sp true 23 (.agg #[.bool s, .int .i64 a, .int .i64 b]) (.agg [.lit (.bool s), .lit (.int .i64 a), .lit (.int .i64 b)]) [] :=
  shut_agg3 (y0 := (.lit (.bool s), [])) (y1 := (.lit (.int .i64 a), [])) (y2 := (.lit (.int .i64 b), [])) Try.underlying23 (by kernel_rfl) Try.cellsGap ⟨1, by simp [DataW.trod, Try.underlying4]⟩ ⟨1, by simp [DataW.trod, Try.underlying3, wa]⟩ ⟨1, by simp [DataW.trod, Try.underlying3, wb]⟩

end Go.Proofs.Ytkmfbbcofojfaad
