/-
  Both CmpAddr and both CmpPrefix of what is right: the order of the numbers.
-/
import Derived.Test.YtmbmekcppmbokaaGreatLCmpAddr
import Derived.Test.YtmbmekcppmbokaaGreatBCPre
import Derived.Test.YtmbmekcppmbokaaGreatQMath
namespace Go.Proofs.YtmbmekcppmbokaaGreat
open Go.RowKit

/-- An address as one number: those of 32 bits come first. -/
def keyN (s : Bool) (H L : BitVec 64) : Nat := (if s then 340282366920938463463374607431768211456 else 0) + adrN H L
theorem adrN_eq (H L : BitVec 64) : adrN H L = H.toNat * 18446744073709551616 + L.toNat := by
  unfold adrN
  rw [BitVec.toNat_append, ← Nat.shiftLeft_add_eq_or_of_lt L.isLt, Nat.shiftLeft_eq]
theorem bvb (x : BitVec 64) : -9223372036854775808 ≤ x.toInt ∧ x.toInt ≤ 9223372036854775807 := by
  have h1 := BitVec.toInt_lt (x := x); have h2 := BitVec.le_toInt (x := x); simp at h1 h2; omega

theorem cmp_keys (s : Bool) (H L : BitVec 64) (s' : Bool) (H' L' : BitVec 64) (h : okB s H.toInt L.toInt = true) (h' : okB s' H'.toInt L'.toInt = true) (r0 r1 r2 q0 q1 q2 : Int)
    (hr : (s = true → r0 = 1 ∧ r1 = H.toNat) ∧ (s = false → r0 = 0 ∧ r1 = 0) ∧ r2 = L.toNat) (hq : (s' = true → q0 = 1 ∧ q1 = H'.toNat) ∧ (s' = false → q0 = 0 ∧ q1 = 0) ∧ q2 = L'.toNat) :
    cmp3 r0 r1 r2 q0 q1 q2 = cmpW (keyN s H L : Int) (keyN s' H' L' : Int) := by
  have a1 := H.isLt; have a2 := L.isLt; have a3 := H'.isLt; have a4 := L'.isLt
  have z : s = false → H.toNat = 0 := fun e => by subst e; rw [(okB_four H L h).1]; rfl
  have z' : s' = false → H'.toNat = 0 := fun e => by subst e; rw [(okB_four H' L' h').1]; rfl
  unfold keyN
  rw [adrN_eq, adrN_eq]
  generalize H.toNat = x at *
  generalize L.toNat = y at *
  generalize H'.toNat = x' at *
  generalize L'.toNat = y' at *
  obtain ⟨r, rf, rfl⟩ := hr
  obtain ⟨q, qf, rfl⟩ := hq
  cases s <;> cases s'
  · obtain ⟨rfl, rfl⟩ := rf rfl
    obtain ⟨rfl, rfl⟩ := qf rfl
    have z1 := z rfl; have z2 := z' rfl
    subst z1 z2
    unfold cmp3 cmpW
    simp
  · obtain ⟨rfl, rfl⟩ := rf rfl
    obtain ⟨rfl, rfl⟩ := q rfl
    have z1 := z rfl
    subst z1
    unfold cmp3 cmpW
    simp
    omega
  · obtain ⟨rfl, rfl⟩ := r rfl
    obtain ⟨rfl, rfl⟩ := qf rfl
    have z2 := z' rfl
    subst z2
    unfold cmp3 cmpW
    simp
    omega
  · obtain ⟨rfl, rfl⟩ := r rfl
    obtain ⟨rfl, rfl⟩ := q rfl
    unfold cmp3 cmpW
    rcases Int.lt_trichotomy (x : Int) (x' : Int) with hx | hx | hx
    · rw [if_neg (by omega), if_pos (by rw [if_pos hx]; omega), if_pos hx, if_pos (by simp; omega)]
    · have hxx : x = x' := by omega
      subst hxx
      rcases Int.lt_trichotomy (y : Int) (y' : Int) with hy | hy | hy
      · simp [hy]
      · have hyy : y = y' := by omega
        subst hyy; simp
      · have : ¬ (y : Int) < y' := by omega
        simp [hy, this]
    · have : ¬ (x : Int) < x' := by omega
      rw [if_neg (by omega), if_pos (by rw [if_neg this, if_pos hx]; omega), if_neg this, if_pos hx, if_neg (by simp; omega), if_pos (by simp; omega)]

theorem cmp_ok (s : Bool) (H L : BitVec 64) (s' : Bool) (H' L' : BitVec 64) (h : okB s H.toInt L.toInt = true) (h' : okB s' H'.toInt L'.toInt = true) :
      (∀ w : World, Calls Tryz.prog 56 #[.agg #[.bool s, .int .i64 H.toInt, .int .i64 L.toInt], .agg #[.bool s', .int .i64 H'.toInt, .int .i64 L'.toInt]] w fun e w' => e = .returned (.int .i64 (cmpW (keyN s H L : Int) (keyN s' H' L' : Int))) ∧ Below w.heap.size w w') ∧
      (∀ w : World, Calls Tryz.prog 106 #[.agg #[.bool s, .int .i64 H.toInt, .int .i64 L.toInt], .agg #[.bool s', .int .i64 H'.toInt, .int .i64 L'.toInt]] w fun e w' => e = .returned (.int .i64 (cmpW (keyN s H L : Int) (keyN s' H' L' : Int))) ∧ Below w.heap.size w w') := by
  have hz : Nrm s H.toInt L.toInt s H.toInt L.toInt := Or.inl ⟨h, rfl, rfl, rfl⟩
  have hz' : Nrm s' H'.toInt L'.toInt s' H'.toInt L'.toInt := Or.inl ⟨h', rfl, rfl, rfl⟩
  obtain ⟨r0, r1, r2, hr, rt, rf, r2e⟩ := Rank_ex s H.toInt L.toInt
  obtain ⟨q0, q1, q2, hr', qt, qf, q2e⟩ := Rank_ex s' H'.toInt L'.toInt
  have hi := iCmp_ne s H.toInt L.toInt s' H'.toInt L'.toInt s H.toInt L.toInt s' H'.toInt L'.toInt r0 r1 r2 q0 q1 q2 hz hr hz' hr'
  rw [wrapU] at rt r2e qt q2e
  have hk := cmp_keys s H L s' H' L' h h' r0 r1 r2 q0 q1 q2 ⟨rt, rf, r2e⟩ ⟨qt, qf, q2e⟩
  rw [hk] at hi
  refine ⟨?_, hi⟩
  rw [← hk]
  have bH := bvb H; have bL := bvb L; have bH' := bvb H'; have bL' := bvb L'
  have wH := wrapU H; have wL := wrapU L; have wH' := wrapU H'; have wL' := wrapU L'
  clear hi hk hr hr'
  subst r2e q2e
  cases s <;> cases s'
  · obtain ⟨rfl, rfl⟩ := rf rfl
    obtain ⟨rfl, rfl⟩ := qf rfl
    have e1 := (okB_four H L h).1; have e2 := (okB_four H' L' h').1
    subst e1 e2
    by_cases hL : L.toInt = L'.toInt
    · have hLL : L = L' := BitVec.eq_of_toInt_eq hL
      subst hLL
      rw [cmp3_eq]
      exact sCmp_eq false _ _ false _ _ false false _ _ _ _ hz hz' (fun wx => by rw [eqSt]; simp)
    · have hq : ∀ wx, (Op.equalIn 10000 35 (.agg #[.bool false, .int .i64 (0 : BitVec 64).toInt, .int .i64 L.toInt]) (.agg #[.bool false, .int .i64 (0 : BitVec 64).toInt, .int .i64 L'.toInt])).run Tryz.prog wx = .ok false wx := fun wx => by rw [eqSt]; simp [hL]
      have u0 : ult (0 : BitVec 64).toInt (0 : BitVec 64).toInt = false := by simp [ult]
      have ne : IntKind.u64.wrap L.toInt ≠ IntKind.u64.wrap L'.toInt := fun e => hL (u64_inj bL bL' e)
      cases u : ult L.toInt L'.toInt
      · rw [cmp3_gt2 (by have := ult_f u; omega)]
        exact sCmp_gt2 false _ _ false _ _ false _ _ _ _ hz hz' hq u0 (by simp) u
      · rw [cmp3_lt2 (by have := ult_t u; omega)]
        exact sCmp_lt2 false _ _ false _ _ false _ _ _ _ hz hz' hq u0 (by simp) u
  · obtain ⟨rfl, rfl⟩ := rf rfl
    obtain ⟨rfl, rfl⟩ := qt rfl
    rw [cmp3_lt0 (by omega)]
    exact sCmp_ft false _ _ true _ _ _ _ _ _ hz hz' (fun wx => by rw [eqSt]; simp)
  · obtain ⟨rfl, rfl⟩ := rt rfl
    obtain ⟨rfl, rfl⟩ := qf rfl
    rw [cmp3_gt0 (by omega)]
    exact sCmp_tf true _ _ false _ _ _ _ _ _ hz hz' (fun wx => by rw [eqSt]; simp)
  · obtain ⟨rfl, rfl⟩ := rt rfl
    obtain ⟨rfl, rfl⟩ := qt rfl
    by_cases hH : H.toInt = H'.toInt
    · have hHH : H = H' := BitVec.eq_of_toInt_eq hH
      subst hHH
      by_cases hL : L.toInt = L'.toInt
      · have hLL : L = L' := BitVec.eq_of_toInt_eq hL
        subst hLL
        rw [cmp3_eq]
        exact sCmp_eq true _ _ true _ _ true true _ _ _ _ hz hz' (fun wx => by rw [eqSt]; simp)
      · have hq : ∀ wx, (Op.equalIn 10000 35 (.agg #[.bool true, .int .i64 H.toInt, .int .i64 L.toInt]) (.agg #[.bool true, .int .i64 H.toInt, .int .i64 L'.toInt])).run Tryz.prog wx = .ok false wx := fun wx => by rw [eqSt]; simp [hL]
        have u0 : ult H.toInt H.toInt = false := by simp [ult]
        have ne : IntKind.u64.wrap L.toInt ≠ IntKind.u64.wrap L'.toInt := fun e => hL (u64_inj bL bL' e)
        cases u : ult L.toInt L'.toInt
        · rw [cmp3_gt2 (by have := ult_f u; omega)]
          exact sCmp_gt2 true _ _ true _ _ true _ _ _ _ hz hz' hq u0 (by simp) u
        · rw [cmp3_lt2 (by have := ult_t u; omega)]
          exact sCmp_lt2 true _ _ true _ _ true _ _ _ _ hz hz' hq u0 (by simp) u
    · have hq : ∀ wx, (Op.equalIn 10000 35 (.agg #[.bool true, .int .i64 H.toInt, .int .i64 L.toInt]) (.agg #[.bool true, .int .i64 H'.toInt, .int .i64 L'.toInt])).run Tryz.prog wx = .ok false wx := fun wx => by rw [eqSt]; simp [hH]
      have ne : IntKind.u64.wrap H.toInt ≠ IntKind.u64.wrap H'.toInt := fun e => hH (u64_inj bH bH' e)
      cases u : ult H.toInt H'.toInt
      · rw [cmp3_gt1 (by have := ult_f u; omega)]
        exact sCmp_gt1 true _ _ true _ _ true _ _ _ _ hz hz' hq u (by simp [hH])
      · rw [cmp3_lt1 (by have := ult_t u; omega)]
        exact sCmp_lt1 true _ _ true _ _ true _ _ _ _ hz hz' hq u

/-- The order of two prefixes. -/
def cmpP (p q : Pf) : Int := orI (cmpW (keyN p.s p.H p.L : Int) (keyN q.s q.H q.L : Int)) (cmpW p.b q.b)

theorem sCmpP (p q : Pf) (hp : pokB p.s p.H p.L p.b = true) (hq : pokB q.s q.H q.L q.b = true) (w : World) :
    Calls Tryz.prog 25 #[.agg #[.bool p.s, .int .i64 p.H.toInt, .int .i64 p.L.toInt, .int .i64 p.b], .agg #[.bool q.s, .int .i64 q.H.toInt, .int .i64 q.L.toInt, .int .i64 q.b]] w fun e w' => e = .returned (.int .i64 (cmpP p q)) ∧ Below w.heap.size w w' :=
  sCmpPrefix_any p.s p.H.toInt p.L.toInt p.b q.s q.H.toInt q.L.toInt q.b _ (cmp_ok p.s p.H p.L q.s q.H q.L (pokB_parts hp).1 (pokB_parts hq).1).1 w
theorem iCmpP (p q : Pf) (hp : pokB p.s p.H p.L p.b = true) (hq : pokB q.s q.H q.L q.b = true) (w : World) :
    Calls Tryz.prog 93 #[.agg #[.bool p.s, .int .i64 p.H.toInt, .int .i64 p.L.toInt, .int .i64 p.b], .agg #[.bool q.s, .int .i64 q.H.toInt, .int .i64 q.L.toInt, .int .i64 q.b]] w fun e w' => e = .returned (.int .i64 (cmpP p q)) ∧ Below w.heap.size w w' :=
  iCmpPrefix_any p.s p.H.toInt p.L.toInt p.b q.s q.H.toInt q.L.toInt q.b _ (cmp_ok p.s p.H p.L q.s q.H q.L (pokB_parts hp).1 (pokB_parts hq).1).2 w

end Go.Proofs.YtmbmekcppmbokaaGreat
