/-
  For every two addresses the two CmpAddr answer alike, so the exact law of CmpAddr returns true; no condition.
-/
import Derived.Test.YtkmfbbcofojfaabACmpI
import Derived.Test.YtkmfbbcofojfaabACmpS
import Derived.ProofKit
import Derived.Lib.SmallJoins
namespace Go.Proofs.Ytkmfbbcofojfaab
open Go.ChangeShapes Go.WideShapes Go.ChangeAt Go.RowKit Go.Joins

theorem ult_t {a b : Int} (h : ult a b = true) : IntKind.u64.wrap a < IntKind.u64.wrap b := by simpa [ult] using h
theorem ult_f {a b : Int} (h : ult a b = false) : ¬ IntKind.u64.wrap a < IntKind.u64.wrap b := by simpa [ult] using h
theorem u64_inj {a b : Int} (ha : -9223372036854775808 ≤ a ∧ a ≤ 9223372036854775807) (hb : -9223372036854775808 ≤ b ∧ b ≤ 9223372036854775807) (h : IntKind.u64.wrap a = IntKind.u64.wrap b) : a = b := by
  rw [IntKind.wrap_u64, IntKind.wrap_u64] at h; omega

theorem cmp3_lt0 {a0 a1 a2 b0 b1 b2 : Int} (h : a0 < b0) : cmp3 a0 a1 a2 b0 b1 b2 = -1 := by simp [cmp3, cmpW, h]
theorem cmp3_gt0 {a0 a1 a2 b0 b1 b2 : Int} (h : b0 < a0) : cmp3 a0 a1 a2 b0 b1 b2 = 1 := by
  have : ¬ a0 < b0 := by omega
  simp [cmp3, cmpW, h, this]
theorem cmp3_lt1 {a a1 a2 b1 b2 : Int} (h : a1 < b1) : cmp3 a a1 a2 a b1 b2 = -1 := by simp [cmp3, cmpW, h]
theorem cmp3_gt1 {a a1 a2 b1 b2 : Int} (h : b1 < a1) : cmp3 a a1 a2 a b1 b2 = 1 := by
  have : ¬ a1 < b1 := by omega
  simp [cmp3, cmpW, h, this]
theorem cmp3_lt2 {a b a2 b2 : Int} (h : a2 < b2) : cmp3 a b a2 a b b2 = -1 := by simp [cmp3, cmpW, h]
theorem cmp3_gt2 {a b a2 b2 : Int} (h : b2 < a2) : cmp3 a b a2 a b b2 = 1 := by
  have : ¬ a2 < b2 := by omega
  simp [cmp3, cmpW, h, this]
theorem cmp3_eq (a b c : Int) : cmp3 a b c a b c = 0 := by simp [cmp3, cmpW]

theorem Rank_ex (S : Bool) (H L : Int) : ∃ r0 r1 r2, Rank S H L r0 r1 r2 ∧ (S = true → r0 = 1 ∧ r1 = IntKind.u64.wrap H) ∧ (S = false → r0 = 0 ∧ r1 = 0) ∧ r2 = IntKind.u64.wrap L := by
  cases S
  · exact ⟨0, 0, _, Or.inr ⟨rfl, rfl, rfl, rfl⟩, by simp, by simp, rfl⟩
  · exact ⟨1, _, _, Or.inl ⟨rfl, rfl, rfl, rfl⟩, by simp, by simp, rfl⟩

/-- Both CmpAddr return one and the same number. -/
theorem cmp_both (s : Bool) (h l : Int) (s' : Bool) (h' l' : Int) (wh : -9223372036854775808 ≤ h ∧ h ≤ 9223372036854775807) (wl : -9223372036854775808 ≤ l ∧ l ≤ 9223372036854775807) (wh' : -9223372036854775808 ≤ h' ∧ h' ≤ 9223372036854775807) (wl' : -9223372036854775808 ≤ l' ∧ l' ≤ 9223372036854775807) :
    ∃ c : Int,
      (∀ w : World, Calls Try.prog 7 #[.agg #[.bool s, .int .i64 h, .int .i64 l], .agg #[.bool s', .int .i64 h', .int .i64 l']] w fun e w' => e = .returned (.int .i64 c) ∧ Below w.heap.size w w') ∧
      (∀ w : World, Calls Try.prog 9 #[.agg #[.bool s, .int .i64 h, .int .i64 l], .agg #[.bool s', .int .i64 h', .int .i64 l']] w fun e w' => e = .returned (.int .i64 c) ∧ Below w.heap.size w w') := by
  obtain ⟨S, H, L, hz, bH, bL, hS⟩ := Nrm_ex s h l wh wl
  obtain ⟨S', H', L', hz', bH', bL', hS'⟩ := Nrm_ex s' h' l' wh' wl'
  obtain ⟨r0, r1, r2, hr, rt, rf, r2e⟩ := Rank_ex S H L
  obtain ⟨q0, q1, q2, hr', qt, qf, q2e⟩ := Rank_ex S' H' L'
  have hi := iCmp_ne s h l s' h' l' S H L S' H' L' r0 r1 r2 q0 q1 q2 hz hr hz' hr'
  subst r2e q2e
  cases S <;> cases S'
  · obtain ⟨rfl, rfl⟩ := rf rfl
    obtain ⟨rfl, rfl⟩ := qf rfl
    obtain ⟨rfl, _, _⟩ := hS rfl
    obtain ⟨rfl, _, _⟩ := hS' rfl
    by_cases hL : L = L'
    · subst hL
      rw [cmp3_eq] at hi
      exact ⟨0, sCmp_eq s h l s' h' l' false false 0 L 0 L hz hz' (fun wx => by rw [eqSt]; simp), hi⟩
    · have hq : ∀ wx, (Op.equalIn 10000 25 (.agg #[.bool false, .int .i64 0, .int .i64 L]) (.agg #[.bool false, .int .i64 0, .int .i64 L'])).run Try.prog wx = .ok false wx := fun wx => by rw [eqSt]; simp [hL]
      have u0 : ult 0 0 = false := by simp [ult]
      have ne : IntKind.u64.wrap L ≠ IntKind.u64.wrap L' := fun e => hL (u64_inj bL bL' e)
      cases u : ult L L'
      · rw [cmp3_gt2 (by have := ult_f u; omega)] at hi
        exact ⟨1, sCmp_gt2 s h l s' h' l' false 0 L 0 L' hz hz' hq u0 (by simp) u, hi⟩
      · rw [cmp3_lt2 (ult_t u)] at hi
        exact ⟨-1, sCmp_lt2 s h l s' h' l' false 0 L 0 L' hz hz' hq u0 (by simp) u, hi⟩
  · obtain ⟨rfl, rfl⟩ := rf rfl
    obtain ⟨rfl, rfl⟩ := qt rfl
    rw [cmp3_lt0 (by omega)] at hi
    exact ⟨-1, sCmp_ft s h l s' h' l' H L H' L' hz hz' (fun wx => by rw [eqSt]; simp), hi⟩
  · obtain ⟨rfl, rfl⟩ := rt rfl
    obtain ⟨rfl, rfl⟩ := qf rfl
    rw [cmp3_gt0 (by omega)] at hi
    exact ⟨1, sCmp_tf s h l s' h' l' H L H' L' hz hz' (fun wx => by rw [eqSt]; simp), hi⟩
  · obtain ⟨rfl, rfl⟩ := rt rfl
    obtain ⟨rfl, rfl⟩ := qt rfl
    by_cases hH : H = H'
    · subst hH
      by_cases hL : L = L'
      · subst hL
        rw [cmp3_eq] at hi
        exact ⟨0, sCmp_eq s h l s' h' l' true true H L H L hz hz' (fun wx => by rw [eqSt]; simp), hi⟩
      · have hq : ∀ wx, (Op.equalIn 10000 25 (.agg #[.bool true, .int .i64 H, .int .i64 L]) (.agg #[.bool true, .int .i64 H, .int .i64 L'])).run Try.prog wx = .ok false wx := fun wx => by rw [eqSt]; simp [hL]
        have u0 : ult H H = false := by simp [ult]
        have ne : IntKind.u64.wrap L ≠ IntKind.u64.wrap L' := fun e => hL (u64_inj bL bL' e)
        cases u : ult L L'
        · rw [cmp3_gt2 (by have := ult_f u; omega)] at hi
          exact ⟨1, sCmp_gt2 s h l s' h' l' true H L H L' hz hz' hq u0 (by simp) u, hi⟩
        · rw [cmp3_lt2 (ult_t u)] at hi
          exact ⟨-1, sCmp_lt2 s h l s' h' l' true H L H L' hz hz' hq u0 (by simp) u, hi⟩
    · have hq : ∀ wx, (Op.equalIn 10000 25 (.agg #[.bool true, .int .i64 H, .int .i64 L]) (.agg #[.bool true, .int .i64 H', .int .i64 L'])).run Try.prog wx = .ok false wx := fun wx => by rw [eqSt]; simp [hH]
      have ne : IntKind.u64.wrap H ≠ IntKind.u64.wrap H' := fun e => hH (u64_inj bH bH' e)
      cases u : ult H H'
      · rw [cmp3_gt1 (by have := ult_f u; omega)] at hi
        exact ⟨1, sCmp_gt1 s h l s' h' l' true H L H' L' hz hz' hq u (by simp [hH]), hi⟩
      · rw [cmp3_lt1 (ult_t u)] at hi
        exact ⟨-1, sCmp_lt1 s h l s' h' l' true H L H' L' hz hz' hq u, hi⟩

set_option maxHeartbeats 2000000 in
theorem lawCmp (s : Bool) (h l : Int) (s' : Bool) (h' l' : Int) (wh : -9223372036854775808 ≤ h ∧ h ≤ 9223372036854775807) (wl : -9223372036854775808 ≤ l ∧ l ≤ 9223372036854775807) (wh' : -9223372036854775808 ≤ h' ∧ h' ≤ 9223372036854775807) (wl' : -9223372036854775808 ≤ l' ∧ l' ≤ 9223372036854775807) (w : World) :
    Calls Try.prog 3 #[.agg #[.bool s, .int .i64 h, .int .i64 l], .agg #[.bool s', .int .i64 h', .int .i64 l']] w fun e w' => e = .returned (.bool true) ∧ Below w.heap.size w w' := by
  obtain ⟨c, hs, hi⟩ := cmp_both s h l s' h' l' wh wl wh' wl'
  have HS : Hid (∀ w : World, Calls Try.prog 7 #[.agg #[.bool s, .int .i64 h, .int .i64 l], .agg #[.bool s', .int .i64 h', .int .i64 l']] w fun e w' => e = .returned (.int .i64 c) ∧ Below w.heap.size w w') := hs
  have HI : Hid (∀ w : World, Calls Try.prog 9 #[.agg #[.bool s, .int .i64 h, .int .i64 l], .agg #[.bool s', .int .i64 h', .int .i64 l']] w fun e w' => e = .returned (.int .i64 c) ∧ Below w.heap.size w w') := hi
  clear hs hi wh wl wh' wl'
  go_enter Try.func3, Try.ntmps3
  go_wp2_with fail
  go_region_held3 (fun x => x.cell? ⟨w.heap.size, 0, none⟩ = some (.bool s) ∧ x.cell? ⟨w.heap.size, 1, none⟩ = some (.int .i64 h) ∧ x.cell? ⟨w.heap.size, 2, none⟩ = some (.int .i64 l)
      ∧ x.cell? ⟨w.heap.size + 1, 0, none⟩ = some (.bool s') ∧ x.cell? ⟨w.heap.size + 1, 1, none⟩ = some (.int .i64 h') ∧ x.cell? ⟨w.heap.size + 1, 2, none⟩ = some (.int .i64 l')) ((refine six_of_below (W := (w.alloc (.cells #[.bool s, .int .i64 h, .int .i64 l] 23)).alloc (.cells #[.bool s', .int .i64 h', .int .i64 l'] 23)) (n := w.heap.size + 2) ?_ (Nat.lt_add_of_pos_right (Nat.succ_pos _)) (Nat.lt_succ_self _) ⟨by simp [go_sem], by simp [go_sem], by simp [go_sem], by simp [go_sem], by simp [go_sem], by simp [go_sem]⟩; repeat (first | with_reducible exact Below.refl _ _ | (with_reducible refine Below.drew ?_) | (with_reducible refine Below.trans ?_ (hb3.mono ?_); rotate_left; (focus (first | omega | (simp; omega) | (simp; done)))) | (with_reducible refine Below.trans ?_ (hb2.mono ?_); rotate_left; (focus (first | omega | (simp; omega) | (simp; done)))) | (with_reducible refine Below.trans ?_ (hb1.mono ?_); rotate_left; (focus (first | omega | (simp; omega) | (simp; done)))) )))
    (first
      | (go_at_call_of 8 (Value.int .i64 h); refine (toAddr_any s h l _).mono ?_; rintro e w1 ⟨rfl, hb1⟩; have hz1 := hb1.size; (try simp at hz1))
      | (go_at_call_of 8 (Value.int .i64 h'); refine (toAddr_any s' h' l' _).mono ?_; rintro e w2 ⟨rfl, hb2⟩; have hz2 := hb2.size; (try simp at hz2))
      | (go_at_call 7; refine (HS.out _).mono ?_; rintro e w3 ⟨rfl, hb3⟩; have hz3 := hb3.size; (try simp at hz3)))
  have hb : Below (w.heap.size + 2) ((w.alloc (.cells #[.bool s, .int .i64 h, .int .i64 l] 23)).alloc (.cells #[.bool s', .int .i64 h', .int .i64 l'] 23)) w3 := by
    repeat (first | with_reducible exact Below.refl _ _ | (with_reducible refine Below.drew ?_) | (with_reducible refine Below.trans ?_ (hb3.mono ?_); rotate_left; (focus (first | omega | (simp; omega) | (simp; done)))) | (with_reducible refine Below.trans ?_ (hb2.mono ?_); rotate_left; (focus (first | omega | (simp; omega) | (simp; done)))) | (with_reducible refine Below.trans ?_ (hb1.mono ?_); rotate_left; (focus (first | omega | (simp; omega) | (simp; done)))) )
  have K6 : Hid (w3.cell? ⟨w.heap.size, 0, none⟩ = some (.bool s) ∧ w3.cell? ⟨w.heap.size, 1, none⟩ = some (.int .i64 h) ∧ w3.cell? ⟨w.heap.size, 2, none⟩ = some (.int .i64 l)
      ∧ w3.cell? ⟨w.heap.size + 1, 0, none⟩ = some (.bool s') ∧ w3.cell? ⟨w.heap.size + 1, 1, none⟩ = some (.int .i64 h') ∧ w3.cell? ⟨w.heap.size + 1, 2, none⟩ = some (.int .i64 l')) :=
    six_of_below hb (Nat.lt_add_of_pos_right (Nat.succ_pos _)) (Nat.lt_succ_self _) ⟨by simp [go_sem], by simp [go_sem], by simp [go_sem], by simp [go_sem], by simp [go_sem], by simp [go_sem]⟩
  have z3 : w.heap.size + 2 ≤ w3.heap.size := by have := hb.size; simp at this; omega
  have g3 : Below w.heap.size w w3 := (((Below.refl _ w).alloc (Nat.le_refl _) _).alloc (by simp) _).trans (hb.mono (by omega))
  clear hb hb1 hb2 hb3
  go_wp2_with fail
  go_region_held3 (fun x => x.cell? ⟨w.heap.size, 0, none⟩ = some (.bool s) ∧ x.cell? ⟨w.heap.size, 1, none⟩ = some (.int .i64 h) ∧ x.cell? ⟨w.heap.size, 2, none⟩ = some (.int .i64 l)
      ∧ x.cell? ⟨w.heap.size + 1, 0, none⟩ = some (.bool s') ∧ x.cell? ⟨w.heap.size + 1, 1, none⟩ = some (.int .i64 h') ∧ x.cell? ⟨w.heap.size + 1, 2, none⟩ = some (.int .i64 l')) ((refine six_of_below (W := w3) (n := w.heap.size + 2) ?_ (Nat.lt_add_of_pos_right (Nat.succ_pos _)) (Nat.lt_succ_self _) K6.out; repeat (first | with_reducible exact Below.refl _ _ | (with_reducible refine Below.drew ?_) | (with_reducible refine Below.trans ?_ (hb6.mono ?_); rotate_left; (focus (first | omega | (simp; omega) | (simp; done)))) | (with_reducible refine Below.trans ?_ (hb5.mono ?_); rotate_left; (focus (first | omega | (simp; omega) | (simp; done)))) | (with_reducible refine Below.trans ?_ (hb4.mono ?_); rotate_left; (focus (first | omega | (simp; omega) | (simp; done)))) )))
    (first
      | (go_at_call_of 8 (Value.int .i64 h); refine (toAddr_any s h l _).mono ?_; rintro e w4 ⟨rfl, hb4⟩; have hz4 := hb4.size; (try simp at hz4))
      | (go_at_call_of 8 (Value.int .i64 h'); refine (toAddr_any s' h' l' _).mono ?_; rintro e w5 ⟨rfl, hb5⟩; have hz5 := hb5.size; (try simp at hz5))
      | (go_at_call 9; refine (HI.out _).mono ?_; rintro e w6 ⟨rfl, hb6⟩; have hz6 := hb6.size; (try simp at hz6)))
  have he : Below w.heap.size w3 w6 := by
    repeat (first | with_reducible exact Below.refl _ _ | (with_reducible refine Below.drew ?_) | (with_reducible refine Below.trans ?_ (hb6.mono ?_); rotate_left; (focus (first | omega | (simp; omega) | (simp; done)))) | (with_reducible refine Below.trans ?_ (hb5.mono ?_); rotate_left; (focus (first | omega | (simp; omega) | (simp; done)))) | (with_reducible refine Below.trans ?_ (hb4.mono ?_); rotate_left; (focus (first | omega | (simp; omega) | (simp; done)))) )
  go_wp2_with fail
  go_ret
  exact ⟨rfl, g3.trans he⟩

theorem Try.ownCmp : ownKnob Try.prog.godebug = none := by kernel_rfl
theorem Try.cellsCmp : Try.prog.cellsOf 23 = 3 := by kernel_rfl
/-- A number of the kind int lies in its bounds. -/
theorem wf_bdC {x : Int} (h : (Lit.int .i64 x).wf = true) : -9223372036854775808 ≤ x ∧ x ≤ 9223372036854775807 := by
  simpa [Lit.wf, IntKind.min, IntKind.max, IntKind.signed, IntKind.bits] using h

/-- An address by value, read again in whatever world. -/
theorem readC {H : Type} {enc : TypeId × Value → H} {s : Bool} {a b : Int} (wa : (Lit.int .i64 a).wf = true) (wb : (Lit.int .i64 b).wf = true) (W' : World) (sp : Nat → Bool) :
    DataW.Trod enc Try.prog W' 0 sp true 23 (.agg #[.bool s, .int .i64 a, .int .i64 b]) (.agg [.lit (.bool s), .lit (.int .i64 a), .lit (.int .i64 b)]) [] :=
  shut_agg3 (y0 := (.lit (.bool s), [])) (y1 := (.lit (.int .i64 a), [])) (y2 := (.lit (.int .i64 b), [])) Try.underlying23 (by kernel_rfl) Try.cellsCmp ⟨1, by simp [DataW.trod, Try.underlying4]⟩ ⟨1, by simp [DataW.trod, Try.underlying3, wa]⟩ ⟨1, by simp [DataW.trod, Try.underlying3, wb]⟩

set_option maxRecDepth 100000 in
theorem cmp_lifted (os : Os) (started : os.Started) (H : Type) (enc : TypeId × Value → H) :
    ReturnsInHanded {} Try.checked os 3 .any (Rows.fnExactCmpAddrSpec.pre6 enc Try.prog Try.f3 Rows.fnExactCmpAddrRow.domain false) (Rows.fnExactCmpAddrSpec.post enc Try.prog Try.f3 false true false false) := by
  refine returnsInHanded_of_change (C := Try.checked) Try.ownCmp started (by kernel_rfl) Try.func3
    (ChangeSpec.witness6 (enc := enc) (C := Try.checked) false ⟨#[], #[.agg #[.bool false, .int .i64 0, .int .i64 0], .agg #[.bool false, .int .i64 0, .int .i64 0]], []⟩ 8 (by kernel_rfl) (by kernel_rfl) (by kernel_rfl) (by kernel_rfl)) ?_
  intro W base args ds gs before hval0 hW _ _
  have hval : ∀ (j : Nat) t v, Try.f3.params[j]? = some t → args[j]? = some v → Value.okWide Try.prog W .any base t v := hval0
  have hW' := hW
  obtain ⟨p, q, hA0, hV, rfl, _, _⟩ := hW
  have hA : DataW.TrodAll enc Try.prog W 0 (fun _ => true) true Try.f3.params.toList args.toList ds p := hA0
  rw [Try.params3] at hA hval
  obtain ⟨v0, v1, d0, d1, p0, p1, rfl, rfl, rfl, h0, h1⟩ := trodAll_two hA
  obtain ⟨rfl, rfl⟩ := trodVars_none hV
  obtain ⟨k0, k1, k2, y0, y1, y2, m, rfl, rfl, rfl, hy0, hy1, hy2⟩ := open_agg3 Try.underlying23 (by kernel_rfl) Try.cellsCmp (hval 0 23 v0 rfl rfl) h0
  obtain ⟨j0, j1, j2, x0, x1, x2, m', rfl, rfl, rfl, hx0, hx1, hx2⟩ := open_agg3 Try.underlying23 (by kernel_rfl) Try.cellsCmp (hval 1 23 v1 rfl rfl) h1
  obtain ⟨s, e0, rfl⟩ := DataW.trod_bool Try.underlying4 hy0
  obtain ⟨a, e1, rfl, wa⟩ := DataW.trod_int Try.underlying3 hy1
  obtain ⟨b, e2, rfl, wb⟩ := DataW.trod_int Try.underlying3 hy2
  obtain ⟨s', f0, rfl⟩ := DataW.trod_bool Try.underlying4 hx0
  obtain ⟨a', f1, rfl, wa'⟩ := DataW.trod_int Try.underlying3 hx1
  obtain ⟨b', f2, rfl, wb'⟩ := DataW.trod_int Try.underlying3 hx2
  simp at e0 e1 e2 f0 f1 f2
  subst e0 e1 e2 f0 f1 f2
  clear hA0 hval0
  simp only [List.append_nil] at hW'
  refine (lawCmp s a b s' a' b' (wf_bdC wa) (wf_bdC wb) (wf_bdC wa') (wf_bdC wb') W).mono fun e W' ⟨he, hb⟩ => ?_
  subst he
  exact ⟨_, rfl, ⟨_, _, _, [], [], [], hW', trodAll_mk1 (shut_bool Try.underlying4 true), trodAll_mk2 (readC wa wb _ _) (readC wa' wb' _ _), rfl, hb.frame _, fun h => by cases h⟩⟩

theorem cmpAddr_holds : Rows.FnExactCmpAddrSaid :=
  OpenClaim.holds_of_wide 3 Try.f3 rfl rfl rfl rfl rfl rfl rfl ⟨rfl, rfl, rfl, rfl, rfl⟩ rfl rfl rfl rfl rfl (by kernel_rfl) Try.func3 (by kernel_rfl)
    (of_decide_eq_true (by kernel_rfl)) (by unfold Func.isWrapper; rw [if_neg (of_decide_eq_false (by kernel_rfl))]; exact ⟨rfl, rfl⟩)
    (fun os started H enc _ => cmp_lifted os started H enc)

end Go.Proofs.Ytkmfbbcofojfaab
