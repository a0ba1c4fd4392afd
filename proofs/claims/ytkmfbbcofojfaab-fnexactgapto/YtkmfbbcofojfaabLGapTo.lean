/-
  For every two addresses the two GapTo answer alike, so the exact law of GapTo returns true; no condition.
-/
import Derived.Test.YtkmfbbcofojfaabACmpI
import Derived.Test.YtkmfbbcofojfaabAGapI
import Derived.Test.YtkmfbbcofojfaabAGapS
import Derived.ProofKit
import Derived.Lib.SmallJoins
namespace Go.Proofs.Ytkmfbbcofojfaab
open Go.ChangeShapes Go.WideShapes Go.ChangeAt Go.RowKit Go.Joins

theorem ultg_t {a b : Int} (h : ult a b = true) : IntKind.u64.wrap a < IntKind.u64.wrap b := by simpa [ult] using h
theorem ultg_f {a b : Int} (h : ult a b = false) : ¬ IntKind.u64.wrap a < IntKind.u64.wrap b := by simpa [ult] using h
theorem u64g_inj {a b : Int} (ha : -9223372036854775808 ≤ a ∧ a ≤ 9223372036854775807) (hb : -9223372036854775808 ≤ b ∧ b ≤ 9223372036854775807) (h : IntKind.u64.wrap a = IntKind.u64.wrap b) : a = b := by
  rw [IntKind.wrap_u64, IntKind.wrap_u64] at h; omega

/-- A right address is its own. -/
theorem Nrm_self (S : Bool) (H L : Int) (hS : S = false → H = 0 ∧ 0 ≤ L ∧ L ≤ 4294967295) : Nrm S H L S H L := by
  refine Or.inl ⟨?_, rfl, rfl, rfl⟩
  cases S
  · obtain ⟨rfl, h0, h1⟩ := hS rfl; exact okB_yes L h0 h1
  · exact okB_t H L

/-- The order of two right addresses of one width: below 0 just where the words are less. -/
theorem sCmp_sign (S : Bool) (H L H' L' : Int) (hS : S = false → H = 0 ∧ 0 ≤ L ∧ L ≤ 4294967295) (hS' : S = false → H' = 0 ∧ 0 ≤ L' ∧ L' ≤ 4294967295) (bH : -9223372036854775808 ≤ H ∧ H ≤ 9223372036854775807) (bH' : -9223372036854775808 ≤ H' ∧ H' ≤ 9223372036854775807) :
    ∃ c : Int, (∀ w : World, Calls Try.prog 7 #[.agg #[.bool S, .int .i64 H', .int .i64 L'], .agg #[.bool S, .int .i64 H, .int .i64 L]] w fun e w' => e = .returned (.int .i64 c) ∧ Below w.heap.size w w')
      ∧ (c < 0 ↔ (IntKind.u64.wrap H' < IntKind.u64.wrap H ∨ (IntKind.u64.wrap H' = IntKind.u64.wrap H ∧ IntKind.u64.wrap L' < IntKind.u64.wrap L))) := by
  have z := Nrm_self S H L hS
  have z' := Nrm_self S H' L' hS'
  by_cases hH : H' = H
  · subst hH
    by_cases hL : L' = L
    · subst hL
      exact ⟨0, sCmp_eq S H' L' S H' L' S S H' L' H' L' z' z (fun wx => by rw [eqSt]; simp), by omega⟩
    · have hq : ∀ wx, (Op.equalIn 10000 25 (.agg #[.bool S, .int .i64 H', .int .i64 L']) (.agg #[.bool S, .int .i64 H', .int .i64 L])).run Try.prog wx = .ok false wx := fun wx => by rw [eqSt]; simp [hL]
      have u0 : ult H' H' = false := by simp [ult]
      cases u : ult L' L
      · have := ultg_f u
        exact ⟨1, sCmp_gt2 S H' L' S H' L S H' L' H' L z' z hq u0 (by simp) u, by omega⟩
      · have := ultg_t u
        exact ⟨-1, sCmp_lt2 S H' L' S H' L S H' L' H' L z' z hq u0 (by simp) u, by omega⟩
  · have hq : ∀ wx, (Op.equalIn 10000 25 (.agg #[.bool S, .int .i64 H', .int .i64 L']) (.agg #[.bool S, .int .i64 H, .int .i64 L])).run Try.prog wx = .ok false wx := fun wx => by rw [eqSt]; simp [hH]
    have ne : IntKind.u64.wrap H' ≠ IntKind.u64.wrap H := fun e => hH (u64g_inj bH' bH e)
    cases u : ult H' H
    · have := ultg_f u
      exact ⟨1, sCmp_gt1 S H' L' S H L S H' L' H L z' z hq u (by simp [hH]), by omega⟩
    · have := ultg_t u
      exact ⟨-1, sCmp_lt1 S H' L' S H L S H' L' H L z' z hq u, by omega⟩

theorem lo_is (u v : Int) : subD u v 0 = IntKind.u64.wrap (u - v) := by rw [IntKind.wrap_u64]; unfold subD; congr 1; omega
theorem hi_is0 (x y : Int) : subD x y 0 = IntKind.u64.wrap (x - y) := lo_is x y
theorem hi_is1 (x y : Int) : subD x y 1 = IntKind.u64.wrap (IntKind.u64.wrap (x - y) - 1) := by rw [IntKind.wrap_u64, IntKind.wrap_u64]; unfold subD; omega
theorem bo_0 {u v : Int} (h : ¬ u < v) : subB u v 0 = 0 := by unfold subB; rw [if_neg (by omega)]
theorem bo_1 {u v : Int} (h : u < v) : subB u v 0 = 1 := by unfold subB; rw [if_pos (by omega)]
theorem be_t {x y b : Int} (h : x < y + b) : (subB x y b != 0) = true := by unfold subB; rw [if_pos h]; rfl
theorem be_f {x y b : Int} (h : ¬ x < y + b) : (subB x y b != 0) = false := by unfold subB; rw [if_neg h]; rfl
theorem BitG1 : BitG 1 := by unfold BitG; omega
theorem wrap_nn (x : Int) : 0 ≤ IntKind.u64.wrap x := by rw [IntKind.wrap_u64]; omega

/-- Both GapTo return one and the same pair. -/
theorem gap_both (s : Bool) (h l : Int) (s' : Bool) (h' l' : Int) (wh : -9223372036854775808 ≤ h ∧ h ≤ 9223372036854775807) (wl : -9223372036854775808 ≤ l ∧ l ≤ 9223372036854775807) (wh' : -9223372036854775808 ≤ h' ∧ h' ≤ 9223372036854775807) (wl' : -9223372036854775808 ≤ l' ∧ l' ≤ 9223372036854775807) :
    ∃ (c : Int) (ok : Bool),
      (∀ w : World, Calls Try.prog 13 #[.agg #[.bool s, .int .i64 h, .int .i64 l], .agg #[.bool s', .int .i64 h', .int .i64 l']] w fun e w' => e = .returned (.tuple #[.int .i64 c, .bool ok]) ∧ Below w.heap.size w w') ∧
      (∀ w : World, Calls Try.prog 14 #[.agg #[.bool s, .int .i64 h, .int .i64 l], .agg #[.bool s', .int .i64 h', .int .i64 l']] w fun e w' => e = .returned (.tuple #[.int .i64 c, .bool ok]) ∧ Below w.heap.size w w') := by
  obtain ⟨S, H, L, hz, bH, _, hS⟩ := Nrm_ex s h l wh wl
  obtain ⟨S', H', L', hz', bH', _, hS'⟩ := Nrm_ex s' h' l' wh' wl'
  have a1 := sub64 (IntKind.u64.wrap L') (IntKind.u64.wrap L) 0 (WordG_u _) (WordG_u _) BitG0
  have a2 := sub64 (IntKind.u64.wrap H') (IntKind.u64.wrap H) (subB (IntKind.u64.wrap L') (IntKind.u64.wrap L) 0) (WordG_u _) (WordG_u _) (subB_bit _ _ _)
  by_cases hSS : S = S'
  · subst hSS
    obtain ⟨c, HC, hcs⟩ := sCmp_sign S H L H' L' hS hS' bH bH'
    rw [lo_is] at a1
    cases u : ult L' L
    · have hn := ultg_f u
      rw [bo_0 hn] at a1 a2
      rw [hi_is0] at a2
      by_cases hc : c < 0
      · exact ⟨0, false, sGap_neg s h l s' h' l' S H L H' L' hz hz' c HC hc, iGap_below s h l s' h' l' S H L H' L' _ _ _ _ hz hz' a1 a2 (be_t (by omega))⟩
      · have k1 : (subB (IntKind.u64.wrap H') (IntKind.u64.wrap H) 0 != 0) = false := be_f (by omega)
        cases k2 : (IntKind.u64.wrap (IntKind.u64.wrap H' - IntKind.u64.wrap H) != 0)
        · by_cases k3 : IntKind.u64.wrap (IntKind.u64.wrap L' - IntKind.u64.wrap L) ≤ 9223372036854775807
          · exact ⟨_, true, sGap_ok0 s h l s' h' l' S H L H' L' hz hz' c HC (by omega) u k2 k3 (wrap_nn _), iGap_ok s h l s' h' l' S H L H' L' _ _ _ _ hz hz' a1 a2 k1 k2 k3 (wrap_nn _)⟩
          · exact ⟨0, false, sGap_lo0 s h l s' h' l' S H L H' L' hz hz' c HC (by omega) u k2 (by omega), iGap_lo s h l s' h' l' S H L H' L' _ _ _ _ hz hz' a1 a2 k1 k2 (by omega)⟩
        · exact ⟨0, false, sGap_hi0 s h l s' h' l' S H L H' L' hz hz' c HC (by omega) u k2, iGap_hi s h l s' h' l' S H L H' L' _ _ _ _ hz hz' a1 a2 k1 k2⟩
    · have hn := ultg_t u
      rw [bo_1 hn] at a1 a2
      rw [hi_is1] at a2
      by_cases hc : c < 0
      · exact ⟨0, false, sGap_neg s h l s' h' l' S H L H' L' hz hz' c HC hc, iGap_below s h l s' h' l' S H L H' L' _ _ _ _ hz hz' a1 a2 (be_t (by omega))⟩
      · have k1 : (subB (IntKind.u64.wrap H') (IntKind.u64.wrap H) 1 != 0) = false := be_f (by omega)
        cases k2 : (IntKind.u64.wrap (IntKind.u64.wrap (IntKind.u64.wrap H' - IntKind.u64.wrap H) - 1) != 0)
        · by_cases k3 : IntKind.u64.wrap (IntKind.u64.wrap L' - IntKind.u64.wrap L) ≤ 9223372036854775807
          · exact ⟨_, true, sGap_ok1 s h l s' h' l' S H L H' L' hz hz' c HC (by omega) u k2 k3 (wrap_nn _), iGap_ok s h l s' h' l' S H L H' L' _ _ _ _ hz hz' a1 a2 k1 k2 k3 (wrap_nn _)⟩
          · exact ⟨0, false, sGap_lo1 s h l s' h' l' S H L H' L' hz hz' c HC (by omega) u k2 (by omega), iGap_lo s h l s' h' l' S H L H' L' _ _ _ _ hz hz' a1 a2 k1 k2 (by omega)⟩
        · exact ⟨0, false, sGap_hi1 s h l s' h' l' S H L H' L' hz hz' c HC (by omega) u k2, iGap_hi s h l s' h' l' S H L H' L' _ _ _ _ hz hz' a1 a2 k1 k2⟩
  · cases S <;> cases S'
    · exact absurd rfl hSS
    · exact ⟨0, false, sGap_ft s h l s' h' l' H L H' L' hz hz', iGap_ft s h l s' h' l' H L H' L' _ _ _ _ hz hz' a1 a2⟩
    · exact ⟨0, false, sGap_tf s h l s' h' l' H L H' L' hz hz', iGap_tf s h l s' h' l' H L H' L' _ _ _ _ hz hz' a1 a2⟩
    · exact absurd rfl hSS

set_option maxHeartbeats 2000000 in
theorem lawGap (s : Bool) (h l : Int) (s' : Bool) (h' l' : Int) (wh : -9223372036854775808 ≤ h ∧ h ≤ 9223372036854775807) (wl : -9223372036854775808 ≤ l ∧ l ≤ 9223372036854775807) (wh' : -9223372036854775808 ≤ h' ∧ h' ≤ 9223372036854775807) (wl' : -9223372036854775808 ≤ l' ∧ l' ≤ 9223372036854775807) (w : World) :
    Calls Try.prog 5 #[.agg #[.bool s, .int .i64 h, .int .i64 l], .agg #[.bool s', .int .i64 h', .int .i64 l']] w fun e w' => e = .returned (.bool true) ∧ Below w.heap.size w w' := by
  obtain ⟨c, ok, hs, hi⟩ := gap_both s h l s' h' l' wh wl wh' wl'
  have HS : Hid (∀ w : World, Calls Try.prog 13 #[.agg #[.bool s, .int .i64 h, .int .i64 l], .agg #[.bool s', .int .i64 h', .int .i64 l']] w fun e w' => e = .returned (.tuple #[.int .i64 c, .bool ok]) ∧ Below w.heap.size w w') := hs
  have HI : Hid (∀ w : World, Calls Try.prog 14 #[.agg #[.bool s, .int .i64 h, .int .i64 l], .agg #[.bool s', .int .i64 h', .int .i64 l']] w fun e w' => e = .returned (.tuple #[.int .i64 c, .bool ok]) ∧ Below w.heap.size w w') := hi
  clear hs hi wh wl wh' wl'
  go_enter Try.func5, Try.ntmps5
  go_wp2_with fail
  go_region_held3 (fun x => x.cell? ⟨w.heap.size, 0, none⟩ = some (.bool s) ∧ x.cell? ⟨w.heap.size, 1, none⟩ = some (.int .i64 h) ∧ x.cell? ⟨w.heap.size, 2, none⟩ = some (.int .i64 l)
      ∧ x.cell? ⟨w.heap.size + 1, 0, none⟩ = some (.bool s') ∧ x.cell? ⟨w.heap.size + 1, 1, none⟩ = some (.int .i64 h') ∧ x.cell? ⟨w.heap.size + 1, 2, none⟩ = some (.int .i64 l')) ((refine six_of_below (W := (w.alloc (.cells #[.bool s, .int .i64 h, .int .i64 l] 23)).alloc (.cells #[.bool s', .int .i64 h', .int .i64 l'] 23)) (n := w.heap.size + 2) ?_ (Nat.lt_add_of_pos_right (Nat.succ_pos _)) (Nat.lt_succ_self _) ⟨by simp [go_sem], by simp [go_sem], by simp [go_sem], by simp [go_sem], by simp [go_sem], by simp [go_sem]⟩; repeat (first | with_reducible exact Below.refl _ _ | (with_reducible refine Below.drew ?_) | (with_reducible refine Below.trans ?_ (hb3.mono ?_); rotate_left; (focus (first | omega | (simp; omega) | (simp; done)))) | (with_reducible refine Below.trans ?_ (hb2.mono ?_); rotate_left; (focus (first | omega | (simp; omega) | (simp; done)))) | (with_reducible refine Below.trans ?_ (hb1.mono ?_); rotate_left; (focus (first | omega | (simp; omega) | (simp; done)))) )))
    (first
      | (go_at_call_of 8 (Value.int .i64 h); refine (toAddr_any s h l _).mono ?_; rintro e w1 ⟨rfl, hb1⟩; have hz1 := hb1.size; (try simp at hz1))
      | (go_at_call_of 8 (Value.int .i64 h'); refine (toAddr_any s' h' l' _).mono ?_; rintro e w2 ⟨rfl, hb2⟩; have hz2 := hb2.size; (try simp at hz2))
      | (go_at_call 13; refine (HS.out _).mono ?_; rintro e w3 ⟨rfl, hb3⟩; have hz3 := hb3.size; (try simp at hz3)))
  have hb : Below (w.heap.size + 2) ((w.alloc (.cells #[.bool s, .int .i64 h, .int .i64 l] 23)).alloc (.cells #[.bool s', .int .i64 h', .int .i64 l'] 23)) w3 := by
    repeat (first | with_reducible exact Below.refl _ _ | (with_reducible refine Below.drew ?_) | (with_reducible refine Below.trans ?_ (hb3.mono ?_); rotate_left; (focus (first | omega | (simp; omega) | (simp; done)))) | (with_reducible refine Below.trans ?_ (hb2.mono ?_); rotate_left; (focus (first | omega | (simp; omega) | (simp; done)))) | (with_reducible refine Below.trans ?_ (hb1.mono ?_); rotate_left; (focus (first | omega | (simp; omega) | (simp; done)))) )
  have K6 : Hid (w3.cell? ⟨w.heap.size, 0, none⟩ = some (.bool s) ∧ w3.cell? ⟨w.heap.size, 1, none⟩ = some (.int .i64 h) ∧ w3.cell? ⟨w.heap.size, 2, none⟩ = some (.int .i64 l)
      ∧ w3.cell? ⟨w.heap.size + 1, 0, none⟩ = some (.bool s') ∧ w3.cell? ⟨w.heap.size + 1, 1, none⟩ = some (.int .i64 h') ∧ w3.cell? ⟨w.heap.size + 1, 2, none⟩ = some (.int .i64 l')) :=
    six_of_below hb (Nat.lt_add_of_pos_right (Nat.succ_pos _)) (Nat.lt_succ_self _) ⟨by simp [go_sem], by simp [go_sem], by simp [go_sem], by simp [go_sem], by simp [go_sem], by simp [go_sem]⟩
  have z3 : w.heap.size + 2 ≤ w3.heap.size := by have := hb.size; simp at this; omega
  have g3 : Below w.heap.size w w3 := (((Below.refl _ w).alloc (Nat.le_refl _) _).alloc (by simp) _).trans (hb.mono (by omega))
  clear hb hb1 hb2 hb3
  go_wp2_with fail
  go_region_held3 (fun x => x.cell? ⟨w.heap.size, 0, none⟩ = some (.bool s) ∧ x.cell? ⟨w.heap.size, 1, none⟩ = some (.int .i64 h) ∧ x.cell? ⟨w.heap.size, 2, none⟩ = some (.int .i64 l)
      ∧ x.cell? ⟨w.heap.size + 1, 0, none⟩ = some (.bool s') ∧ x.cell? ⟨w.heap.size + 1, 1, none⟩ = some (.int .i64 h') ∧ x.cell? ⟨w.heap.size + 1, 2, none⟩ = some (.int .i64 l')) ((refine six_of_below (W := w3) (n := w.heap.size + 2) ?_ (Nat.lt_add_of_pos_right (Nat.succ_pos _)) (Nat.lt_succ_self _) K6.out; repeat (first | with_reducible exact Below.refl _ _ | (with_reducible refine Below.drew ?_) | (with_reducible refine Below.trans ?_ (hb6.mono ?_); rotate_left; (focus (first | omega | (simp; omega) | (simp; done)))) | (with_reducible refine Below.trans ?_ (hb5.mono ?_); rotate_left; (focus (first | omega | (simp; omega) | (simp; done)))) | (with_reducible refine Below.trans ?_ (hb4.mono ?_); rotate_left; (focus (first | omega | (simp; omega) | (simp; done)))) )))
    (first
      | (go_at_call_of 8 (Value.int .i64 h); refine (toAddr_any s h l _).mono ?_; rintro e w4 ⟨rfl, hb4⟩; have hz4 := hb4.size; (try simp at hz4))
      | (go_at_call_of 8 (Value.int .i64 h'); refine (toAddr_any s' h' l' _).mono ?_; rintro e w5 ⟨rfl, hb5⟩; have hz5 := hb5.size; (try simp at hz5))
      | (go_at_call 14; refine (HI.out _).mono ?_; rintro e w6 ⟨rfl, hb6⟩; have hz6 := hb6.size; (try simp at hz6)))
  have he : Below w.heap.size w3 w6 := by
    repeat (first | with_reducible exact Below.refl _ _ | (with_reducible refine Below.drew ?_) | (with_reducible refine Below.trans ?_ (hb6.mono ?_); rotate_left; (focus (first | omega | (simp; omega) | (simp; done)))) | (with_reducible refine Below.trans ?_ (hb5.mono ?_); rotate_left; (focus (first | omega | (simp; omega) | (simp; done)))) | (with_reducible refine Below.trans ?_ (hb4.mono ?_); rotate_left; (focus (first | omega | (simp; omega) | (simp; done)))) )
  go_wp2_with fail
  go_ret
  exact ⟨rfl, g3.trans he⟩

theorem Try.ownGap : ownKnob Try.prog.godebug = none := by kernel_rfl
theorem Try.cellsGap : Try.prog.cellsOf 23 = 3 := by kernel_rfl
/-- A number of the kind int lies in its bounds. -/
theorem wf_bdG {x : Int} (h : (Lit.int .i64 x).wf = true) : -9223372036854775808 ≤ x ∧ x ≤ 9223372036854775807 := by
  simpa [Lit.wf, IntKind.min, IntKind.max, IntKind.signed, IntKind.bits] using h

/-- An address by value, read again in whatever world. -/
theorem readG {H : Type} {enc : TypeId × Value → H} {s : Bool} {a b : Int} (wa : (Lit.int .i64 a).wf = true) (wb : (Lit.int .i64 b).wf = true) (W' : World) (sp : Nat → Bool) :
    DataW.Trod enc Try.prog W' 0 sp true 23 (.agg #[.bool s, .int .i64 a, .int .i64 b]) (.agg [.lit (.bool s), .lit (.int .i64 a), .lit (.int .i64 b)]) [] :=
  shut_agg3 (y0 := (.lit (.bool s), [])) (y1 := (.lit (.int .i64 a), [])) (y2 := (.lit (.int .i64 b), [])) Try.underlying23 (by kernel_rfl) Try.cellsGap ⟨1, by simp [DataW.trod, Try.underlying4]⟩ ⟨1, by simp [DataW.trod, Try.underlying3, wa]⟩ ⟨1, by simp [DataW.trod, Try.underlying3, wb]⟩

set_option maxRecDepth 100000 in
theorem gap_lifted (os : Os) (started : os.Started) (H : Type) (enc : TypeId × Value → H) :
    ReturnsInHanded {} Try.checked os 5 .any (Rows.fnExactGapToSpec.pre6 enc Try.prog Try.f5 Rows.fnExactGapToRow.domain false) (Rows.fnExactGapToSpec.post enc Try.prog Try.f5 false true false false) := by
  refine returnsInHanded_of_change (C := Try.checked) Try.ownGap started (by kernel_rfl) Try.func5
    (ChangeSpec.witness6 (enc := enc) (C := Try.checked) false ⟨#[], #[.agg #[.bool false, .int .i64 0, .int .i64 0], .agg #[.bool false, .int .i64 0, .int .i64 0]], []⟩ 8 (by kernel_rfl) (by kernel_rfl) (by kernel_rfl) (by kernel_rfl)) ?_
  intro W base args ds gs before hval0 hW _ _
  have hval : ∀ (j : Nat) t v, Try.f5.params[j]? = some t → args[j]? = some v → Value.okWide Try.prog W .any base t v := hval0
  have hW' := hW
  obtain ⟨p, q, hA0, hV, rfl, _, _⟩ := hW
  have hA : DataW.TrodAll enc Try.prog W 0 (fun _ => true) true Try.f5.params.toList args.toList ds p := hA0
  rw [Try.params5] at hA hval
  obtain ⟨v0, v1, d0, d1, p0, p1, rfl, rfl, rfl, h0, h1⟩ := trodAll_two hA
  obtain ⟨rfl, rfl⟩ := trodVars_none hV
  obtain ⟨k0, k1, k2, y0, y1, y2, m, rfl, rfl, rfl, hy0, hy1, hy2⟩ := open_agg3 Try.underlying23 (by kernel_rfl) Try.cellsGap (hval 0 23 v0 rfl rfl) h0
  obtain ⟨j0, j1, j2, x0, x1, x2, m', rfl, rfl, rfl, hx0, hx1, hx2⟩ := open_agg3 Try.underlying23 (by kernel_rfl) Try.cellsGap (hval 1 23 v1 rfl rfl) h1
  obtain ⟨s, e0, rfl⟩ := DataW.trod_bool Try.underlying4 hy0
  obtain ⟨a, e1, rfl, wa⟩ := DataW.trod_int Try.underlying3 hy1
  obtain ⟨b, e2, rfl, wb⟩ := DataW.trod_int Try.underlying3 hy2
  obtain ⟨s', f0, rfl⟩ := DataW.trod_bool Try.underlying4 hx0
  obtain ⟨a', f1, rfl, wa'⟩ := DataW.trod_int Try.underlying3 hx1
  obtain ⟨b', f2, rfl, wb'⟩ := DataW.trod_int Try.underlying3 hx2
  simp at e0 e1 e2 f0 f1 f2
  subst e0 e1 e2 f0 f1 f2
  clear hA0 hval0
  simp only [List.append_nil] at hW'
  refine (lawGap s a b s' a' b' (wf_bdG wa) (wf_bdG wb) (wf_bdG wa') (wf_bdG wb') W).mono fun e W' ⟨he, hb⟩ => ?_
  subst he
  exact ⟨_, rfl, ⟨_, _, _, [], [], [], hW', trodAll_mk1 (shut_bool Try.underlying4 true), trodAll_mk2 (readG wa wb _ _) (readG wa' wb' _ _), rfl, hb.frame _, fun h => by cases h⟩⟩

theorem gapTo_holds : Rows.FnExactGapToSaid :=
  OpenClaim.holds_of_wide 5 Try.f5 rfl rfl rfl rfl rfl rfl rfl ⟨rfl, rfl, rfl, rfl, rfl⟩ rfl rfl rfl rfl rfl (by kernel_rfl) Try.func5 (by kernel_rfl)
    (of_decide_eq_true (by kernel_rfl)) (by unfold Func.isWrapper; rw [if_neg (of_decide_eq_false (by kernel_rfl))]; exact ⟨rfl, rfl⟩)
    (fun os started H enc _ => gap_lifted os started H enc)

end Go.Proofs.Ytkmfbbcofojfaab
