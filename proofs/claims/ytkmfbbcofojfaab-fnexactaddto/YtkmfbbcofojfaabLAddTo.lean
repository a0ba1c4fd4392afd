/-
  For every address and every number the two AddTo answer alike, so the exact law of AddTo returns true; no condition.
-/
import Derived.Test.YtkmfbbcofojfaabAAdd
import Derived.Test.YtkmfbbcofojfaabASAdd
import Derived.ProofKit
import Derived.Lib.SmallJoins
namespace Go.Proofs.Ytkmfbbcofojfaab
open Go.ChangeShapes Go.WideShapes Go.ChangeAt Go.RowKit Go.Joins

/-- A number of the kind int lies in its bounds. -/
theorem wf_bounds {x : Int} (h : (Lit.int .i64 x).wf = true) : -9223372036854775808 ≤ x ∧ x ≤ 9223372036854775807 := by
  simpa [Lit.wf, IntKind.min, IntKind.max, IntKind.signed, IntKind.bits] using h
theorem Bit1 : Bit 1 := by unfold Bit; omega
theorem u64_u (x : Int) : IntKind.u64.wrap x = x % 18446744073709551616 := IntKind.wrap_u64 x

/-- What the two calls of the library's Add64 give. -/
theorem add_c0 (L n : Int) (h : IntKind.u64.wrap L + IntKind.u64.wrap n < 18446744073709551616) : addC (IntKind.u64.wrap L) (IntKind.u64.wrap n) 0 = 0 := by
  have := Word_u L; have := Word_u n; unfold Word at *; unfold addC; omega
theorem add_c1 (L n : Int) (h : ¬ IntKind.u64.wrap L + IntKind.u64.wrap n < 18446744073709551616) : addC (IntKind.u64.wrap L) (IntKind.u64.wrap n) 0 = 1 := by
  have := Word_u L; have := Word_u n; unfold Word at *; unfold addC; omega
theorem lo_eq (L n : Int) : wrap64 (addS (IntKind.u64.wrap L) (IntKind.u64.wrap n) 0) = wrap64 (IntKind.u64.wrap (IntKind.u64.wrap L + IntKind.u64.wrap n)) := by
  rw [u64_u (_ + _)]; simp only [addS, Int.add_zero]
theorem less_0 (L n : Int) (h : IntKind.u64.wrap L + IntKind.u64.wrap n < 18446744073709551616) : ult (wrap64 (IntKind.u64.wrap (IntKind.u64.wrap L + IntKind.u64.wrap n))) L = false := by
  have h1 := Word_u L; have h2 := Word_u n
  unfold ult Word at *
  generalize IntKind.u64.wrap L = u at *
  generalize IntKind.u64.wrap n = v at *
  simp only [u64_u, wrap64, decide_eq_false_iff_not]
  omega
theorem less_1 (L n : Int) (h : ¬ IntKind.u64.wrap L + IntKind.u64.wrap n < 18446744073709551616) : ult (wrap64 (IntKind.u64.wrap (IntKind.u64.wrap L + IntKind.u64.wrap n))) L = true := by
  have h1 := Word_u L; have h2 := Word_u n
  unfold ult Word at *
  generalize IntKind.u64.wrap L = u at *
  generalize IntKind.u64.wrap n = v at *
  simp only [u64_u, wrap64, decide_eq_true_eq]
  omega
theorem hi_0 (H : Int) (wh : -9223372036854775808 ≤ H ∧ H ≤ 9223372036854775807) : wrap64 (addS (IntKind.u64.wrap H) 0 0) = H := by
  simp only [addS, u64_u, wrap64]; omega
theorem past_0 (H : Int) : (addC (IntKind.u64.wrap H) 0 0 != 0) = false := by
  have := Word_u H; unfold Word at this; rw [bne_eq_false_iff_eq]; unfold addC; omega
theorem hi_1 (H : Int) : wrap64 (addS (IntKind.u64.wrap H) 0 1) = wrap64 (IntKind.u64.wrap (IntKind.u64.wrap H + 1)) := by
  rw [u64_u (_ + _)]; simp only [addS, Int.add_zero]
theorem past_1 (H : Int) (h : (wrap64 (IntKind.u64.wrap (IntKind.u64.wrap H + 1)) == 0) = false) : (addC (IntKind.u64.wrap H) 0 1 != 0) = false := by
  have h1 := Word_u H
  unfold Word at *
  rw [beq_eq_false_iff_ne] at h
  rw [bne_eq_false_iff_eq]
  generalize IntKind.u64.wrap H = u at *
  simp only [u64_u, wrap64] at h
  unfold addC
  omega
theorem past_2 (H : Int) (h : (wrap64 (IntKind.u64.wrap (IntKind.u64.wrap H + 1)) == 0) = true) : (addC (IntKind.u64.wrap H) 0 1 != 0) = true := by
  have h1 := Word_u H
  unfold Word at *
  rw [beq_iff_eq] at h
  rw [bne_iff_ne]
  generalize IntKind.u64.wrap H = u at *
  simp only [u64_u, wrap64] at h
  unfold addC
  omega
theorem four_c (L n : Int) (h0 : 0 ≤ L) (h1 : L ≤ 4294967295) (hn : 0 ≤ n) (hn1 : n ≤ 9223372036854775807) : addC (IntKind.u64.wrap L) (IntKind.u64.wrap n) 0 = 0 := by
  simp only [u64_u]; unfold addC; omega
theorem four_ok (L n : Int) (h0 : 0 ≤ L) (hn : 0 ≤ n) (hle : n ≤ 4294967295 - L) : wrap64 (addS (IntKind.u64.wrap L) (IntKind.u64.wrap n) 0) = L + n := by
  simp only [addS, u64_u, wrap64]; omega
theorem four_no (L n : Int) (h0 : 0 ≤ L) (h1 : L ≤ 4294967295) (hn : 0 ≤ n) (hn1 : n ≤ 9223372036854775807) (hle : 4294967295 - L < n) :
    okB false 0 (wrap64 (addS (IntKind.u64.wrap L) (IntKind.u64.wrap n) 0)) = false := by
  simp only [okB, addS, u64_u, wrap64, Bool.false_or, beq_self_eq_true, Bool.true_and, Bool.and_eq_false_iff, decide_eq_false_iff_not]; omega
theorem four_yes (L n : Int) (h0 : 0 ≤ L) (hn : 0 ≤ n) (hle : n ≤ 4294967295 - L) : okB false 0 (L + n) = true := okB_yes _ (by omega) (by omega)

/-- Both AddTo return one and the same pair. -/
theorem addTo_both (s : Bool) (h l n : Int) (wh : -9223372036854775808 ≤ h ∧ h ≤ 9223372036854775807) (wl : -9223372036854775808 ≤ l ∧ l ≤ 9223372036854775807) (wn : n ≤ 9223372036854775807) :
    ∃ (S : Bool) (H L : Int) (ok : Bool),
      (∀ w : World, Calls Try.prog 10 #[.agg #[.bool s, .int .i64 h, .int .i64 l], .int .i64 n] w fun e w' => e = .returned (.tuple #[.agg #[.bool S, .int .i64 H, .int .i64 L], .bool ok]) ∧ Below w.heap.size w w') ∧
      (∀ w : World, Calls Try.prog 11 #[.agg #[.bool s, .int .i64 h, .int .i64 l], .int .i64 n] w fun e w' => e = .returned (.tuple #[.agg #[.bool S, .int .i64 H, .int .i64 L], .bool ok]) ∧ Below w.heap.size w w') := by
  obtain ⟨S, H, L, hz, bH, bL, hS⟩ := Nrm_ex s h l wh wl
  by_cases hn : n < 0
  · exact ⟨false, 0, 0, false, sAddTo_neg s h l n S H L hz hn, iAddTo_neg s h l n hn⟩
  have hn0 : 0 ≤ n := by omega
  have a1 := add64 (IntKind.u64.wrap L) (IntKind.u64.wrap n) 0 (Word_u _) (Word_u _) Bit0
  cases S
  · obtain ⟨rfl, h0, h1⟩ := hS rfl
    have ec := four_c L n h0 h1 hn0 wn
    rw [ec] at a1
    have a2 := add64 (IntKind.u64.wrap 0) 0 0 (Word_u _) Word0 Bit0
    by_cases hle : n ≤ 4294967295 - L
    · have i := iAddTo_ok s h l n false 0 L _ 0 _ _ hz hn0 a1 a2 (past_0 0) (by
        show okB _ _ _ = true
        rw [hi_0 0 (by omega), four_ok L n h0 hn0 hle]; exact four_yes L n h0 hn0 hle)
      rw [hi_0 0 (by omega), four_ok L n h0 hn0 hle] at i
      exact ⟨false, 0, L + n, true, sAddTo_four s h l n 0 L hz h0 h1 hn0 wn hle, i⟩
    · have i := iAddTo_bad s h l n false 0 L _ 0 _ _ hz hn0 a1 a2 (past_0 0) (by
        show okB _ _ _ = false
        rw [hi_0 0 (by omega)]; exact four_no L n h0 h1 hn0 wn (by omega))
      exact ⟨false, 0, 0, false, sAddTo_fourno s h l n 0 L hz h0 h1 hn0 wn (by omega), i⟩
  · by_cases hc : IntKind.u64.wrap L + IntKind.u64.wrap n < 18446744073709551616
    · rw [add_c0 L n hc] at a1
      have a2 := add64 (IntKind.u64.wrap H) 0 0 (Word_u _) Word0 Bit0
      have i := iAddTo_ok s h l n true H L _ 0 _ _ hz hn0 a1 a2 (past_0 H) (okB_t _ _)
      rw [hi_0 H bH, lo_eq] at i
      exact ⟨true, H, _, true, sAddTo_six s h l n H L hz hn0 (less_0 L n hc), i⟩
    · rw [add_c1 L n hc] at a1
      have a2 := add64 (IntKind.u64.wrap H) 0 1 (Word_u _) Word0 Bit1
      cases hg : (wrap64 (IntKind.u64.wrap (IntKind.u64.wrap H + 1)) == 0)
      · have i := iAddTo_ok s h l n true H L _ 1 _ _ hz hn0 a1 a2 (past_1 H hg) (okB_t _ _)
        rw [hi_1, lo_eq] at i
        exact ⟨true, _, _, true, sAddTo_sixc s h l n H L hz hn0 (less_1 L n hc) hg, i⟩
      · have i := iAddTo_past s h l n true H L _ 1 _ _ hz hn0 a1 a2 (past_2 H hg)
        exact ⟨false, 0, 0, false, sAddTo_sixno s h l n H L hz hn0 (less_1 L n hc) hg, i⟩

set_option maxHeartbeats 1000000 in
theorem lawAddTo (s : Bool) (h l n : Int) (wh : -9223372036854775808 ≤ h ∧ h ≤ 9223372036854775807) (wl : -9223372036854775808 ≤ l ∧ l ≤ 9223372036854775807) (wn : n ≤ 9223372036854775807) (w : World) :
    Calls Try.prog 4 #[.agg #[.bool s, .int .i64 h, .int .i64 l], .int .i64 n] w fun e w' => e = .returned (.bool true) ∧ Below w.heap.size w w' := by
  obtain ⟨S, H, L, ok, hs, hi⟩ := addTo_both s h l n wh wl wn
  have HS : Hid (∀ w : World, Calls Try.prog 10 #[.agg #[.bool s, .int .i64 h, .int .i64 l], .int .i64 n] w fun e w' => e = .returned (.tuple #[.agg #[.bool S, .int .i64 H, .int .i64 L], .bool ok]) ∧ Below w.heap.size w w') := hs
  have HI : Hid (∀ w : World, Calls Try.prog 11 #[.agg #[.bool s, .int .i64 h, .int .i64 l], .int .i64 n] w fun e w' => e = .returned (.tuple #[.agg #[.bool S, .int .i64 H, .int .i64 L], .bool ok]) ∧ Below w.heap.size w w') := hi
  clear hs hi wh wl wn
  go_enter Try.func4, Try.ntmps4
  go_wp2_with fail
  refine (toAddr_any s h l _).mono ?_
  rintro e w1 ⟨rfl, hb1⟩
  go_wp2_with fail
  refine (HS.out _).mono ?_
  rintro e w2 ⟨rfl, hb2⟩
  have hz1 := hb1.size
  have hz2 := hb2.size
  simp at hz1
  have hb : Below (w.heap.size + 1) (w.alloc (.cells #[.bool s, .int .i64 h, .int .i64 l] 23)) w2 := (hb1.trans (hb2.mono hb1.size)).mono (by simp)
  obtain ⟨c0, c1, c2⟩ := box3 hb
  have z2 : w.heap.size < w2.heap.size := by omega
  clear hz1 hz2
  go_wp2_with fail
  refine (toAddr_any s h l _).mono ?_
  rintro e w3 ⟨rfl, hb3⟩
  go_wp2_with fail
  refine (HI.out _).mono ?_
  rintro e w4 ⟨rfl, hb4⟩
  have hd : Below (w2.heap.size + 1) (w2.alloc (.cells #[.bool S, .int .i64 H, .int .i64 L] 25)) w4 := (hb3.trans (hb4.mono hb3.size)).mono (by simp)
  obtain ⟨d0, d1, d2⟩ := box3 hd
  have z4 : w2.heap.size < w4.heap.size := by have := hd.size; simp at this; omega
  go_wp2_with fail
  refine (eqAddr_same S H L _).mono ?_
  rintro e w5 ⟨rfl, hb5⟩
  go_wp2_with fail
  go_ret
  refine ⟨rfl, ?_⟩
  have g2 : Below w.heap.size w w2 := ((Below.refl _ w).alloc (Nat.le_refl _) _).trans (hb.mono (by omega))
  have g4 : Below w.heap.size w w4 := (g2.alloc (by omega) _).trans (hd.mono (by omega))
  exact (g4.alloc (by omega) _).trans (hb5.mono (by simp; omega))

theorem Try.ownAddTo : ownKnob Try.prog.godebug = none := by kernel_rfl
theorem Try.cellsAddTo : Try.prog.cellsOf 23 = 3 := by kernel_rfl

set_option maxRecDepth 100000 in
theorem addTo_lifted (os : Os) (started : os.Started) (H : Type) (enc : TypeId × Value → H) :
    ReturnsInHanded {} Try.checked os 4 .any (Rows.fnExactAddToSpec.pre6 enc Try.prog Try.f4 Rows.fnExactAddToRow.domain false) (Rows.fnExactAddToSpec.post enc Try.prog Try.f4 false true false false) := by
  refine returnsInHanded_of_change (C := Try.checked) Try.ownAddTo started (by kernel_rfl) Try.func4
    (ChangeSpec.witness6 (enc := enc) (C := Try.checked) false ⟨#[], #[.agg #[.bool false, .int .i64 0, .int .i64 0], .int .i64 0], []⟩ 8 (by kernel_rfl) (by kernel_rfl) (by kernel_rfl) (by kernel_rfl)) ?_
  intro W base args ds gs before hval0 hW _ _
  have hval : ∀ (j : Nat) t v, Try.f4.params[j]? = some t → args[j]? = some v → Value.okWide Try.prog W .any base t v := hval0
  have hW' := hW
  obtain ⟨p, q, hA0, hV, rfl, _, _⟩ := hW
  have hA : DataW.TrodAll enc Try.prog W 0 (fun _ => true) true Try.f4.params.toList args.toList ds p := hA0
  rw [Try.params4] at hA hval
  obtain ⟨v0, v1, d0, d1, p0, p1, rfl, rfl, rfl, h0, h1⟩ := trodAll_two hA
  obtain ⟨rfl, rfl⟩ := trodVars_none hV
  obtain ⟨k0, k1, k2, y0, y1, y2, m, rfl, rfl, rfl, hy0, hy1, hy2⟩ := open_agg3 Try.underlying23 (by kernel_rfl) Try.cellsAddTo (hval 0 23 v0 rfl rfl) h0
  obtain ⟨s, e0, rfl⟩ := DataW.trod_bool Try.underlying4 hy0
  obtain ⟨a, e1, rfl, wa⟩ := DataW.trod_int Try.underlying3 hy1
  obtain ⟨b, e2, rfl, wb⟩ := DataW.trod_int Try.underlying3 hy2
  obtain ⟨n, rfl, rfl, rfl, wn⟩ := open_int Try.underlying3 (hval 1 3 v1 rfl rfl) h1
  simp at e0 e1 e2
  subst e0 e1 e2
  clear hA0 hval0
  simp only [List.append_nil] at hW'
  have structReads : ∀ (W' : World) (sp : Nat → Bool), DataW.Trod enc Try.prog W' 0 sp true 23 (.agg #[.bool s, .int .i64 a, .int .i64 b]) (.agg [.lit (.bool s), .lit (.int .i64 a), .lit (.int .i64 b)]) [] := fun W' sp =>
    shut_agg3 (y0 := (.lit (.bool s), [])) (y1 := (.lit (.int .i64 a), [])) (y2 := (.lit (.int .i64 b), [])) Try.underlying23 (by kernel_rfl) Try.cellsAddTo ⟨1, by simp [DataW.trod, Try.underlying4]⟩ ⟨1, by simp [DataW.trod, Try.underlying3, wa]⟩ ⟨1, by simp [DataW.trod, Try.underlying3, wb]⟩
  have ba := wf_bounds wa
  have bb := wf_bounds wb
  have bn := wf_bounds wn
  refine (lawAddTo s a b n ba bb bn.2 W).mono fun e W' ⟨he, hb⟩ => ?_
  subst he
  exact ⟨_, rfl, ⟨_, _, _, [], [], [], hW', trodAll_mk1 (shut_bool Try.underlying4 true), trodAll_mk2 (structReads _ _) (shut_int Try.underlying3 wn), rfl, hb.frame _, fun h => by cases h⟩⟩

theorem addTo_holds : Rows.FnExactAddToSaid :=
  OpenClaim.holds_of_wide 4 Try.f4 rfl rfl rfl rfl rfl rfl rfl ⟨rfl, rfl, rfl, rfl, rfl⟩ rfl rfl rfl rfl rfl (by kernel_rfl) Try.func4 (by kernel_rfl)
    (of_decide_eq_true (by kernel_rfl)) (by unfold Func.isWrapper; rw [if_neg (of_decide_eq_false (by kernel_rfl))]; exact ⟨rfl, rfl⟩)
    (fun os started H enc _ => addTo_lifted os started H enc)

end Go.Proofs.Ytkmfbbcofojfaab
