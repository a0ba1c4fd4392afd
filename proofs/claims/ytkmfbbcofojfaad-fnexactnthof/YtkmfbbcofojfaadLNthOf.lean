/-
  For every prefix and every number the two NthOf answer alike, so the exact law of NthOf returns true; no condition.
-/
import Derived.Test.YtkmfbbcofojfaadBINth
import Derived.Test.YtkmfbbcofojfaadBSNth
import Derived.Test.YtkmfbbcofojfaadBAddX
import Derived.Test.YtkmfbbcofojfaadBTo
import Derived.Test.YtkmfbbcofojfaadBEqA
import Derived.Test.YtkmfbbcofojfaadBOpen
import Derived.ProofKit
import Derived.Lib.SmallJoins
namespace Go.Proofs.Ytkmfbbcofojfaad
open Go.ChangeShapes Go.WideShapes Go.ChangeAt Go.RowKit Go.Joins Go.Deep

/-- A number of the kind int lies in its bounds. -/
theorem wfI {x : Int} (h : (Lit.int .i64 x).wf = true) : -9223372036854775808 ≤ x ∧ x ≤ 9223372036854775807 := by
  simpa [Lit.wf, IntKind.min, IntKind.max, IntKind.signed, IntKind.bits] using h
theorem toI_of {x : Int} (h : (Lit.int .i64 x).wf = true) : (BitVec.ofInt 64 x).toInt = x := by
  have := wfI h
  rw [BitVec.toInt_ofInt, Int.bmod_def]
  omega

theorem bvOf {x : Int} (h : -9223372036854775808 ≤ x ∧ x ≤ 9223372036854775807) : (BitVec.ofInt 64 x).toInt = x := by
  rw [BitVec.toInt_ofInt, Int.bmod_def]
  omega
theorem bv_bd (x : BitVec 64) : -9223372036854775808 ≤ x.toInt ∧ x.toInt ≤ 9223372036854775807 := by
  have h := x.isLt
  rw [BitVec.toInt_eq_toNat_cond]
  split <;> omega

/-- Both NthOf return one and the same pair. -/
theorem nthOf_both (s : Bool) (H L : BitVec 64) (b m : Int) (hm : -9223372036854775808 ≤ m ∧ m ≤ 9223372036854775807) : ∃ (S0 : Bool) (X0 Y0 : Int) (ok : Bool),
    (∀ w : World, Calls Try.prog 13 #[.agg #[.bool s, .int .i64 H.toInt, .int .i64 L.toInt, .int .i64 b], .int .i64 m] w fun e w' => e = .returned (.tuple #[.agg #[.bool S0, .int .i64 X0, .int .i64 Y0], .bool ok]) ∧ Below w.heap.size w w') ∧
    (∀ w : World, Calls Try.prog 14 #[.agg #[.bool s, .int .i64 H.toInt, .int .i64 L.toInt, .int .i64 b], .int .i64 m] w fun e w' => e = .returned (.tuple #[.agg #[.bool S0, .int .i64 X0, .int .i64 Y0], .bool ok]) ∧ Below w.heap.size w w') := by
  cases hp : pokB s H L b
  · obtain ⟨S, X, Y, ok, _, bX, bY, _, hi⟩ := addTo_more false 0 0 m (by omega) (by omega) hm.2
    rw [← bvOf bX, ← bvOf bY] at hi
    exact ⟨false, 0, 0, false, sNthOf_no s H L b m hp, iNthOf_no s H L b m S _ _ ok hp hi⟩
  · obtain ⟨S, X, Y, ok, hk, bX, bY, hs, hi⟩ := addTo_more s H.toInt L.toInt m (bv_bd H) (bv_bd L) hm.2
    rw [← bvOf bX, ← bvOf bY] at hi hs hk
    obtain ⟨_, hb, _⟩ := pokB_parts hp
    have hn : ((((wd s : Int) - b).toNat : Nat) : Int) = (wd s : Int) - b := by omega
    cases ok
    · exact ⟨false, 0, 0, false, sNthOf_past s H L b m S _ _ hp hs, iNthOf_past s H L b m S _ _ _ hn hp hi⟩
    · cases hh : hasB s H L ((wd s : Int) - b).toNat S (BitVec.ofInt 64 X) (BitVec.ofInt 64 Y)
      · exact ⟨false, 0, 0, false, sNthOf_off s H L b m S _ _ hp hs (by rw [hadB, hp, hk, hh]; rfl), iNthOf_off s H L b m S _ _ _ hn hp hi hh⟩
      · exact ⟨S, _, _, true, sNthOf_yes s H L b m S _ _ hp hs (by rw [hadB, hp, hk, hh]; rfl), iNthOf_yes s H L b m S _ _ _ hn hp hi hh⟩

set_option maxHeartbeats 1000000 in
theorem lawNthOf (s : Bool) (H L : BitVec 64) (b : Int) (m : Int) (hm : -9223372036854775808 ≤ m ∧ m ≤ 9223372036854775807) (w : World) :
    Calls Try.prog 5 #[.agg #[.bool s, .int .i64 H.toInt, .int .i64 L.toInt, .int .i64 b], .int .i64 m] w fun e w' => e = .returned (.bool true) ∧ Below w.heap.size w w' := by
  obtain ⟨S0, X0, Y0, ok, hs, hi⟩ := nthOf_both s H L b m hm
  have HS : Hid (∀ w : World, Calls Try.prog 13 #[.agg #[.bool s, .int .i64 H.toInt, .int .i64 L.toInt, .int .i64 b], .int .i64 m] w fun e w' => e = .returned (.tuple #[.agg #[.bool S0, .int .i64 X0, .int .i64 Y0], .bool ok]) ∧ Below w.heap.size w w') := hs
  have HI : Hid (∀ w : World, Calls Try.prog 14 #[.agg #[.bool s, .int .i64 H.toInt, .int .i64 L.toInt, .int .i64 b], .int .i64 m] w fun e w' => e = .returned (.tuple #[.agg #[.bool S0, .int .i64 X0, .int .i64 Y0], .bool ok]) ∧ Below w.heap.size w w') := hi
  clear hs hi hm
  go_enter Try.func5, Try.ntmps5
  go_wp2_with fail
  refine (toPrefix_any s H.toInt L.toInt b _).mono ?_
  rintro e w1 ⟨rfl, hb1⟩
  have hz1 := hb1.size
  try simp at hz1
  have f10 : w.heap.size < w1.heap.size := by omega
  refine olds_k (w.heap.size + 1) hb1 ?_ ?_
  · first | omega | (simp; omega) | (simp; done)
  intro hc1 hf1
  go_wp2_with fail
  refine (HS.out _).mono ?_
  rintro e w2 ⟨rfl, hb2⟩
  have hz2 := hb2.size
  try simp at hz2
  have f20 : w.heap.size < w2.heap.size := by omega
  refine olds_k (w.heap.size + 1) hb2 ?_ ?_
  · first | omega | (simp; omega) | (simp; done)
  intro hc2 hf2
  have q2 : w.heap.size < w2.heap.size + 1 := by omega
  go_wp2_with fail
  have q3 : w.heap.size < w2.heap.size + 1 := by omega
  refine (toPrefix_any s H.toInt L.toInt b _).mono ?_
  rintro e w3 ⟨rfl, hb3⟩
  have hz3 := hb3.size
  try simp at hz3
  have f3x0 : w.heap.size < w3.heap.size := by omega
  have f3x1 : w2.heap.size < w3.heap.size := by omega
  refine olds_k (w2.heap.size + 1) hb3 ?_ ?_
  · first | omega | (simp; omega) | (simp; done)
  intro hc3 hf3
  go_wp2_with fail
  refine (HI.out _).mono ?_
  rintro e w4 ⟨rfl, hb4⟩
  have hz4 := hb4.size
  try simp at hz4
  have f4x0 : w.heap.size < w4.heap.size := by omega
  have f4x1 : w2.heap.size < w4.heap.size := by omega
  refine olds_k (w2.heap.size + 1) hb4 ?_ ?_
  · first | omega | (simp; omega) | (simp; done)
  intro hc4 hf4
  go_wp2_with fail
  refine (eqA_same S0 X0 Y0 _).mono ?_
  rintro e w5 ⟨rfl, hb5⟩
  have hz5 := hb5.size
  try simp at hz5
  have f5x0 : w2.heap.size < w5.heap.size := by omega
  have f5x1 : w4.heap.size < w5.heap.size := by omega
  refine olds_k (w4.heap.size + 1) hb5 ?_ ?_
  · first | omega | (simp; omega) | (simp; done)
  intro hc5 hf5
  go_wp2_with fail
  go_ret
  refine ⟨rfl, ?_⟩
  repeat (first | with_reducible exact Below.refl _ _ | (with_reducible refine Below.drew ?_) | (with_reducible refine Below.alloc ?_ ?_ _; rotate_left; (focus (first | omega | (simp; omega) | (simp; done)))) | (with_reducible refine Below.setCell ?_ ?_ _; rotate_left; (focus (first | omega | (simp; omega) | (simp; done)))) | (with_reducible refine Below.trans ?_ (hb5.mono ?_); rotate_left; (focus (first | omega | (simp; omega) | (simp; done)))) | (with_reducible refine Below.trans ?_ (hb4.mono ?_); rotate_left; (focus (first | omega | (simp; omega) | (simp; done)))) | (with_reducible refine Below.trans ?_ (hb3.mono ?_); rotate_left; (focus (first | omega | (simp; omega) | (simp; done)))) | (with_reducible refine Below.trans ?_ (hb2.mono ?_); rotate_left; (focus (first | omega | (simp; omega) | (simp; done)))) | (with_reducible refine Below.trans ?_ (hb1.mono ?_); rotate_left; (focus (first | omega | (simp; omega) | (simp; done)))))

theorem Try.ownNthOf : ownKnob Try.prog.godebug = none := by kernel_rfl
theorem Try.cellsNthOfA : Try.prog.cellsOf 23 = 3 := by kernel_rfl
theorem Try.cellsNthOfP : Try.prog.cellsOf 25 = 4 := by kernel_rfl

set_option maxRecDepth 100000 in
theorem nthOf_lifted (os : Os) (started : os.Started) (H : Type) (enc : TypeId × Value → H) :
    ReturnsInHanded {} Try.checked os 5 .any (Rows.fnExactNthOfSpec.pre6 enc Try.prog Try.f5 Rows.fnExactNthOfRow.domain false) (Rows.fnExactNthOfSpec.post enc Try.prog Try.f5 false true false false) := by
  refine returnsInHanded_of_change (C := Try.checked) Try.ownNthOf started (by kernel_rfl) Try.func5
    (ChangeSpec.witness6 (enc := enc) (C := Try.checked) false ⟨#[], #[.agg #[.bool false, .int .i64 0, .int .i64 0, .int .i64 0], .int .i64 0], []⟩ 8 (by kernel_rfl) (by kernel_rfl) (by kernel_rfl) (by kernel_rfl)) ?_
  intro W base args ds gs before hval0 hW _ _
  have hval : ∀ (j : Nat) t v, Try.f5.params[j]? = some t → args[j]? = some v → Value.okWide Try.prog W .any base t v := hval0
  have hW' := hW
  obtain ⟨p, q, hA0, hV, rfl, _, _⟩ := hW
  have hA : DataW.TrodAll enc Try.prog W 0 (fun _ => true) true Try.f5.params.toList args.toList ds p := hA0
  rw [Try.params5] at hA hval
  obtain ⟨v0, v1, d0, d1, p0, p1, rfl, rfl, rfl, h0, h1⟩ := trodAll_two hA
  obtain ⟨rfl, rfl⟩ := trodVars_none hV
  obtain ⟨j00, j01, j02, j03, y00, y01, y02, y03, m0, rfl, rfl, rfl, hy00, hy01, hy02, hy03⟩ := open_pfx Try.underlying25 Try.underlying23 (by kernel_rfl) rfl (by kernel_rfl) rfl (by kernel_rfl) Try.cellsNthOfP (hval 0 25 v0 rfl rfl) h0
  obtain ⟨s0, e00, rfl⟩ := DataW.trod_bool Try.underlying4 hy00
  obtain ⟨a0, e01, rfl, wa0⟩ := DataW.trod_int Try.underlying3 hy01
  obtain ⟨b0, e02, rfl, wb0⟩ := DataW.trod_int Try.underlying3 hy02
  obtain ⟨c0, e03, rfl, wc0⟩ := DataW.trod_int Try.underlying3 hy03
  simp at e00 e01 e02 e03
  subst e00 e01 e02 e03
  obtain ⟨n1, rfl, rfl, rfl, wn1⟩ := open_int Try.underlying3 (hval 1 3 v1 rfl rfl) h1
  clear hA0 hval0
  simp only [List.append_nil] at hW'
  have reads0 : ∀ (W' : World) (sp : Nat → Bool), DataW.Trod enc Try.prog W' 0 sp true 25 (.agg #[.bool s0, .int .i64 a0, .int .i64 b0, .int .i64 c0]) (.agg [.agg [.lit (.bool s0), .lit (.int .i64 a0), .lit (.int .i64 b0)], .lit (.int .i64 c0)]) [] := fun W' sp =>
    shut_pfx (y0 := (.lit (.bool s0), [])) (y1 := (.lit (.int .i64 a0), [])) (y2 := (.lit (.int .i64 b0), [])) (y3 := (.lit (.int .i64 c0), [])) Try.underlying25 Try.underlying23 (by kernel_rfl) rfl (by kernel_rfl) rfl (by kernel_rfl) Try.cellsNthOfP ⟨1, by simp [DataW.trod, Try.underlying4]⟩ ⟨1, by simp [DataW.trod, Try.underlying3, wa0]⟩ ⟨1, by simp [DataW.trod, Try.underlying3, wb0]⟩ ⟨1, by simp [DataW.trod, Try.underlying3, wc0]⟩
  have law := lawNthOf s0 (BitVec.ofInt 64 a0) (BitVec.ofInt 64 b0) c0 n1 (wfI wn1) W
  rw [toI_of wa0, toI_of wb0] at law
  refine law.mono fun e W' ⟨he, hb⟩ => ?_
  subst he
  exact ⟨_, rfl, ⟨_, _, _, [], [], [], hW', trodAll_mk1 (shut_bool Try.underlying4 true), trodAll_mk2 (reads0 _ _) (shut_int Try.underlying3 wn1), rfl, hb.frame _, fun h => by cases h⟩⟩

theorem nthOf_holds : Rows.FnExactNthOfSaid :=
  OpenClaim.holds_of_wide 5 Try.f5 rfl rfl rfl rfl rfl rfl rfl ⟨rfl, rfl, rfl, rfl, rfl⟩ rfl rfl rfl rfl rfl (by kernel_rfl) Try.func5 (by kernel_rfl)
    (of_decide_eq_true (by kernel_rfl)) (by unfold Func.isWrapper; rw [if_neg (of_decide_eq_false (by kernel_rfl))]; exact ⟨rfl, rfl⟩)
    (fun os started H enc _ => nthOf_lifted os started H enc)

end Go.Proofs.Ytkmfbbcofojfaad
