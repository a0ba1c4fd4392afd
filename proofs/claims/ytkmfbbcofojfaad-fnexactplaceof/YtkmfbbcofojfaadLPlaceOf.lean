/-
  For every prefix and every address the two PlaceOf answer alike, so the exact law of PlaceOf returns true; no condition.
-/
import Derived.Test.YtkmfbbcofojfaadBIPlc
import Derived.Test.YtkmfbbcofojfaadBSPlc
import Derived.Test.YtkmfbbcofojfaadLGapTo
import Derived.Test.YtkmfbbcofojfaadBTo
import Derived.Test.YtkmfbbcofojfaadBOpen
import Derived.Deep.RegionHeld3
import Derived.ProofKit
import Derived.Lib.SmallJoins
namespace Go.Proofs.Ytkmfbbcofojfaad
open Go.ChangeShapes Go.WideShapes Go.ChangeAt Go.RowKit Go.Joins Go.Deep

/-- A number of the kind int lies in its bounds. -/
theorem wfI {x : Int} (h : (Lit.int .i64 x).wf = true) : -9223372036854775808 ≤ x ∧ x ≤ 9223372036854775807 := by
  simpa [Lit.wf, IntKind.min, IntKind.max, IntKind.signed, IntKind.bits] using h
theorem toI_of {x : Int} (h : (Lit.int .i64 x).wf = true) : (BitVec.ofInt 64 x).toInt = x := by
  have := wfI h
  rw [BitVec.toInt_ofInt, Int.bmod_def]
  omega

theorem bvP_bd (x : BitVec 64) : -9223372036854775808 ≤ x.toInt ∧ x.toInt ≤ 9223372036854775807 := by
  have h := x.isLt
  rw [BitVec.toInt_eq_toNat_cond]
  split <;> omega

/-- Both PlaceOf return one and the same pair. -/
theorem placeOf_both (s : Bool) (H L : BitVec 64) (b : Int) (s' : Bool) (H' L' : BitVec 64) : ∃ (v : Int) (ok : Bool),
    (∀ w : World, Calls Try.prog 16 #[.agg #[.bool s, .int .i64 H.toInt, .int .i64 L.toInt, .int .i64 b], .agg #[.bool s', .int .i64 H'.toInt, .int .i64 L'.toInt]] w fun e w' => e = .returned (.tuple #[.int .i64 v, .bool ok]) ∧ Below w.heap.size w w') ∧
    (∀ w : World, Calls Try.prog 18 #[.agg #[.bool s, .int .i64 H.toInt, .int .i64 L.toInt, .int .i64 b], .agg #[.bool s', .int .i64 H'.toInt, .int .i64 L'.toInt]] w fun e w' => e = .returned (.tuple #[.int .i64 v, .bool ok]) ∧ Below w.heap.size w w') := by
  cases hh : hadB s H L b s' H' L'
  · exact ⟨0, false, sPlaceOf_no s H L b s' H' L' hh, iPlaceOf_no s H L b s' H' L' hh⟩
  · obtain ⟨v, ok, hs, hi⟩ := gap_both s H.toInt L.toInt s' H'.toInt L'.toInt (bvP_bd _) (bvP_bd _) (bvP_bd _) (bvP_bd _)
    exact ⟨v, ok, sPlaceOf_yes s H L b s' H' L' v ok hh hs, iPlaceOf_yes s H L b s' H' L' v ok hh hi⟩

set_option maxHeartbeats 1000000 in
theorem lawPlaceOf (s : Bool) (H L : BitVec 64) (b : Int) (s' : Bool) (H' L' : BitVec 64) (w : World) :
    Calls Try.prog 6 #[.agg #[.bool s, .int .i64 H.toInt, .int .i64 L.toInt, .int .i64 b], .agg #[.bool s', .int .i64 H'.toInt, .int .i64 L'.toInt]] w fun e w' => e = .returned (.bool true) ∧ Below w.heap.size w w' := by
  obtain ⟨v, ok, hs, hi⟩ := placeOf_both s H L b s' H' L'
  have HS : Hid (∀ w : World, _) := hs
  have HI : Hid (∀ w : World, _) := hi
  clear hs hi
  go_enter Try.func6, Try.ntmps6
  go_wp2_with fail
  go_region_held3 (fun x => x.cell? ⟨w.heap.size, 0, none⟩ = some (.bool s) ∧ x.cell? ⟨w.heap.size, 1, none⟩ = some (.int .i64 H.toInt) ∧ x.cell? ⟨w.heap.size, 2, none⟩ = some (.int .i64 L.toInt) ∧ x.cell? ⟨w.heap.size, 3, none⟩ = some (.int .i64 b) ∧ x.cell? ⟨w.heap.size + 1, 0, none⟩ = some (.bool s') ∧ x.cell? ⟨w.heap.size + 1, 1, none⟩ = some (.int .i64 H'.toInt) ∧ x.cell? ⟨w.heap.size + 1, 2, none⟩ = some (.int .i64 L'.toInt)) ((refine seven_of_below (W := (w.alloc (.cells #[.bool s, .int .i64 H.toInt, .int .i64 L.toInt, .int .i64 b] 25)).alloc (.cells #[.bool s', .int .i64 H'.toInt, .int .i64 L'.toInt] 23)) (n := w.heap.size + 2) ?_ (by omega) (by omega) ⟨by simp [go_sem], by simp [go_sem], by simp [go_sem], by simp [go_sem], by simp [go_sem], by simp [go_sem], by simp [go_sem]⟩; repeat (first | with_reducible exact Below.refl _ _ | (with_reducible refine Below.drew ?_) | (with_reducible refine Below.alloc ?_ ?_ _; rotate_left; (focus (first | omega | (simp; omega) | (simp; done)))) | (with_reducible refine Below.setCell ?_ ?_ _; rotate_left; (focus (first | omega | (simp; omega) | (simp; done)))) | (with_reducible refine Below.trans ?_ (hb3.mono ?_); rotate_left; (focus (first | omega | (simp; omega) | (simp; done)))) | (with_reducible refine Below.trans ?_ (hb2.mono ?_); rotate_left; (focus (first | omega | (simp; omega) | (simp; done)))) | (with_reducible refine Below.trans ?_ (hb1.mono ?_); rotate_left; (focus (first | omega | (simp; omega) | (simp; done))))))) (first | (go_at_call 16; refine (HS.out _).mono ?_; rintro e w3 ⟨rfl, hb3⟩; have hz3 := hb3.size; (try simp at hz3); (first | (refine ltk (w.heap.size) (w3.heap.size) ?_ ?_; (focus omega); intro f30) | skip); (first | (refine ltk (w.heap.size + 1) (w3.heap.size) ?_ ?_; (focus omega); intro f31) | skip); (refine olds_k (w.heap.size + 2) hb3 ?_ ?_; (focus (first | omega | (simp; omega) | (simp; done))); intro hc3 hf3)) | (go_at_call_of 8 (Value.int IntKind.i64 H.toInt); refine (toPrefix_any s H.toInt L.toInt b _).mono ?_; rintro e w1 ⟨rfl, hb1⟩; have hz1 := hb1.size; (try simp at hz1); (first | (refine ltk (w.heap.size) (w1.heap.size) ?_ ?_; (focus omega); intro f10) | skip); (first | (refine ltk (w.heap.size + 1) (w1.heap.size) ?_ ?_; (focus omega); intro f11) | skip); (refine olds_k (w.heap.size + 2) hb1 ?_ ?_; (focus (first | omega | (simp; omega) | (simp; done))); intro hc1 hf1)) | (go_at_call 17; refine (toAddr_any s' H'.toInt L'.toInt _).mono ?_; rintro e w2 ⟨rfl, hb2⟩; have hz2 := hb2.size; (try simp at hz2); (first | (refine ltk (w.heap.size) (w2.heap.size) ?_ ?_; (focus omega); intro f20) | skip); (first | (refine ltk (w.heap.size + 1) (w2.heap.size) ?_ ?_; (focus omega); intro f21) | skip); (refine olds_k (w.heap.size + 2) hb2 ?_ ?_; (focus (first | omega | (simp; omega) | (simp; done))); intro hc2 hf2)))
  go_wp2_with fail
  go_region_held3 (fun x => x.cell? ⟨w.heap.size, 0, none⟩ = some (.bool s) ∧ x.cell? ⟨w.heap.size, 1, none⟩ = some (.int .i64 H.toInt) ∧ x.cell? ⟨w.heap.size, 2, none⟩ = some (.int .i64 L.toInt) ∧ x.cell? ⟨w.heap.size, 3, none⟩ = some (.int .i64 b) ∧ x.cell? ⟨w.heap.size + 1, 0, none⟩ = some (.bool s') ∧ x.cell? ⟨w.heap.size + 1, 1, none⟩ = some (.int .i64 H'.toInt) ∧ x.cell? ⟨w.heap.size + 1, 2, none⟩ = some (.int .i64 L'.toInt)) ((refine seven_of_below (W := (w.alloc (.cells #[.bool s, .int .i64 H.toInt, .int .i64 L.toInt, .int .i64 b] 25)).alloc (.cells #[.bool s', .int .i64 H'.toInt, .int .i64 L'.toInt] 23)) (n := w.heap.size + 2) ?_ (by omega) (by omega) ⟨by simp [go_sem], by simp [go_sem], by simp [go_sem], by simp [go_sem], by simp [go_sem], by simp [go_sem], by simp [go_sem]⟩; repeat (first | with_reducible exact Below.refl _ _ | (with_reducible refine Below.drew ?_) | (with_reducible refine Below.alloc ?_ ?_ _; rotate_left; (focus (first | omega | (simp; omega) | (simp; done)))) | (with_reducible refine Below.setCell ?_ ?_ _; rotate_left; (focus (first | omega | (simp; omega) | (simp; done)))) | (with_reducible refine Below.trans ?_ (hb6.mono ?_); rotate_left; (focus (first | omega | (simp; omega) | (simp; done)))) | (with_reducible refine Below.trans ?_ (hb5.mono ?_); rotate_left; (focus (first | omega | (simp; omega) | (simp; done)))) | (with_reducible refine Below.trans ?_ (hb4.mono ?_); rotate_left; (focus (first | omega | (simp; omega) | (simp; done)))) | (with_reducible refine Below.trans ?_ (hb3.mono ?_); rotate_left; (focus (first | omega | (simp; omega) | (simp; done)))) | (with_reducible refine Below.trans ?_ (hb2.mono ?_); rotate_left; (focus (first | omega | (simp; omega) | (simp; done)))) | (with_reducible refine Below.trans ?_ (hb1.mono ?_); rotate_left; (focus (first | omega | (simp; omega) | (simp; done))))))) (first | (go_at_call 18; refine (HI.out _).mono ?_; rintro e w6 ⟨rfl, hb6⟩; have hz6 := hb6.size; (try simp at hz6); (first | (refine ltk (w.heap.size) (w6.heap.size) ?_ ?_; (focus omega); intro f60) | skip); (first | (refine ltk (w.heap.size + 1) (w6.heap.size) ?_ ?_; (focus omega); intro f61) | skip); (refine olds_k (w.heap.size + 2) hb6 ?_ ?_; (focus (first | omega | (simp; omega) | (simp; done))); intro hc6 hf6)) | (go_at_call_of 8 (Value.int IntKind.i64 H.toInt); refine (toPrefix_any s H.toInt L.toInt b _).mono ?_; rintro e w4 ⟨rfl, hb4⟩; have hz4 := hb4.size; (try simp at hz4); (first | (refine ltk (w.heap.size) (w4.heap.size) ?_ ?_; (focus omega); intro f40) | skip); (first | (refine ltk (w.heap.size + 1) (w4.heap.size) ?_ ?_; (focus omega); intro f41) | skip); (refine olds_k (w.heap.size + 2) hb4 ?_ ?_; (focus (first | omega | (simp; omega) | (simp; done))); intro hc4 hf4)) | (go_at_call 17; refine (toAddr_any s' H'.toInt L'.toInt _).mono ?_; rintro e w5 ⟨rfl, hb5⟩; have hz5 := hb5.size; (try simp at hz5); (first | (refine ltk (w.heap.size) (w5.heap.size) ?_ ?_; (focus omega); intro f50) | skip); (first | (refine ltk (w.heap.size + 1) (w5.heap.size) ?_ ?_; (focus omega); intro f51) | skip); (refine olds_k (w.heap.size + 2) hb5 ?_ ?_; (focus (first | omega | (simp; omega) | (simp; done))); intro hc5 hf5)))
  go_wp2_with fail
  go_ret
  refine ⟨rfl, ?_⟩
  repeat (first | with_reducible exact Below.refl _ _ | (with_reducible refine Below.drew ?_) | (with_reducible refine Below.alloc ?_ ?_ _; rotate_left; (focus (first | omega | (simp; omega) | (simp; done)))) | (with_reducible refine Below.setCell ?_ ?_ _; rotate_left; (focus (first | omega | (simp; omega) | (simp; done)))) | (with_reducible refine Below.trans ?_ (hb6.mono ?_); rotate_left; (focus (first | omega | (simp; omega) | (simp; done)))) | (with_reducible refine Below.trans ?_ (hb5.mono ?_); rotate_left; (focus (first | omega | (simp; omega) | (simp; done)))) | (with_reducible refine Below.trans ?_ (hb4.mono ?_); rotate_left; (focus (first | omega | (simp; omega) | (simp; done)))) | (with_reducible refine Below.trans ?_ (hb3.mono ?_); rotate_left; (focus (first | omega | (simp; omega) | (simp; done)))) | (with_reducible refine Below.trans ?_ (hb2.mono ?_); rotate_left; (focus (first | omega | (simp; omega) | (simp; done)))) | (with_reducible refine Below.trans ?_ (hb1.mono ?_); rotate_left; (focus (first | omega | (simp; omega) | (simp; done)))))

theorem Try.ownPlaceOf : ownKnob Try.prog.godebug = none := by kernel_rfl
theorem Try.cellsPlaceOfA : Try.prog.cellsOf 23 = 3 := by kernel_rfl
theorem Try.cellsPlaceOfP : Try.prog.cellsOf 25 = 4 := by kernel_rfl

set_option maxRecDepth 100000 in
theorem placeOf_lifted (os : Os) (started : os.Started) (H : Type) (enc : TypeId × Value → H) :
    ReturnsInHanded {} Try.checked os 6 .any (Rows.fnExactPlaceOfSpec.pre6 enc Try.prog Try.f6 Rows.fnExactPlaceOfRow.domain false) (Rows.fnExactPlaceOfSpec.post enc Try.prog Try.f6 false true false false) := by
  refine returnsInHanded_of_change (C := Try.checked) Try.ownPlaceOf started (by kernel_rfl) Try.func6
    (ChangeSpec.witness6 (enc := enc) (C := Try.checked) false ⟨#[], #[.agg #[.bool false, .int .i64 0, .int .i64 0, .int .i64 0], .agg #[.bool false, .int .i64 0, .int .i64 0]], []⟩ 8 (by kernel_rfl) (by kernel_rfl) (by kernel_rfl) (by kernel_rfl)) ?_
  intro W base args ds gs before hval0 hW _ _
  have hval : ∀ (j : Nat) t v, Try.f6.params[j]? = some t → args[j]? = some v → Value.okWide Try.prog W .any base t v := hval0
  have hW' := hW
  obtain ⟨p, q, hA0, hV, rfl, _, _⟩ := hW
  have hA : DataW.TrodAll enc Try.prog W 0 (fun _ => true) true Try.f6.params.toList args.toList ds p := hA0
  rw [Try.params6] at hA hval
  obtain ⟨v0, v1, d0, d1, p0, p1, rfl, rfl, rfl, h0, h1⟩ := trodAll_two hA
  obtain ⟨rfl, rfl⟩ := trodVars_none hV
  obtain ⟨j00, j01, j02, j03, y00, y01, y02, y03, m0, rfl, rfl, rfl, hy00, hy01, hy02, hy03⟩ := open_pfx Try.underlying25 Try.underlying23 (by kernel_rfl) rfl (by kernel_rfl) rfl (by kernel_rfl) Try.cellsPlaceOfP (hval 0 25 v0 rfl rfl) h0
  obtain ⟨s0, e00, rfl⟩ := DataW.trod_bool Try.underlying4 hy00
  obtain ⟨a0, e01, rfl, wa0⟩ := DataW.trod_int Try.underlying3 hy01
  obtain ⟨b0, e02, rfl, wb0⟩ := DataW.trod_int Try.underlying3 hy02
  obtain ⟨c0, e03, rfl, wc0⟩ := DataW.trod_int Try.underlying3 hy03
  simp at e00 e01 e02 e03
  subst e00 e01 e02 e03
  obtain ⟨j10, j11, j12, y10, y11, y12, m1, rfl, rfl, rfl, hy10, hy11, hy12⟩ := open_agg3 Try.underlying23 (by kernel_rfl) Try.cellsPlaceOfA (hval 1 23 v1 rfl rfl) h1
  obtain ⟨s1, e10, rfl⟩ := DataW.trod_bool Try.underlying4 hy10
  obtain ⟨a1, e11, rfl, wa1⟩ := DataW.trod_int Try.underlying3 hy11
  obtain ⟨b1, e12, rfl, wb1⟩ := DataW.trod_int Try.underlying3 hy12
  simp at e10 e11 e12
  subst e10 e11 e12
  clear hA0 hval0
  simp only [List.append_nil] at hW'
  have reads0 : ∀ (W' : World) (sp : Nat → Bool), DataW.Trod enc Try.prog W' 0 sp true 25 (.agg #[.bool s0, .int .i64 a0, .int .i64 b0, .int .i64 c0]) (.agg [.agg [.lit (.bool s0), .lit (.int .i64 a0), .lit (.int .i64 b0)], .lit (.int .i64 c0)]) [] := fun W' sp =>
    shut_pfx (y0 := (.lit (.bool s0), [])) (y1 := (.lit (.int .i64 a0), [])) (y2 := (.lit (.int .i64 b0), [])) (y3 := (.lit (.int .i64 c0), [])) Try.underlying25 Try.underlying23 (by kernel_rfl) rfl (by kernel_rfl) rfl (by kernel_rfl) Try.cellsPlaceOfP ⟨1, by simp [DataW.trod, Try.underlying4]⟩ ⟨1, by simp [DataW.trod, Try.underlying3, wa0]⟩ ⟨1, by simp [DataW.trod, Try.underlying3, wb0]⟩ ⟨1, by simp [DataW.trod, Try.underlying3, wc0]⟩
  have reads1 : ∀ (W' : World) (sp : Nat → Bool), DataW.Trod enc Try.prog W' 0 sp true 23 (.agg #[.bool s1, .int .i64 a1, .int .i64 b1]) (.agg [.lit (.bool s1), .lit (.int .i64 a1), .lit (.int .i64 b1)]) [] := fun W' sp =>
    shut_agg3 (y0 := (.lit (.bool s1), [])) (y1 := (.lit (.int .i64 a1), [])) (y2 := (.lit (.int .i64 b1), [])) Try.underlying23 (by kernel_rfl) Try.cellsPlaceOfA ⟨1, by simp [DataW.trod, Try.underlying4]⟩ ⟨1, by simp [DataW.trod, Try.underlying3, wa1]⟩ ⟨1, by simp [DataW.trod, Try.underlying3, wb1]⟩
  have law := lawPlaceOf s0 (BitVec.ofInt 64 a0) (BitVec.ofInt 64 b0) c0 s1 (BitVec.ofInt 64 a1) (BitVec.ofInt 64 b1) W
  rw [toI_of wa0, toI_of wb0, toI_of wa1, toI_of wb1] at law
  refine law.mono fun e W' ⟨he, hb⟩ => ?_
  subst he
  exact ⟨_, rfl, ⟨_, _, _, [], [], [], hW', trodAll_mk1 (shut_bool Try.underlying4 true), trodAll_mk2 (reads0 _ _) (reads1 _ _), rfl, hb.frame _, fun h => by cases h⟩⟩

theorem placeOf_holds : Rows.FnExactPlaceOfSaid :=
  OpenClaim.holds_of_wide 6 Try.f6 rfl rfl rfl rfl rfl rfl rfl ⟨rfl, rfl, rfl, rfl, rfl⟩ rfl rfl rfl rfl rfl (by kernel_rfl) Try.func6 (by kernel_rfl)
    (of_decide_eq_true (by kernel_rfl)) (by unfold Func.isWrapper; rw [if_neg (of_decide_eq_false (by kernel_rfl))]; exact ⟨rfl, rfl⟩)
    (fun os started H enc _ => placeOf_lifted os started H enc)

end Go.Proofs.Ytkmfbbcofojfaad
