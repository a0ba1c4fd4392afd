/-
  For every text the two PutText answer alike, in rows of their own, so the exact law of PutText returns true; no condition.
-/
import Derived.Test.YtdcbmeiopfdkeaaCTxt
import Derived.Test.YtdcbmeiopfdkeaaCMark
import Derived.Test.YtdcbmeiopfdkeaaCLift
namespace Go.Proofs.Ytdcbmeiopfdkeaa
open Go.ChangeShapes Go.WideShapes Go.ChangeAt Go.RowKit Go.Joins Go.Deep

set_option maxHeartbeats 4000000 in
theorem lawPutText (s : ByteArray) (w : World) :
    Calls Try.prog 8 #[.string s] w fun e w' => e = .returned (.bool true) ∧ Below w.heap.size w w' := by
  by_cases hl : s.size ≤ 1048576
  · have hten : (txtB s).length ≤ 1048586 := by
      have h1 := numB_ten _ (u64_lt (s.size : Int)); have h2 := bys_len s; unfold txtB; rw [List.length_append]; omega
    go_enter Try.func8, Try.ntmps8
    have acc0 : Below w.heap.size w w := Below.refl _ _
    go_wp2_with fail
    refine (sPutText_any s w hl).mono ?_
    rintro e w1 ⟨a1, c1, rfl, ov, b1⟩
    have ac_v : w.heap.size ≤ w.heap.size := acc0.size
    have acc1 : Below w.heap.size w w1 := acc0.trans (b1.mono acc0.size)
    go_wp2_with fail
    refine (iPutText_any s w1 hl).mono ?_
    rintro e w2 ⟨a2, c2, rfl, og, b2⟩
    have ac_g : w.heap.size ≤ w1.heap.size := acc1.size
    have lt_v_g := fun k hk => (ov.lt k hk).2
    have acc2 : Below w.heap.size w w2 := acc1.trans (b2.mono acc1.size)
    have v_2 := ov.later b2
    go_wp2_with fail
    refine (eqByteS_any _ _ _ _ (txtB s) (txtB s) w2 (og.bytA) (v_2.bytA) (by omega) (by omega)).mono ?_
    rw [eqL_same]
    rintro e w3 ⟨rfl, b3⟩
    have acc3 : Below w.heap.size w w3 := acc2.trans (b3.mono acc2.size)
    have v_3 := v_2.later b3
    have g_3 := og.later b3
    go_wp2_with fail
    refine (markByteS_any a2 c2 _ (txtB s) 1 w3 g_3 (by omega) (by omega) (by omega)).mono ?_
    rintro e w4 ⟨rfl, omg, g4⟩
    have acc4 : Below w.heap.size w w4 := below_app acc3 (g_3.mono ac_g) acc3.size g4
    have v_4 := v_3.kept g4 (fun k h1 h2 => by have q1 := lt_v_g k h1; have q2 := (g_3.lt k h2).1; omega)
    go_wp2_with fail
    refine (heldByteS_any a2 c2 (txtB s).length 1 w4 (omg.bytA) (by omega) (by omega) (by omega)).mono ?_
    rintro e w5 ⟨rfl, b5⟩
    have acc5 : Below w.heap.size w w5 := acc4.trans (b5.mono acc4.size)
    have v_5 := v_4.later b5
    have g_5 := omg.later b5
    go_wp2_with fail
    refine (iPutText_any s w5 hl).mono ?_
    rintro e w6 ⟨a3, c3, rfl, oh, b6⟩
    have ac_h : w.heap.size ≤ w5.heap.size := acc5.size
    have lt_v_h := fun k hk => (v_5.lt k hk).2
    have lt_g_h := fun k hk => (g_5.lt k hk).2
    have acc6 : Below w.heap.size w w6 := acc5.trans (b6.mono acc5.size)
    have v_6 := v_5.later b6
    have g_6 := g_5.later b6
    go_wp2_with fail
    refine (eqByteS_any _ _ _ _ (txtB s) (txtB s) w6 (oh.bytA) (v_6.bytA) (by omega) (by omega)).mono ?_
    rw [eqL_same]
    rintro e w7 ⟨rfl, b7⟩
    have acc7 : Below w.heap.size w w7 := acc6.trans (b7.mono acc6.size)
    have v_7 := v_6.later b7
    have g_7 := g_6.later b7
    have h_7 := oh.later b7
    go_wp2_with fail
    refine (heldByteS_any a2 c2 (txtB s).length 1 w7 (g_7.bytA) (by omega) (by omega) (by omega)).mono ?_
    rintro e w8 ⟨rfl, b8⟩
    have acc8 : Below w.heap.size w w8 := acc7.trans (b8.mono acc7.size)
    have v_8 := v_7.later b8
    have g_8 := g_7.later b8
    have h_8 := h_7.later b8
    go_wp2_with fail
    go_ret
    exact ⟨rfl, acc8⟩
  · have d : decide ((1048576 : Int) < (s.size : Int)) = true := decide_eq_true (by omega)
    go_enter Try.func8, Try.ntmps8
    go_wp2_with fail
    go_ret
    exact ⟨rfl, Below.refl _ _⟩

set_option maxRecDepth 100000 in
theorem putText_lifted (os : Os) (started : os.Started) (H : Type) (enc : TypeId × Value → H) :
    ReturnsInHanded {} Try.checked os 8 .any (Rows.fnExactPutTextSpec.pre6 enc Try.prog Try.f8 Rows.fnExactPutTextRow.domain false) (Rows.fnExactPutTextSpec.post enc Try.prog Try.f8 false true false false) := by
  refine returnsInHanded_of_change (C := Try.checked) Try.ownC started (by kernel_rfl) Try.func8
    (ChangeSpec.witness6 (enc := enc) (C := Try.checked) false ⟨#[], #[.string ⟨#[]⟩], []⟩ 8 (by kernel_rfl) (by kernel_rfl) (by kernel_rfl) (by kernel_rfl)) ?_
  intro W base args ds gs before hval0 hW _ _
  have hval : ∀ (j : Nat) t v, Try.f8.params[j]? = some t → args[j]? = some v → Value.okWide Try.prog W .any base t v := hval0
  have hW' := hW
  obtain ⟨p, q, hA0, hV, rfl, _, _⟩ := hW
  have hA : DataW.TrodAll enc Try.prog W 0 (fun _ => true) true Try.f8.params.toList args.toList ds p := hA0
  rw [Try.params8] at hA hval
  obtain ⟨v0, d0, rfl, rfl, h0⟩ := trodAll_one hA
  obtain ⟨rfl, rfl⟩ := trodVars_none hV
  obtain ⟨s, rfl, rfl, rfl, ws⟩ := Go.ChangeMaps.open_string Try.underlying9 (hval 0 9 v0 rfl rfl) h0
  clear hA0 hval0
  simp only [List.append_nil] at hW'
  refine (lawPutText s W).mono fun e W' ⟨he, hb⟩ => ?_
  subst he
  exact ⟨_, rfl, ⟨_, _, _, [], [], [], hW', trodAll_mk1 (shut_bool Try.underlying4 true), trodAll_mk1 (Go.ChangeMaps.shut_string Try.underlying9 ws), rfl, hb.frame _, fun h => by cases h⟩⟩

theorem putText_holds : Rows.FnExactPutTextSaid :=
  OpenClaim.holds_of_wide 8 Try.f8 rfl rfl rfl rfl rfl rfl rfl ⟨rfl, rfl, rfl, rfl, rfl⟩ rfl rfl rfl rfl rfl (by kernel_rfl) Try.func8 (by kernel_rfl)
    (of_decide_eq_true (by kernel_rfl)) (by unfold Func.isWrapper; rw [if_neg (of_decide_eq_false (by kernel_rfl))]; exact ⟨rfl, rfl⟩)
    (fun os started H enc _ => putText_lifted os started H enc)


end Go.Proofs.Ytdcbmeiopfdkeaa
