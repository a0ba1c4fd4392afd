/-
  For every number the two PutNum answer alike, in rows of their own, so the exact law of PutNum returns true; no condition.
-/
import Derived.Test.YtdcbmeiopfdkeaaCPut
import Derived.Test.YtdcbmeiopfdkeaaCMark
import Derived.Test.YtdcbmeiopfdkeaaCLift
namespace Go.Proofs.Ytdcbmeiopfdkeaa
open Go.ChangeShapes Go.WideShapes Go.ChangeAt Go.RowKit Go.Joins Go.Deep

set_option maxHeartbeats 4000000 in
theorem lawPutNum (n : Int) (w : World) :
    Calls Try.prog 6 #[.int .i64 n] w fun e w' => e = .returned (.bool true) ∧ Below w.heap.size w w' := by
  have hten : (numB (u64 n)).length ≤ 10 := numB_ten _ (u64_lt n)
  go_enter Try.func6, Try.ntmps6
  have acc0 : Below w.heap.size w w := Below.refl _ _
  go_wp2_with fail
  refine (sPutNum_any n w).mono ?_
  rintro e w1 ⟨a1, c1, rfl, ov, b1⟩
  have ac_v : w.heap.size ≤ w.heap.size := acc0.size
  have acc1 : Below w.heap.size w w1 := acc0.trans (b1.mono acc0.size)
  go_wp2_with fail
  refine (iPutNum_any n w1).mono ?_
  rintro e w2 ⟨a2, c2, rfl, og, b2⟩
  have ac_g : w.heap.size ≤ w1.heap.size := acc1.size
  have lt_v_g := fun k hk => (ov.lt k hk).2
  have acc2 : Below w.heap.size w w2 := acc1.trans (b2.mono acc1.size)
  have v_2 := ov.later b2
  go_wp2_with fail
  refine (eqByteS_any _ _ _ _ (numB (u64 n)) (numB (u64 n)) w2 (og.bytA) (v_2.bytA) (by omega) (by omega)).mono ?_
  rw [eqL_same]
  rintro e w3 ⟨rfl, b3⟩
  have acc3 : Below w.heap.size w w3 := acc2.trans (b3.mono acc2.size)
  have v_3 := v_2.later b3
  have g_3 := og.later b3
  go_wp2_with fail
  refine (markByteS_any a2 c2 _ (numB (u64 n)) 1 w3 g_3 (by omega) (by omega) (by omega)).mono ?_
  rintro e w4 ⟨rfl, omg, g4⟩
  have acc4 : Below w.heap.size w w4 := below_app acc3 (g_3.mono ac_g) acc3.size g4
  have v_4 := v_3.kept g4 (fun k h1 h2 => by have q1 := lt_v_g k h1; have q2 := (g_3.lt k h2).1; omega)
  go_wp2_with fail
  refine (heldByteS_any a2 c2 (numB (u64 n)).length 1 w4 (omg.bytA) (by omega) (by omega) (by omega)).mono ?_
  rintro e w5 ⟨rfl, b5⟩
  have acc5 : Below w.heap.size w w5 := acc4.trans (b5.mono acc4.size)
  have v_5 := v_4.later b5
  have g_5 := omg.later b5
  go_wp2_with fail
  refine (iPutNum_any n w5).mono ?_
  rintro e w6 ⟨a3, c3, rfl, oh, b6⟩
  have ac_h : w.heap.size ≤ w5.heap.size := acc5.size
  have lt_v_h := fun k hk => (v_5.lt k hk).2
  have lt_g_h := fun k hk => (g_5.lt k hk).2
  have acc6 : Below w.heap.size w w6 := acc5.trans (b6.mono acc5.size)
  have v_6 := v_5.later b6
  have g_6 := g_5.later b6
  go_wp2_with fail
  refine (eqByteS_any _ _ _ _ (numB (u64 n)) (numB (u64 n)) w6 (oh.bytA) (v_6.bytA) (by omega) (by omega)).mono ?_
  rw [eqL_same]
  rintro e w7 ⟨rfl, b7⟩
  have acc7 : Below w.heap.size w w7 := acc6.trans (b7.mono acc6.size)
  have v_7 := v_6.later b7
  have g_7 := g_6.later b7
  have h_7 := oh.later b7
  go_wp2_with fail
  refine (heldByteS_any a2 c2 (numB (u64 n)).length 1 w7 (g_7.bytA) (by omega) (by omega) (by omega)).mono ?_
  rintro e w8 ⟨rfl, b8⟩
  have acc8 : Below w.heap.size w w8 := acc7.trans (b8.mono acc7.size)
  have v_8 := v_7.later b8
  have g_8 := g_7.later b8
  have h_8 := h_7.later b8
  go_wp2_with fail
  go_ret
  exact ⟨rfl, acc8⟩

set_option maxRecDepth 100000 in
theorem putNum_lifted (os : Os) (started : os.Started) (H : Type) (enc : TypeId × Value → H) :
    ReturnsInHanded {} Try.checked os 6 .any (Rows.fnExactPutNumSpec.pre6 enc Try.prog Try.f6 Rows.fnExactPutNumRow.domain false) (Rows.fnExactPutNumSpec.post enc Try.prog Try.f6 false true false false) := by
  refine returnsInHanded_of_change (C := Try.checked) Try.ownC started (by kernel_rfl) Try.func6
    (ChangeSpec.witness6 (enc := enc) (C := Try.checked) false ⟨#[], #[.int .i64 0], []⟩ 8 (by kernel_rfl) (by kernel_rfl) (by kernel_rfl) (by kernel_rfl)) ?_
  intro W base args ds gs before hval0 hW _ _
  have hval : ∀ (j : Nat) t v, Try.f6.params[j]? = some t → args[j]? = some v → Value.okWide Try.prog W .any base t v := hval0
  have hW' := hW
  obtain ⟨p, q, hA0, hV, rfl, _, _⟩ := hW
  have hA : DataW.TrodAll enc Try.prog W 0 (fun _ => true) true Try.f6.params.toList args.toList ds p := hA0
  rw [Try.params6] at hA hval
  obtain ⟨v0, d0, rfl, rfl, h0⟩ := trodAll_one hA
  obtain ⟨rfl, rfl⟩ := trodVars_none hV
  obtain ⟨n0, rfl, rfl, rfl, wn0⟩ := open_int Try.underlying3 (hval 0 3 v0 rfl rfl) h0
  clear hA0 hval0
  simp only [List.append_nil] at hW'
  refine (lawPutNum n0 W).mono fun e W' ⟨he, hb⟩ => ?_
  subst he
  exact ⟨_, rfl, ⟨_, _, _, [], [], [], hW', trodAll_mk1 (shut_bool Try.underlying4 true), trodAll_mk1 (shut_int Try.underlying3 wn0), rfl, hb.frame _, fun h => by cases h⟩⟩

theorem putNum_holds : Rows.FnExactPutNumSaid :=
  OpenClaim.holds_of_wide 6 Try.f6 rfl rfl rfl rfl rfl rfl rfl ⟨rfl, rfl, rfl, rfl, rfl⟩ rfl rfl rfl rfl rfl (by kernel_rfl) Try.func6 (by kernel_rfl)
    (of_decide_eq_true (by kernel_rfl)) (by unfold Func.isWrapper; rw [if_neg (of_decide_eq_false (by kernel_rfl))]; exact ⟨rfl, rfl⟩)
    (fun os started H enc _ => putNum_lifted os started H enc)


end Go.Proofs.Ytdcbmeiopfdkeaa
