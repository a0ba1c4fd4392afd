/-
  For every address the two PutAddr answer alike, in rows of their own, so the exact law of PutAddr returns true; no condition.
-/
import Derived.Test.YtdcbmeiopfdkeabCAdr
import Derived.Test.YtdcbmeiopfdkeabCMark
import Derived.Test.YtdcbmeiopfdkeabCLift
namespace Go.Proofs.Ytdcbmeiopfdkeab
open Go.ChangeShapes Go.WideShapes Go.ChangeAt Go.RowKit Go.Joins Go.Deep

theorem Try.cellsAddrC : Try.prog.cellsOf 29 = 3 := by kernel_rfl
theorem wfI {x : Int} (h : (Lit.int .i64 x).wf = true) : -9223372036854775808 ≤ x ∧ x ≤ 9223372036854775807 := by
  simpa [Lit.wf, IntKind.min, IntKind.max, IntKind.signed, IntKind.bits] using h

theorem bx_step {w prev cur : World} {o : Obj} (h : Below (w.heap.size + 1) (w.alloc o) prev) (b : Below prev.heap.size prev cur) : Below (w.heap.size + 1) (w.alloc o) cur :=
  h.trans (b.mono (by have := h.size; simpa using this))
theorem bx_le {w prev : World} {o : Obj} (h : Below (w.heap.size + 1) (w.alloc o) prev) : w.heap.size + 1 ≤ prev.heap.size := by have := h.size; simpa using this
theorem bx_mark {w prev cur : World} {o : Obj} {B : Nat} {v : Value} {zs : List Int} (h : Below (w.heap.size + 1) (w.alloc o) prev) (ow : Own prev B v zs) (hB : w.heap.size + 1 ≤ B) (g : prev.grownBy cur v.ownBlock) : Below (w.heap.size + 1) (w.alloc o) cur :=
  h.grown g (bx_le h) (fun k hk => Nat.le_trans hB (ow.lt k hk).1)

set_option maxHeartbeats 4000000 in
theorem lawPutAddr (s : Bool) (h l : Int) (w : World) :
    Calls Try.prog 4 #[.agg #[.bool s, .int .i64 h, .int .i64 l]] w fun e w' => e = .returned (.bool true) ∧ Below w.heap.size w w' := by
  have hfl := adrB_len s h l
  go_enter Try.func4, Try.ntmps4
  have acc0 : Below w.heap.size w (w.alloc (.cells #[.bool s, .int .i64 h, .int .i64 l] 29)) := (Below.refl _ w).alloc (Nat.le_refl _) _
  have bx0 : Below (w.heap.size + 1) (w.alloc (.cells #[.bool s, .int .i64 h, .int .i64 l] 29)) (w.alloc (.cells #[.bool s, .int .i64 h, .int .i64 l] 29)) := Below.refl _ _
  go_wp2_with fail
  refine (toAddr_any s h l _).mono ?_
  rintro e w1 ⟨rfl, b1⟩
  have acc1 : Below w.heap.size w w1 := acc0.trans (b1.mono acc0.size)
  have bx1 := bx_step bx0 b1
  go_wp2_with fail
  refine (sPutAddr_any s h l w1).mono ?_
  rintro e w2 ⟨g1, c1, rfl, ov, b2⟩
  have ac_v : w.heap.size ≤ w1.heap.size := acc1.size
  have bxl_v := bx_le bx1
  have acc2 : Below w.heap.size w w2 := acc1.trans (b2.mono acc1.size)
  have bx2 := bx_step bx1 b2
  obtain ⟨q0_2, q1_2, q2_2⟩ := box3 bx2
  go_wp2_with fail
  refine (toAddr_any s h l w2).mono ?_
  rintro e w3 ⟨rfl, b3⟩
  have acc3 : Below w.heap.size w w3 := acc2.trans (b3.mono acc2.size)
  have bx3 := bx_step bx2 b3
  have v_3 := ov.later b3
  clear q0_2 q1_2 q2_2
  go_wp2_with fail
  refine (iPutAddr_any s h l w3).mono ?_
  rintro e w4 ⟨g2, c2, rfl, og, b4⟩
  have ac_g : w.heap.size ≤ w3.heap.size := acc3.size
  have bxl_g := bx_le bx3
  have lt_v_g := fun k hk => (v_3.lt k hk).2
  have acc4 : Below w.heap.size w w4 := acc3.trans (b4.mono acc3.size)
  have bx4 := bx_step bx3 b4
  have v_4 := v_3.later b4
  go_wp2_with fail
  refine (eqByteS_any _ _ _ _ (adrB s h l) (adrB s h l) w4 (og.bytA) (v_4.bytA) (by omega) (by omega)).mono ?_
  rw [eqL_same]
  rintro e w5 ⟨rfl, b5⟩
  have acc5 : Below w.heap.size w w5 := acc4.trans (b5.mono acc4.size)
  have bx5 := bx_step bx4 b5
  have v_5 := v_4.later b5
  have g_5 := og.later b5
  go_wp2_with fail
  refine (markByteS_any _ _ _ (adrB s h l) 1 w5 g_5 (by omega) (by omega) (by omega)).mono ?_
  rintro e w6 ⟨rfl, omg, g6⟩
  have acc6 : Below w.heap.size w w6 := below_app acc5 (g_5.mono ac_g) acc5.size g6
  have bx6 := bx_mark bx5 g_5 bxl_g g6
  have v_6 := v_5.kept g6 (fun k h1 h2 => by have q1 := lt_v_g k h1; have q2 := (g_5.lt k h2).1; omega)
  go_wp2_with fail
  refine (heldByteS_any _ _ (adrB s h l).length 1 w6 (omg.bytA) (by omega) (by omega) (by omega)).mono ?_
  rintro e w7 ⟨rfl, b7⟩
  have acc7 : Below w.heap.size w w7 := acc6.trans (b7.mono acc6.size)
  have bx7 := bx_step bx6 b7
  have v_7 := v_6.later b7
  have g_7 := omg.later b7
  obtain ⟨q0_7, q1_7, q2_7⟩ := box3 bx7
  go_wp2_with fail
  refine (toAddr_any s h l w7).mono ?_
  rintro e w8 ⟨rfl, b8⟩
  have acc8 : Below w.heap.size w w8 := acc7.trans (b8.mono acc7.size)
  have bx8 := bx_step bx7 b8
  have v_8 := v_7.later b8
  have g_8 := g_7.later b8
  clear q0_7 q1_7 q2_7
  go_wp2_with fail
  refine (iPutAddr_any s h l w8).mono ?_
  rintro e w9 ⟨g3, c3, rfl, oh, b9⟩
  have ac_h : w.heap.size ≤ w8.heap.size := acc8.size
  have bxl_h := bx_le bx8
  have lt_v_h := fun k hk => (v_8.lt k hk).2
  have lt_g_h := fun k hk => (g_8.lt k hk).2
  have acc9 : Below w.heap.size w w9 := acc8.trans (b9.mono acc8.size)
  have bx9 := bx_step bx8 b9
  have v_9 := v_8.later b9
  have g_9 := g_8.later b9
  go_wp2_with fail
  refine (eqByteS_any _ _ _ _ (adrB s h l) (adrB s h l) w9 (oh.bytA) (v_9.bytA) (by omega) (by omega)).mono ?_
  rw [eqL_same]
  rintro e w10 ⟨rfl, b10⟩
  have acc10 : Below w.heap.size w w10 := acc9.trans (b10.mono acc9.size)
  have bx10 := bx_step bx9 b10
  have v_10 := v_9.later b10
  have g_10 := g_9.later b10
  have h_10 := oh.later b10
  go_wp2_with fail
  refine (heldByteS_any _ _ (adrB s h l).length 1 w10 (g_10.bytA) (by omega) (by omega) (by omega)).mono ?_
  rintro e w11 ⟨rfl, b11⟩
  have acc11 : Below w.heap.size w w11 := acc10.trans (b11.mono acc10.size)
  have bx11 := bx_step bx10 b11
  have v_11 := v_10.later b11
  have g_11 := g_10.later b11
  have h_11 := h_10.later b11
  go_wp2_with fail
  go_ret
  exact ⟨rfl, acc11⟩

set_option maxRecDepth 100000 in
theorem putAddr_lifted (os : Os) (started : os.Started) (H : Type) (enc : TypeId × Value → H) :
    ReturnsInHanded {} Try.checked os 4 .any (Rows.fnExactPutAddrSpec.pre6 enc Try.prog Try.f4 Rows.fnExactPutAddrRow.domain false) (Rows.fnExactPutAddrSpec.post enc Try.prog Try.f4 false true false false) := by
  refine returnsInHanded_of_change (C := Try.checked) Try.ownC started (by kernel_rfl) Try.func4
    (ChangeSpec.witness6 (enc := enc) (C := Try.checked) false ⟨#[], #[.agg #[.bool false, .int .i64 0, .int .i64 0]], []⟩ 8 (by kernel_rfl) (by kernel_rfl) (by kernel_rfl) (by kernel_rfl)) ?_
  intro W base args ds gs before hval0 hW _ _
  have hval : ∀ (j : Nat) t v, Try.f4.params[j]? = some t → args[j]? = some v → Value.okWide Try.prog W .any base t v := hval0
  have hW' := hW
  obtain ⟨p, q, hA0, hV, rfl, _, _⟩ := hW
  have hA : DataW.TrodAll enc Try.prog W 0 (fun _ => true) true Try.f4.params.toList args.toList ds p := hA0
  rw [Try.params4] at hA hval
  obtain ⟨v0, d0, rfl, rfl, h0⟩ := trodAll_one hA
  obtain ⟨rfl, rfl⟩ := trodVars_none hV
  obtain ⟨k0, k1, k2, y0, y1, y2, m, rfl, rfl, rfl, hy0, hy1, hy2⟩ := open_agg3 Try.underlying29 (by kernel_rfl) Try.cellsAddrC (hval 0 29 v0 rfl rfl) h0
  obtain ⟨s, e0, rfl⟩ := DataW.trod_bool Try.underlying4 hy0
  obtain ⟨a, e1, rfl, wa⟩ := DataW.trod_int Try.underlying3 hy1
  obtain ⟨b, e2, rfl, wb⟩ := DataW.trod_int Try.underlying3 hy2
  simp at e0 e1 e2
  subst e0 e1 e2
  clear hA0 hval0
  simp only [List.append_nil] at hW'
  have structReads : ∀ (W' : World) (sp : Nat → Bool), DataW.Trod enc Try.prog W' 0 sp true 29 (.agg #[.bool s, .int .i64 a, .int .i64 b]) (.agg [.lit (.bool s), .lit (.int .i64 a), .lit (.int .i64 b)]) [] := fun W' sp =>
    shut_agg3 (y0 := (.lit (.bool s), [])) (y1 := (.lit (.int .i64 a), [])) (y2 := (.lit (.int .i64 b), [])) Try.underlying29 (by kernel_rfl) Try.cellsAddrC ⟨1, by simp [DataW.trod, Try.underlying4]⟩ ⟨1, by simp [DataW.trod, Try.underlying3, wa]⟩ ⟨1, by simp [DataW.trod, Try.underlying3, wb]⟩
  refine (lawPutAddr s a b W).mono fun e W' ⟨he, hb⟩ => ?_
  subst he
  exact ⟨_, rfl, ⟨_, _, _, [], [], [], hW', trodAll_mk1 (shut_bool Try.underlying4 true), trodAll_mk1 (structReads _ _), rfl, hb.frame _, fun h => by cases h⟩⟩

theorem putAddr_holds : Rows.FnExactPutAddrSaid :=
  OpenClaim.holds_of_wide 4 Try.f4 rfl rfl rfl rfl rfl rfl rfl ⟨rfl, rfl, rfl, rfl, rfl⟩ rfl rfl rfl rfl rfl (by kernel_rfl) Try.func4 (by kernel_rfl)
    (of_decide_eq_true (by kernel_rfl)) (by unfold Func.isWrapper; rw [if_neg (of_decide_eq_false (by kernel_rfl))]; exact ⟨rfl, rfl⟩)
    (fun os started H enc _ => putAddr_lifted os started H enc)


end Go.Proofs.Ytdcbmeiopfdkeab
