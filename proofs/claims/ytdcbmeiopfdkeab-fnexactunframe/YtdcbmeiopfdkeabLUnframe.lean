/-
  For every row of bytes and every place the two Unframe answer alike, in rows of their own, and leave the bytes as they were, so the exact law of Unframe returns true; no condition.
-/
import Derived.Test.YtdcbmeiopfdkeabCUnS
import Derived.Test.YtdcbmeiopfdkeabCMark
import Derived.Test.YtdcbmeiopfdkeabCLift
namespace Go.Proofs.Ytdcbmeiopfdkeab
open Go.ChangeShapes Go.WideShapes Go.ChangeAt Go.RowKit Go.Joins Go.Deep

theorem wfI {x : Int} (h : (Lit.int .i64 x).wf = true) : -9223372036854775808 ≤ x ∧ x ≤ 9223372036854775807 := by
  simpa [Lit.wf, IntKind.min, IntKind.max, IntKind.signed, IntKind.bits] using h

set_option maxHeartbeats 8000000 in
theorem lawUnframe (a : Option Addr) (cap : Nat) (zs : List Int) (at' : Int) (w : World) (hB : Byt w a zs) (ho : Oct zs) (hat : -9223372036854775808 ≤ at' ∧ at' ≤ 9223372036854775807) :
    Calls Try.prog 8 #[.slice a zs.length cap, .int .i64 at'] w fun e w' => e = .returned (.bool true) ∧ Below w.heap.size w w' := by
  have HB := hid' hB
  have HO := hid' ho
  clear hB ho
  by_cases hl : zs.length ≤ 1048576
  · have hul := uf_len zs at'
    go_enter Try.func8, Try.ntmps8
    have acc0 : Below w.heap.size w w := Below.refl _ _
    go_wp2_with fail
    refine (toByteS_ex a cap zs w (HB.out.later acc0) hl).mono ?_
    rintro e w1 ⟨gt, rfl, ot, b1⟩
    have ac_t : w.heap.size ≤ w.heap.size := acc0.size
    have acc1 : Below w.heap.size w w1 := acc0.trans (b1.mono acc0.size)
    go_wp2_with fail
    refine (sUnframe_all _ _ zs at' w1 (ot.byt rfl) HO.out (Nat.le_refl _) (by omega) (by omega) hat.2 (by simp)).mono ?_
    rintro e w2 ⟨g1, c1, rfl, ov, b2⟩
    have ac_v : w.heap.size ≤ w1.heap.size := acc1.size
    have lt_t_v := fun k hk => (ot.lt k hk).2
    have acc2 : Below w.heap.size w w2 := acc1.trans (b2.mono acc1.size)
    have t_2 := ot.later b2
    go_wp2_with fail
    refine (toByteS_ex a cap zs w2 (HB.out.later acc2) hl).mono ?_
    rintro e w3 ⟨gx, rfl, ox, b3⟩
    have ac_x : w.heap.size ≤ w2.heap.size := acc2.size
    have lt_t_x := fun k hk => (t_2.lt k hk).2
    have lt_v_x := fun k hk => (ov.lt k hk).2
    have acc3 : Below w.heap.size w w3 := acc2.trans (b3.mono acc2.size)
    have t_3 := t_2.later b3
    have v_3 := ov.later b3
    go_wp2_with fail
    refine (iUnframe_all _ _ zs at' w3 (ox.byt rfl) HO.out (Nat.le_refl _) (by omega) (by omega)).mono ?_
    rintro e w4 ⟨g2, c2, rfl, og, b4⟩
    have ac_g : w.heap.size ≤ w3.heap.size := acc3.size
    have lt_t_g := fun k hk => (t_3.lt k hk).2
    have lt_v_g := fun k hk => (v_3.lt k hk).2
    have lt_x_g := fun k hk => (ox.lt k hk).2
    have acc4 : Below w.heap.size w w4 := acc3.trans (b4.mono acc3.size)
    have t_4 := t_3.later b4
    have v_4 := v_3.later b4
    have x_4 := ox.later b4
    go_wp2_with fail
    refine (eqByteS_any _ _ _ _ (uf zs at').ys (uf zs at').ys w4 (og.bytA) (v_4.bytA) (by omega) (by omega)).mono ?_
    rw [eqL_same]
    rintro e w5 ⟨rfl, b5⟩
    have acc5 : Below w.heap.size w w5 := acc4.trans (b5.mono acc4.size)
    have t_5 := t_4.later b5
    have v_5 := v_4.later b5
    have x_5 := x_4.later b5
    have g_5 := og.later b5
    go_wp2_with fail
    refine (toByteS_ex a cap zs w5 (HB.out.later acc5) hl).mono ?_
    rintro e w6 ⟨gk, rfl, ok, b6⟩
    have ac_k : w.heap.size ≤ w5.heap.size := acc5.size
    have lt_t_k := fun k hk => (t_5.lt k hk).2
    have lt_v_k := fun k hk => (v_5.lt k hk).2
    have lt_x_k := fun k hk => (x_5.lt k hk).2
    have lt_g_k := fun k hk => (g_5.lt k hk).2
    have acc6 : Below w.heap.size w w6 := acc5.trans (b6.mono acc5.size)
    have t_6 := t_5.later b6
    have v_6 := v_5.later b6
    have x_6 := x_5.later b6
    have g_6 := g_5.later b6
    go_wp2_with fail
    refine (eqByteS_any _ _ _ _ zs zs w6 (x_6.bytA) (ok.bytA) (by omega) (by omega)).mono ?_
    rw [eqL_same]
    rintro e w7 ⟨rfl, b7⟩
    have acc7 : Below w.heap.size w w7 := acc6.trans (b7.mono acc6.size)
    have t_7 := t_6.later b7
    have v_7 := v_6.later b7
    have x_7 := x_6.later b7
    have g_7 := g_6.later b7
    have k_7 := ok.later b7
    go_wp2_with fail
    refine (markByteS_any _ _ _ zs 1 w7 x_7 (by omega) (by omega) (by omega)).mono ?_
    rintro e w8 ⟨rfl, omx, g8⟩
    have acc8 : Below w.heap.size w w8 := below_app acc7 (x_7.mono ac_x) acc7.size g8
    have t_8 := t_7.kept g8 (fun k h1 h2 => by have q1 := lt_t_x k h1; have q2 := (x_7.lt k h2).1; omega)
    have v_8 := v_7.kept g8 (fun k h1 h2 => by have q1 := lt_v_x k h1; have q2 := (x_7.lt k h2).1; omega)
    have g_8 := g_7.kept g8 (fun k h1 h2 => by have q1 := lt_x_g k h2; have q2 := (g_7.lt k h1).1; omega)
    have k_8 := k_7.kept g8 (fun k h1 h2 => by have q1 := lt_x_k k h2; have q2 := (k_7.lt k h1).1; omega)
    go_wp2_with fail
    refine (eqByteS_any _ _ _ _ (uf zs at').ys (uf zs at').ys w8 (g_8.bytA) (v_8.bytA) (by omega) (by omega)).mono ?_
    rw [eqL_same]
    rintro e w9 ⟨rfl, b9⟩
    have acc9 : Below w.heap.size w w9 := acc8.trans (b9.mono acc8.size)
    have t_9 := t_8.later b9
    have v_9 := v_8.later b9
    have x_9 := omx.later b9
    have g_9 := g_8.later b9
    have k_9 := k_8.later b9
    go_wp2_with fail
    refine (markByteS_any _ _ _ (uf zs at').ys 1 w9 g_9 (by omega) (by omega) (by omega)).mono ?_
    rintro e w10 ⟨rfl, omg, g10⟩
    have acc10 : Below w.heap.size w w10 := below_app acc9 (g_9.mono ac_g) acc9.size g10
    have t_10 := t_9.kept g10 (fun k h1 h2 => by have q1 := lt_t_g k h1; have q2 := (g_9.lt k h2).1; omega)
    have v_10 := v_9.kept g10 (fun k h1 h2 => by have q1 := lt_v_g k h1; have q2 := (g_9.lt k h2).1; omega)
    have x_10 := x_9.kept g10 (fun k h1 h2 => by have q1 := lt_x_g k h1; have q2 := (g_9.lt k h2).1; omega)
    have k_10 := k_9.kept g10 (fun k h1 h2 => by have q1 := lt_g_k k h2; have q2 := (k_9.lt k h1).1; omega)
    go_wp2_with fail
    refine (heldByteS_any _ _ (uf zs at').ys.length 1 w10 (omg.bytA) (by omega) (by omega) (by omega)).mono ?_
    rintro e w11 ⟨rfl, b11⟩
    have acc11 : Below w.heap.size w w11 := acc10.trans (b11.mono acc10.size)
    have t_11 := t_10.later b11
    have v_11 := v_10.later b11
    have x_11 := x_10.later b11
    have g_11 := omg.later b11
    have k_11 := k_10.later b11
    go_wp2_with fail
    refine (toByteS_ex a cap zs w11 (HB.out.later acc11) hl).mono ?_
    rintro e w12 ⟨gy, rfl, oy, b12⟩
    have ac_y : w.heap.size ≤ w11.heap.size := acc11.size
    have lt_t_y := fun k hk => (t_11.lt k hk).2
    have lt_v_y := fun k hk => (v_11.lt k hk).2
    have lt_x_y := fun k hk => (x_11.lt k hk).2
    have lt_g_y := fun k hk => (g_11.lt k hk).2
    have lt_k_y := fun k hk => (k_11.lt k hk).2
    have acc12 : Below w.heap.size w w12 := acc11.trans (b12.mono acc11.size)
    have t_12 := t_11.later b12
    have v_12 := v_11.later b12
    have x_12 := x_11.later b12
    have g_12 := g_11.later b12
    have k_12 := k_11.later b12
    go_wp2_with fail
    refine (iUnframe_all _ _ zs at' w12 (oy.byt rfl) HO.out (Nat.le_refl _) (by omega) (by omega)).mono ?_
    rintro e w13 ⟨g3, c3, rfl, oh, b13⟩
    have ac_h : w.heap.size ≤ w12.heap.size := acc12.size
    have lt_t_h := fun k hk => (t_12.lt k hk).2
    have lt_v_h := fun k hk => (v_12.lt k hk).2
    have lt_x_h := fun k hk => (x_12.lt k hk).2
    have lt_g_h := fun k hk => (g_12.lt k hk).2
    have lt_k_h := fun k hk => (k_12.lt k hk).2
    have lt_y_h := fun k hk => (oy.lt k hk).2
    have acc13 : Below w.heap.size w w13 := acc12.trans (b13.mono acc12.size)
    have t_13 := t_12.later b13
    have v_13 := v_12.later b13
    have x_13 := x_12.later b13
    have g_13 := g_12.later b13
    have k_13 := k_12.later b13
    have y_13 := oy.later b13
    go_wp2_with fail
    refine (eqByteS_any _ _ _ _ (uf zs at').ys (uf zs at').ys w13 (oh.bytA) (v_13.bytA) (by omega) (by omega)).mono ?_
    rw [eqL_same]
    rintro e w14 ⟨rfl, b14⟩
    have acc14 : Below w.heap.size w w14 := acc13.trans (b14.mono acc13.size)
    have t_14 := t_13.later b14
    have v_14 := v_13.later b14
    have x_14 := x_13.later b14
    have g_14 := g_13.later b14
    have k_14 := k_13.later b14
    have y_14 := y_13.later b14
    have h_14 := oh.later b14
    go_wp2_with fail
    refine (heldByteS_any _ _ (uf zs at').ys.length 1 w14 (g_14.bytA) (by omega) (by omega) (by omega)).mono ?_
    rintro e w15 ⟨rfl, b15⟩
    have acc15 : Below w.heap.size w w15 := acc14.trans (b15.mono acc14.size)
    have t_15 := t_14.later b15
    have v_15 := v_14.later b15
    have x_15 := x_14.later b15
    have g_15 := g_14.later b15
    have k_15 := k_14.later b15
    have y_15 := y_14.later b15
    have h_15 := h_14.later b15
    go_wp2_with fail
    go_ret
    exact ⟨rfl, acc15⟩
  · have d : decide ((1048576 : Int) < (zs.length : Int)) = true := decide_eq_true (by omega)
    go_enter Try.func8, Try.ntmps8
    go_wp2_with fail
    go_ret
    exact ⟨rfl, Below.refl _ _⟩

set_option maxRecDepth 100000 in
theorem unframe_lifted (os : Os) (started : os.Started) (H : Type) (enc : TypeId × Value → H) :
    ReturnsInHanded {} Try.checked os 8 .any (Rows.fnExactUnframeSpec.pre6 enc Try.prog Try.f8 Rows.fnExactUnframeRow.domain false) (Rows.fnExactUnframeSpec.post enc Try.prog Try.f8 false true false false) := by
  refine returnsInHanded_of_change (C := Try.checked) Try.ownC started (by kernel_rfl) Try.func8
    (ChangeSpec.witness6 (enc := enc) (C := Try.checked) false ⟨#[], #[.slice none 0 0, .int .i64 0], []⟩ 8 (by kernel_rfl) (by kernel_rfl) (by kernel_rfl) (by kernel_rfl)) ?_
  intro W base args ds gs before hval0 hW _ _
  have hval : ∀ (j : Nat) t v, Try.f8.params[j]? = some t → args[j]? = some v → Value.okWide Try.prog W .any base t v := hval0
  have hW' := hW
  obtain ⟨p, q, hA0, hV, rfl, _, _⟩ := hW
  have hA : DataW.TrodAll enc Try.prog W 0 (fun _ => true) true Try.f8.params.toList args.toList ds p := hA0
  rw [Try.params8] at hA hval
  obtain ⟨v0, v1, d0, d1, p0, p1, rfl, rfl, rfl, h0, h1⟩ := trodAll_two hA
  obtain ⟨rfl, rfl⟩ := trodVars_none hV
  obtain ⟨a0, len0, cap0, rfl⟩ := okWide_slice Try.underlying22 (hval 0 22 v0 rfl rfl)
  obtain ⟨n1, rfl, rfl, rfl, wn1⟩ := open_int Try.underlying3 (hval 1 3 v1 rfl rfl) h1
  clear hA0 hval0
  simp only [List.append_nil] at hW'
  have hlt : ∀ x ∈ p0, x.block < W.heap.size := fun x hx => by simpa using hW'.lt x hx
  obtain ⟨zs, rfl, ho, hB⟩ := byt_open h0
  refine (lawUnframe a0 cap0 zs n1 W hB ho (wfI wn1)).mono fun e W' ⟨he, hb⟩ => ?_
  subst he
  exact ⟨_, rfl, ⟨_, _, _, [], p0 ++ [], [], hW', trodAll_mk1 (shut_bool Try.underlying4 true), trodAll_mk2 (Below.trod Try.laidOutC (by kernel_rfl) (of_decide_eq_true (by kernel_rfl)) h0 hb hlt) (shut_int Try.underlying3 wn1), rfl, hb.frame _, fun h => by cases h⟩⟩

theorem unframe_holds : Rows.FnExactUnframeSaid :=
  OpenClaim.holds_of_wide 8 Try.f8 rfl rfl rfl rfl rfl rfl rfl ⟨rfl, rfl, rfl, rfl, rfl⟩ rfl rfl rfl rfl rfl (by kernel_rfl) Try.func8 (by kernel_rfl)
    (of_decide_eq_true (by kernel_rfl)) (by unfold Func.isWrapper; rw [if_neg (of_decide_eq_false (by kernel_rfl))]; exact ⟨rfl, rfl⟩)
    (fun os started H enc _ => unframe_lifted os started H enc)


end Go.Proofs.Ytdcbmeiopfdkeab
