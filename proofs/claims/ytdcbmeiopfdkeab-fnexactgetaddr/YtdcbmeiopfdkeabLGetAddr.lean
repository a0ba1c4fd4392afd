/-
  For every row of bytes and every place the two GetAddr answer alike and leave the bytes as they were, so the exact law of GetAddr returns true; no condition.
-/
import Derived.Test.YtdcbmeiopfdkeabCGetA
import Derived.Test.YtdcbmeiopfdkeabCLift
namespace Go.Proofs.Ytdcbmeiopfdkeab
open Go.ChangeShapes Go.WideShapes Go.ChangeAt Go.RowKit Go.Joins Go.Deep

set_option maxHeartbeats 400000 in
theorem eqAddr_sameC (S : Bool) (H L : Int) (w : World) :
    Calls Try.prog 20 #[.agg #[.bool S, .int .i64 H, .int .i64 L], .agg #[.bool S, .int .i64 H, .int .i64 L]] w fun e w' => e = .returned (.bool true) ∧ Below w.heap.size w w' := by
  go_enter Try.func20, Try.ntmps20
  go_wp2
  go_ret
  exact ⟨rfl, ((Below.refl _ w).alloc (Nat.le_refl _) _).alloc (by simp) _⟩

set_option maxHeartbeats 4000000 in
theorem lawGetAddr (a : Option Addr) (cap : Nat) (zs : List Int) (at' : Int) (w : World) (hB : Byt w a zs) (ho : Oct zs) :
    Calls Try.prog 5 #[.slice a zs.length cap, .int .i64 at'] w fun e w' => e = .returned (.bool true) ∧ Below w.heap.size w w' := by
  have HB := hid' hB
  have HO := hid' ho
  clear hB ho
  by_cases hl : zs.length ≤ 1048576
  · obtain ⟨s, h, l, q, r, hV⟩ := gaV_form zs at'
    have HV := hid' hV
    clear hV
    go_enter Try.func5, Try.ntmps5
    go_wp2_with fail
    refine (toByteS_any a cap zs w HB.out hl).mono ?_
    rintro e w1 ⟨rfl, o1, b1⟩
    have O1 := hid' o1
    have B1 := hid' b1
    clear o1 b1
    go_wp2_with fail
    refine (sGetAddr_all _ _ zs at' w1 (O1.out.byt rfl) HO.out (by omega)).mono ?_
    rw [HV.out]
    rintro e w2 ⟨rfl, b2⟩
    have B2 := hid' (B1.out.trans (b2.mono B1.out.size))
    have B2' := hid' (B2.out.alloc B2.out.size (.cells #[.bool s, .int .i64 h, .int .i64 l] 31))
    clear b2
    go_wp2_with fail
    refine (toByteS_ex a cap zs _ (HB.out.later B2'.out) hl).mono ?_
    rintro e w3 ⟨g3, rfl, o3, b3⟩
    have O3 := hid' o3
    have BX3 : Hid (Below (w2.heap.size + 1) (w2.alloc (.cells #[.bool s, .int .i64 h, .int .i64 l] 31)) w3) := b3.mono (by simp)
    have B3 := hid' (B2'.out.trans (b3.mono B2'.out.size))
    clear o3 b3
    go_wp2_with fail
    refine (iGetAddr_all _ _ zs at' w3 (O3.out.byt rfl) HO.out (Nat.le_refl _) (by omega)).mono ?_
    rw [HV.out]
    rintro e w4 ⟨rfl, b4⟩
    have hz3 : w2.heap.size + 1 ≤ w3.heap.size := by have := BX3.out.size; simpa using this
    have O4 := hid' ((O3.out.later b4).alloc (.cells #[.bool s, .int .i64 h, .int .i64 l] 31))
    have BX4 := hid' (BX3.out.trans (b4.mono hz3))
    have hz4 : w2.heap.size < w4.heap.size := by have := BX4.out.size; simp at this; omega
    have B4 := hid' (B3.out.trans (b4.mono B3.out.size))
    have B4' := hid' (B4.out.alloc B4.out.size (.cells #[.bool s, .int .i64 h, .int .i64 l] 31))
    obtain ⟨c0, c1, c2⟩ := box3 BX4.out
    clear b4
    go_wp2_with fail
    refine (eqAddr_sameC s h l _).mono ?_
    rintro e w5 ⟨rfl, b5⟩
    have O5 := hid' (O4.out.later b5)
    have B5 := hid' (B4'.out.trans (b5.mono B4'.out.size))
    clear b5 c0 c1 c2
    go_wp2_with fail
    refine (toByteS_ex a cap zs _ (HB.out.later B5.out) hl).mono ?_
    rintro e w6 ⟨g6, rfl, o6, b6⟩
    have O6 := hid' (O5.out.later b6)
    have O7 := hid' o6
    have B6 := hid' (B5.out.trans (b6.mono B5.out.size))
    clear o6 b6
    go_wp2_with fail
    refine (eqByteS_any _ _ _ _ zs zs w6 O6.out.bytA O7.out.bytA (by omega) (by omega)).mono ?_
    rw [eqL_same]
    rintro e w7 ⟨rfl, b7⟩
    have B7 := hid' (B6.out.trans (b7.mono B6.out.size))
    clear b7
    go_wp2_with fail
    go_ret
    exact ⟨rfl, B7.out⟩
  · have d : decide ((1048576 : Int) < (zs.length : Int)) = true := decide_eq_true (by omega)
    go_enter Try.func5, Try.ntmps5
    go_wp2_with fail
    go_ret
    exact ⟨rfl, Below.refl _ _⟩

set_option maxRecDepth 100000 in
theorem getAddr_lifted (os : Os) (started : os.Started) (H : Type) (enc : TypeId × Value → H) :
    ReturnsInHanded {} Try.checked os 5 .any (Rows.fnExactGetAddrSpec.pre6 enc Try.prog Try.f5 Rows.fnExactGetAddrRow.domain false) (Rows.fnExactGetAddrSpec.post enc Try.prog Try.f5 false true false false) := by
  refine returnsInHanded_of_change (C := Try.checked) Try.ownC started (by kernel_rfl) Try.func5
    (ChangeSpec.witness6 (enc := enc) (C := Try.checked) false ⟨#[], #[.slice none 0 0, .int .i64 0], []⟩ 8 (by kernel_rfl) (by kernel_rfl) (by kernel_rfl) (by kernel_rfl)) ?_
  intro W base args ds gs before hval0 hW _ _
  have hval : ∀ (j : Nat) t v, Try.f5.params[j]? = some t → args[j]? = some v → Value.okWide Try.prog W .any base t v := hval0
  have hW' := hW
  obtain ⟨p, q, hA0, hV, rfl, _, _⟩ := hW
  have hA : DataW.TrodAll enc Try.prog W 0 (fun _ => true) true Try.f5.params.toList args.toList ds p := hA0
  rw [Try.params5] at hA hval
  obtain ⟨v0, v1, d0, d1, p0, p1, rfl, rfl, rfl, h0, h1⟩ := trodAll_two hA
  obtain ⟨rfl, rfl⟩ := trodVars_none hV
  obtain ⟨a0, len0, cap0, rfl⟩ := okWide_slice Try.underlying22 (hval 0 22 v0 rfl rfl)
  obtain ⟨n1, rfl, rfl, rfl, wn1⟩ := open_int Try.underlying3 (hval 1 3 v1 rfl rfl) h1
  clear hA0 hval0
  simp only [List.append_nil] at hW'
  have hlt : ∀ x ∈ p0, x.block < W.heap.size := fun x hx => by simpa using hW'.lt x hx
  obtain ⟨zs, rfl, ho, hB⟩ := byt_open h0
  refine (lawGetAddr a0 cap0 zs n1 W hB ho).mono fun e W' ⟨he, hb⟩ => ?_
  subst he
  exact ⟨_, rfl, ⟨_, _, _, [], p0 ++ [], [], hW', trodAll_mk1 (shut_bool Try.underlying4 true), trodAll_mk2 (Below.trod Try.laidOutC (by kernel_rfl) (of_decide_eq_true (by kernel_rfl)) h0 hb hlt) (shut_int Try.underlying3 wn1), rfl, hb.frame _, fun h => by cases h⟩⟩

theorem getAddr_holds : Rows.FnExactGetAddrSaid :=
  OpenClaim.holds_of_wide 5 Try.f5 rfl rfl rfl rfl rfl rfl rfl ⟨rfl, rfl, rfl, rfl, rfl⟩ rfl rfl rfl rfl rfl (by kernel_rfl) Try.func5 (by kernel_rfl)
    (of_decide_eq_true (by kernel_rfl)) (by unfold Func.isWrapper; rw [if_neg (of_decide_eq_false (by kernel_rfl))]; exact ⟨rfl, rfl⟩)
    (fun os started H enc _ => getAddr_lifted os started H enc)


end Go.Proofs.Ytdcbmeiopfdkeab
