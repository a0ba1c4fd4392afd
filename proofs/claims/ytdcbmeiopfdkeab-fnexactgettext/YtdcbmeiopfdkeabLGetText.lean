/-
  For every row of bytes and every place the two GetText answer alike and leave the bytes as they were, so the exact law of GetText returns true; no condition.
-/
import Derived.Test.YtdcbmeiopfdkeabCGetT
import Derived.Test.YtdcbmeiopfdkeabCLift
namespace Go.Proofs.Ytdcbmeiopfdkeab
open Go.ChangeShapes Go.WideShapes Go.ChangeAt Go.RowKit Go.Joins Go.Deep

theorem wfI {x : Int} (h : (Lit.int .i64 x).wf = true) : -9223372036854775808 ≤ x ∧ x ≤ 9223372036854775807 := by
  simpa [Lit.wf, IntKind.min, IntKind.max, IntKind.signed, IntKind.bits] using h

set_option maxHeartbeats 4000000 in
theorem lawGetText (a : Option Addr) (cap : Nat) (zs : List Int) (at' : Int) (w : World) (hB : Byt w a zs) (ho : Oct zs) (hat : -9223372036854775808 ≤ at' ∧ at' ≤ 9223372036854775807) :
    Calls Try.prog 3 #[.slice a zs.length cap, .int .i64 at'] w fun e w' => e = .returned (.bool true) ∧ Below w.heap.size w w' := by
  have HB := hid' hB
  have HO := hid' ho
  clear hB ho
  by_cases hl : zs.length ≤ 1048576
  · obtain ⟨p, q, r, hV⟩ := gtV_form zs at'
    have HV := hid' hV
    clear hV
    go_enter Try.func3, Try.ntmps3
    go_wp2_with fail
    refine (toByteS_any a cap zs w HB.out hl).mono ?_
    rintro e w1 ⟨rfl, o1, b1⟩
    have O1 := hid' o1
    have B1 := hid' b1
    clear o1 b1
    go_wp2_with fail
    refine (sGetText_all _ _ zs at' w1 (O1.out.byt rfl) HO.out (Nat.le_refl _) (by omega) hat.2).mono ?_
    rw [HV.out]
    rintro e w2 ⟨rfl, b2⟩
    have B2 := hid' (B1.out.trans (b2.mono B1.out.size))
    clear b2
    go_wp2_with fail
    refine (toByteS_any a cap zs w2 (HB.out.later B2.out) hl).mono ?_
    rintro e w3 ⟨rfl, o3, b3⟩
    have O3 := hid' o3
    have B3 := hid' (B2.out.trans (b3.mono B2.out.size))
    clear o3 b3
    go_wp2_with fail
    refine (iGetText_all _ _ zs at' w3 (O3.out.byt rfl) HO.out (Nat.le_refl _) (by omega)).mono ?_
    rw [HV.out]
    rintro e w4 ⟨rfl, b4⟩
    have O4 := hid' (O3.out.later b4)
    have B4 := hid' (B3.out.trans (b4.mono B3.out.size))
    clear b4
    go_wp2_with fail
    refine (toByteS_any a cap zs _ (HB.out.later B4.out) hl).mono ?_
    rintro e w5 ⟨rfl, o5, b5⟩
    have O5 := hid' (O4.out.later b5)
    have O6 := hid' o5
    have B5 := hid' (B4.out.trans (b5.mono B4.out.size))
    clear o5 b5
    go_wp2_with fail
    refine (eqByteS_any _ _ _ _ zs zs w5 O5.out.bytA O6.out.bytA (by omega) (by omega)).mono ?_
    rw [eqL_same]
    rintro e w6 ⟨rfl, b6⟩
    have B6 := hid' (B5.out.trans (b6.mono B5.out.size))
    clear b6
    go_wp2_with fail
    go_ret
    exact ⟨rfl, B6.out⟩
  · have d : decide ((1048576 : Int) < (zs.length : Int)) = true := decide_eq_true (by omega)
    go_enter Try.func3, Try.ntmps3
    go_wp2_with fail
    go_ret
    exact ⟨rfl, Below.refl _ _⟩

set_option maxRecDepth 100000 in
theorem getText_lifted (os : Os) (started : os.Started) (H : Type) (enc : TypeId × Value → H) :
    ReturnsInHanded {} Try.checked os 3 .any (Rows.fnExactGetTextSpec.pre6 enc Try.prog Try.f3 Rows.fnExactGetTextRow.domain false) (Rows.fnExactGetTextSpec.post enc Try.prog Try.f3 false true false false) := by
  refine returnsInHanded_of_change (C := Try.checked) Try.ownC started (by kernel_rfl) Try.func3
    (ChangeSpec.witness6 (enc := enc) (C := Try.checked) false ⟨#[], #[.slice none 0 0, .int .i64 0], []⟩ 8 (by kernel_rfl) (by kernel_rfl) (by kernel_rfl) (by kernel_rfl)) ?_
  intro W base args ds gs before hval0 hW _ _
  have hval : ∀ (j : Nat) t v, Try.f3.params[j]? = some t → args[j]? = some v → Value.okWide Try.prog W .any base t v := hval0
  have hW' := hW
  obtain ⟨p, q, hA0, hV, rfl, _, _⟩ := hW
  have hA : DataW.TrodAll enc Try.prog W 0 (fun _ => true) true Try.f3.params.toList args.toList ds p := hA0
  rw [Try.params3] at hA hval
  obtain ⟨v0, v1, d0, d1, p0, p1, rfl, rfl, rfl, h0, h1⟩ := trodAll_two hA
  obtain ⟨rfl, rfl⟩ := trodVars_none hV
  obtain ⟨a0, len0, cap0, rfl⟩ := okWide_slice Try.underlying22 (hval 0 22 v0 rfl rfl)
  obtain ⟨n1, rfl, rfl, rfl, wn1⟩ := open_int Try.underlying3 (hval 1 3 v1 rfl rfl) h1
  clear hA0 hval0
  simp only [List.append_nil] at hW'
  have hlt : ∀ x ∈ p0, x.block < W.heap.size := fun x hx => by simpa using hW'.lt x hx
  obtain ⟨zs, rfl, ho, hB⟩ := byt_open h0
  refine (lawGetText a0 cap0 zs n1 W hB ho (wfI wn1)).mono fun e W' ⟨he, hb⟩ => ?_
  subst he
  exact ⟨_, rfl, ⟨_, _, _, [], p0 ++ [], [], hW', trodAll_mk1 (shut_bool Try.underlying4 true), trodAll_mk2 (Below.trod Try.laidOutC (by kernel_rfl) (of_decide_eq_true (by kernel_rfl)) h0 hb hlt) (shut_int Try.underlying3 wn1), rfl, hb.frame _, fun h => by cases h⟩⟩

theorem getText_holds : Rows.FnExactGetTextSaid :=
  OpenClaim.holds_of_wide 3 Try.f3 rfl rfl rfl rfl rfl rfl rfl ⟨rfl, rfl, rfl, rfl, rfl⟩ rfl rfl rfl rfl rfl (by kernel_rfl) Try.func3 (by kernel_rfl)
    (of_decide_eq_true (by kernel_rfl)) (by unfold Func.isWrapper; rw [if_neg (of_decide_eq_false (by kernel_rfl))]; exact ⟨rfl, rfl⟩)
    (fun os started H enc _ => getText_lifted os started H enc)


end Go.Proofs.Ytdcbmeiopfdkeab
