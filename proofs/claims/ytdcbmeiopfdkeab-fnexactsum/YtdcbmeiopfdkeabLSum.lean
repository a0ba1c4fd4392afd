/-
  For every row of bytes the two Sums answer alike and leave it as it was, so the exact law of Sum returns true; no condition.
-/
import Derived.Test.YtdcbmeiopfdkeabCSum
import Derived.Test.YtdcbmeiopfdkeabCLift
namespace Go.Proofs.Ytdcbmeiopfdkeab
open Go.ChangeShapes Go.WideShapes Go.ChangeAt Go.RowKit Go.Joins Go.Deep

set_option maxHeartbeats 1000000 in
theorem lawSum (a : Option Addr) (cap : Nat) (zs : List Int) (w : World) (hB : Byt w a zs) (ho : Oct zs) :
    Calls Try.prog 6 #[.slice a zs.length cap] w fun e w' => e = .returned (.bool true) ∧ Below w.heap.size w w' := by
  have HB : Hid (Byt w a zs) := hB
  have HO : Hid (Oct zs) := ho
  clear hB ho
  by_cases hl : zs.length ≤ 1048576
  · go_enter Try.func6, Try.ntmps6
    go_wp2_with fail
    refine (toByteS_any a cap zs w HB.out hl).mono ?_
    rintro e w1 ⟨rfl, o1, b1⟩
    go_wp2_with fail
    refine (sSum_any _ _ zs w1 (o1.byt rfl) HO.out (by omega)).mono ?_
    rintro e w2 ⟨rfl, rfl⟩
    go_wp2_with fail
    refine (toByteS_any a cap zs w1 (HB.out.later b1) hl).mono ?_
    rintro e w3 ⟨rfl, o3, b3⟩
    go_wp2_with fail
    refine (iSum_any _ _ zs w3 (o3.byt rfl) HO.out (by omega)).mono ?_
    rintro e w4 ⟨rfl, rfl⟩
    have b13 : Below w.heap.size w w3 := b1.trans (b3.mono b1.size)
    generalize crc zs = c
    go_wp2_with fail
    refine (toByteS_any a cap zs w3 (HB.out.later b13) hl).mono ?_
    rintro e w5 ⟨rfl, o5, b5⟩
    have b15 : Below w.heap.size w w5 := b13.trans (b5.mono b13.size)
    go_wp2_with fail
    refine (eqByteS_any _ _ _ _ zs zs w5 ((o3.byt rfl).later b5) (o5.byt rfl) (by omega) (by omega)).mono ?_
    rw [eqL_same]
    rintro e w6 ⟨rfl, b6⟩
    go_wp2_with fail
    go_ret
    exact ⟨rfl, b15.trans (b6.mono b15.size)⟩
  · have d : decide ((1048576 : Int) < (zs.length : Int)) = true := decide_eq_true (by omega)
    go_enter Try.func6, Try.ntmps6
    go_wp2_with fail
    go_ret
    exact ⟨rfl, Below.refl _ _⟩

set_option maxRecDepth 100000 in
theorem sum_lifted (os : Os) (started : os.Started) (H : Type) (enc : TypeId × Value → H) :
    ReturnsInHanded {} Try.checked os 6 .any (Rows.fnExactSumSpec.pre6 enc Try.prog Try.f6 Rows.fnExactSumRow.domain false) (Rows.fnExactSumSpec.post enc Try.prog Try.f6 false true false false) := by
  refine returnsInHanded_of_change (C := Try.checked) Try.ownC started (by kernel_rfl) Try.func6
    (ChangeSpec.witness6 (enc := enc) (C := Try.checked) false ⟨#[], #[.slice none 0 0], []⟩ 8 (by kernel_rfl) (by kernel_rfl) (by kernel_rfl) (by kernel_rfl)) ?_
  intro W base args ds gs before hval0 hW _ _
  have hval : ∀ (j : Nat) t v, Try.f6.params[j]? = some t → args[j]? = some v → Value.okWide Try.prog W .any base t v := hval0
  have hW' := hW
  obtain ⟨p, q, hA0, hV, rfl, _, _⟩ := hW
  have hA : DataW.TrodAll enc Try.prog W 0 (fun _ => true) true Try.f6.params.toList args.toList ds p := hA0
  rw [Try.params6] at hA hval
  obtain ⟨v0, d0, rfl, rfl, h0⟩ := trodAll_one hA
  obtain ⟨rfl, rfl⟩ := trodVars_none hV
  obtain ⟨a0, len, cap, rfl⟩ := okWide_slice Try.underlying22 (hval 0 22 v0 rfl rfl)
  clear hA0 hval0
  simp only [List.append_nil] at hW'
  have hlt : ∀ x ∈ p, x.block < W.heap.size := fun x hx => by simpa using hW'.lt x hx
  obtain ⟨zs, rfl, ho, hB⟩ := byt_open h0
  refine (lawSum a0 cap zs W hB ho).mono fun e W' ⟨he, hb⟩ => ?_
  subst he
  exact ⟨_, rfl, ⟨_, _, _, [], p, [], hW', trodAll_mk1 (shut_bool Try.underlying4 true), trodAll_mk1 (Below.trod Try.laidOutC (by kernel_rfl) (of_decide_eq_true (by kernel_rfl)) h0 hb hlt), rfl, hb.frame _, fun h => by cases h⟩⟩

theorem sum_holds : Rows.FnExactSumSaid :=
  OpenClaim.holds_of_wide 6 Try.f6 rfl rfl rfl rfl rfl rfl rfl ⟨rfl, rfl, rfl, rfl, rfl⟩ rfl rfl rfl rfl rfl (by kernel_rfl) Try.func6 (by kernel_rfl)
    (of_decide_eq_true (by kernel_rfl)) (by unfold Func.isWrapper; rw [if_neg (of_decide_eq_false (by kernel_rfl))]; exact ⟨rfl, rfl⟩)
    (fun os started H enc _ => sum_lifted os started H enc)

end Go.Proofs.Ytdcbmeiopfdkeab
