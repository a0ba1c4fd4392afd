/-
  For every address the two AddrOk of the program and of the specification answer alike, so the exact law of AddrOk returns true; no condition.
-/
import Derived.Test.YtjmgillonpplcahAOk
import Derived.ProofKit
import Derived.Lib.SmallJoins
namespace Go.Proofs.Ytjmgillonpplcah
open Go.ChangeShapes Go.WideShapes Go.ChangeAt Go.RowKit Go.Joins

set_option maxHeartbeats 400000 in
theorem lawAddrOk (s : Bool) (h l : Int) (w : World) :
    Calls Try.prog 3 #[.agg #[.bool s, .int .i64 h, .int .i64 l]] w fun e w' => e = .returned (.bool true) ∧ Below w.heap.size w w' := by
  go_enter Try.func3, Try.ntmps3
  go_wp2_with fail
  refine (toAddr_any s h l _).mono ?_
  rintro e w1 ⟨rfl, hb1⟩
  go_wp2_with fail
  refine (sAddrOk_any s h l _).mono ?_
  rintro e w2 ⟨rfl, hb2⟩
  have hb : Below (w.heap.size + 1) (w.alloc (.cells #[.bool s, .int .i64 h, .int .i64 l] 23)) w2 := (hb1.trans (hb2.mono hb1.size)).mono (by simp)
  obtain ⟨c0, c1, c2⟩ := box3 hb
  go_wp2_with fail
  refine (toAddr_any s h l _).mono ?_
  rintro e w3 ⟨rfl, hb3⟩
  go_wp2_with fail
  refine (iAddrOk_any s h l _).mono ?_
  rintro e w4 ⟨rfl, hb4⟩
  generalize okB s h l = ok
  go_wp2_with fail
  go_ret
  refine ⟨rfl, ?_⟩
  have h24 : Below w2.heap.size w2 w4 := hb3.trans (hb4.mono hb3.size)
  exact ((Below.refl _ w).alloc (Nat.le_refl _) _).trans ((hb.trans (h24.mono (by have := hb.size; simpa using this))).mono (Nat.le_succ _))

theorem Try.ownAddrOk : ownKnob Try.prog.godebug = none := by kernel_rfl
theorem Try.cellsA : Try.prog.cellsOf 23 = 3 := by kernel_rfl

set_option maxRecDepth 100000 in
theorem addrOk_lifted (os : Os) (started : os.Started) (H : Type) (enc : TypeId × Value → H) :
    ReturnsInHanded {} Try.checked os 3 .any (Rows.fnExactAddrOkSpec.pre6 enc Try.prog Try.f3 Rows.fnExactAddrOkRow.domain false) (Rows.fnExactAddrOkSpec.post enc Try.prog Try.f3 false true false false) := by
  refine returnsInHanded_of_change (C := Try.checked) Try.ownAddrOk started (by kernel_rfl) Try.func3
    (ChangeSpec.witness6 (enc := enc) (C := Try.checked) false ⟨#[], #[.agg #[.bool false, .int .i64 0, .int .i64 0]], []⟩ 8 (by kernel_rfl) (by kernel_rfl) (by kernel_rfl) (by kernel_rfl)) ?_
  intro W base args ds gs before hval0 hW _ _
  have hval : ∀ (j : Nat) t v, Try.f3.params[j]? = some t → args[j]? = some v → Value.okWide Try.prog W .any base t v := hval0
  have hW' := hW
  obtain ⟨p, q, hA0, hV, rfl, _, _⟩ := hW
  have hA : DataW.TrodAll enc Try.prog W 0 (fun _ => true) true Try.f3.params.toList args.toList ds p := hA0
  rw [Try.params3] at hA hval
  obtain ⟨v0, d0, rfl, rfl, h0⟩ := trodAll_one hA
  obtain ⟨rfl, rfl⟩ := trodVars_none hV
  obtain ⟨k0, k1, k2, y0, y1, y2, m, rfl, rfl, rfl, hy0, hy1, hy2⟩ := open_agg3 Try.underlying23 (by kernel_rfl) Try.cellsA (hval 0 23 v0 rfl rfl) h0
  obtain ⟨s, e0, rfl⟩ := DataW.trod_bool Try.underlying4 hy0
  obtain ⟨a, e1, rfl, wa⟩ := DataW.trod_int Try.underlying3 hy1
  obtain ⟨b, e2, rfl, wb⟩ := DataW.trod_int Try.underlying3 hy2
  simp at e0 e1 e2
  subst e0 e1 e2
  clear hA0 hval0
  simp only [List.append_nil] at hW'
  have structReads : ∀ (W' : World) (sp : Nat → Bool), DataW.Trod enc Try.prog W' 0 sp true 23 (.agg #[.bool s, .int .i64 a, .int .i64 b]) (.agg [.lit (.bool s), .lit (.int .i64 a), .lit (.int .i64 b)]) [] := fun W' sp =>
    shut_agg3 (y0 := (.lit (.bool s), [])) (y1 := (.lit (.int .i64 a), [])) (y2 := (.lit (.int .i64 b), [])) Try.underlying23 (by kernel_rfl) Try.cellsA ⟨1, by simp [DataW.trod, Try.underlying4]⟩ ⟨1, by simp [DataW.trod, Try.underlying3, wa]⟩ ⟨1, by simp [DataW.trod, Try.underlying3, wb]⟩
  refine (lawAddrOk s a b W).mono fun e W' ⟨he, hb⟩ => ?_
  subst he
  exact ⟨_, rfl, ⟨_, _, _, [], [], [], hW', trodAll_mk1 (shut_bool Try.underlying4 true), trodAll_mk1 (structReads _ _), rfl, hb.frame _, fun h => by cases h⟩⟩

theorem addrOk_holds : Rows.FnExactAddrOkSaid :=
  OpenClaim.holds_of_wide 3 Try.f3 rfl rfl rfl rfl rfl rfl rfl ⟨rfl, rfl, rfl, rfl, rfl⟩ rfl rfl rfl rfl rfl (by kernel_rfl) Try.func3 (by kernel_rfl)
    (of_decide_eq_true (by kernel_rfl)) (by unfold Func.isWrapper; rw [if_neg (of_decide_eq_false (by kernel_rfl))]; exact ⟨rfl, rfl⟩)
    (fun os started H enc _ => addrOk_lifted os started H enc)

end Go.Proofs.Ytjmgillonpplcah
