/-
  For every number and every row of Ids the two ClusterNew answer alike, in memory of their own, and leave the row as it was, so the exact law of ClusterNew returns true; no condition.
-/
import Derived.Test.YtmfbmnpfgbenmaaZW48
import Derived.Test.YtmfbmnpfgbenmaaZW49
import Derived.Deep.DeepHandedRow
namespace Go.Proofs.Ytmfbmnpfgbenmaa
open Go.ChangeShapes Go.WideShapes Go.ChangeAt Go.RowKit Go.Joins Go.Deep

theorem Try.ownE : ownKnob Try.prog.godebug = none := by kernel_rfl
theorem Try.laidOutE : laidOutB Try.prog = true := by kernel_rfl
set_option maxRecDepth 100000 in
set_option maxHeartbeats 4000000 in
theorem clusternew_lifted (os : Os) (started : os.Started) (H : Type) (enc : TypeId × Value → H) :
    ReturnsInHanded {} Try.checked os 3 .any (Rows.fnExactClusterNewSpec.pre6 enc Try.prog Try.f3 Rows.fnExactClusterNewRow.domain false) (Rows.fnExactClusterNewSpec.post enc Try.prog Try.f3 false true false false) := by
  refine returnsInHanded_of_change (C := Try.checked) Try.ownE started (by kernel_rfl) Try.func3
    (ChangeSpec.witness6 (enc := enc) (C := Try.checked) false ⟨#[], #[.int .i64 0, .slice none 0 0], []⟩ 8 (by kernel_rfl) (by kernel_rfl) (by kernel_rfl) (by kernel_rfl)) ?_
  intro W base args ds gs before hval0 hW _ _
  have hval : ∀ (j : Nat) t v, Try.f3.params[j]? = some t → args[j]? = some v → Value.okWide Try.prog W .any base t v := hval0
  have hW' := hW
  obtain ⟨p, q, hA0, hV, rfl, _, _⟩ := hW
  have hA : DataW.TrodAll enc Try.prog W 0 (fun _ => true) true Try.f3.params.toList args.toList ds p := hA0
  rw [Try.params3] at hA hval
  obtain ⟨v0, v1, d0, d1, p0, p1, rfl, rfl, rfl, h0, h1⟩ := trodAll_two hA
  obtain ⟨rfl, rfl⟩ := trodVars_none hV
  obtain ⟨x, rfl, rfl, rfl, wu⟩ := open_int Try.underlying3 (hval 0 3 v0 rfl rfl) h0
  obtain ⟨a0, len, cap, rfl⟩ := okWide_slice Try.underlying22 (hval 1 22 v1 rfl rfl)
  obtain ⟨fuel, hf⟩ := h1
  obtain ⟨y, hy⟩ := op_row (T := cInt) Try.underlying22 (by kernel_rfl) (by decide) (op_int Try.underlying3) H enc W fuel [.slice a0 len cap] _ hf
  obtain ⟨b0, c0, he, hR, _⟩ := row_int hy
  simp only [List.cons.injEq, Value.slice.injEq, and_true] at he
  obtain ⟨rfl, hm, rfl⟩ := he
  have h1 : DataW.Trod enc Try.prog W 0 (fun _ => true) true 22 (.slice a0 len cap) d1 p1 := ⟨fuel, hf⟩
  clear hA0 hval0
  simp only [List.append_nil, List.nil_append] at hW'
  have hlt0 : ∀ x ∈ p1, x.block < W.heap.size := fun x hx => by simpa using hW'.lt x hx
  have hlaw := lawClusterNew x a0 len cap y W hm hR
  refine hlaw.mono fun e W' ⟨he, hb⟩ => ?_
  subst he
  exact ⟨_, rfl, ⟨_, _, _, [], p1, [], hW', trodAll_mk1 (shut_bool Try.underlying4 true), trodAll_mk2 (p := []) (shut_int Try.underlying3 wu) (Below.trod Try.laidOutE (by kernel_rfl) (of_decide_eq_true (by kernel_rfl)) h1 hb hlt0), rfl, hb.frame _, fun h => by cases h⟩⟩

theorem clusternew_holds : Rows.FnExactClusterNewSaid :=
  OpenClaim.holds_of_wide 3 Try.f3 rfl rfl rfl rfl rfl rfl rfl ⟨rfl, rfl, rfl, rfl, rfl⟩ rfl rfl rfl rfl rfl (by kernel_rfl) Try.func3 (by kernel_rfl)
    (of_decide_eq_true (by kernel_rfl)) (by unfold Func.isWrapper; rw [if_neg (of_decide_eq_false (by kernel_rfl))]; exact ⟨rfl, rfl⟩)
    (fun os started H enc _ => clusternew_lifted os started H enc)

end Go.Proofs.Ytmfbmnpfgbenmaa
