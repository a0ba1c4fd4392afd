/-
  For every plan, every pool and every owner the two Carve answer alike, in rows of their own, and leave the plan as it was, so the exact law of Carve returns true; no condition.
-/
import Derived.Test.YtdbcdichmmcnbaaGreatZK53
import Derived.Test.YtdbcdichmmcnbaaGreatZK16
import Derived.Test.YtdbcdichmmcnbaaGreatZK52
import Derived.Test.YtdbcdichmmcnbaaGreatZK41
import Derived.ProofKit
import Derived.Lib.SmallJoins
import Derived.Carry
import Derived.Deep.Slices
import Derived.ChangeMaps5
import Derived.Deep.DeepCutAuto
namespace Go.Proofs.YtdbcdichmmcnbaaGreat
open Go.ChangeShapes Go.WideShapes Go.ChangeAt Go.RowKit Go.Joins Go.Deep

theorem slice_of {H : Type} {enc : TypeId × Value → H} {W : World} {t e : TypeId} {n : Nat} {u : Value} {y : DataW H × List MemPlace} (ht : Tryz.prog.underlying t = some (.slice e)) (h : DataW.trod enc Tryz.prog W 0 (fun _ => true) true n t [u] = some y) : ∃ a l c, u = .slice a l c := by
  rcases open_slice ht h with ⟨hcs, _⟩ | ⟨a', len', cap', m, n', D, Plc, hcs, _⟩
  · simp at hcs; exact ⟨_, _, _, hcs⟩
  · simp at hcs; exact ⟨_, _, _, hcs⟩
theorem Tryz.cellsPn : Tryz.prog.cellsOf 56 = 2 := by kernel_rfl
set_option maxRecDepth 100000 in
/-- A plan that came in. -/
theorem openPlan {H : Type} {enc : TypeId × Value → H} {W : World} {r : Reach} {b0 : Nat} {v : Value} {d : DataW H} {p : List MemPlace} (hv : Value.okWide Tryz.prog W r b0 56 v)
    (h : DataW.Trod enc Tryz.prog W 0 (fun _ => true) true 56 v d p) : ∃ (ap : Option Addr) (np cp : Nat) (ab : Option Addr) (nb cb : Nat) (ps : List Pl) (bs : List Bk), v = .agg #[.slice ap np cp, .slice ab nb cb] ∧ np = ps.length ∧ nb = bs.length ∧ RowG KPl W ap ps ∧ RowG KBk W ab bs ∧ np ≤ 9223372036854775807 ∧ nb ≤ 9223372036854775807 ∧ ∀ q ∈ bs, q.t.size ≤ 9223372036854775807 := by
  obtain ⟨v0, v1, y0, y1, n, rfl, rfl, rfl, t0, t1⟩ := open_agg2 Tryz.underlying56 (by kernel_rfl) Tryz.cellsPn hv h
  obtain ⟨ap, np, cp, rfl⟩ := slice_of Tryz.underlying53 t0
  obtain ⟨ab, nb, cb, rfl⟩ := slice_of Tryz.underlying54 t1
  obtain ⟨ps, e1, l1, r1⟩ := openPl (enc := enc) (W := W) (a := ap) (len := np) (cap := cp) (d := y0.1) (p := y0.2) ⟨n, by simpa [Value.cells] using t0⟩
  obtain ⟨bs, e2, l2, r2, s2⟩ := openBk2 (enc := enc) (W := W) (a := ab) (len := nb) (cap := cb) (d := y1.1) (p := y1.2) ⟨n, by simpa [Value.cells] using t1⟩
  exact ⟨ap, np, cp, ab, nb, cb, ps, bs, rfl, e1.symm, e2.symm, r1, r2, l1, l2, s2⟩

theorem trodAll_nil3 {H : Type} {enc : TypeId × Value → H} {P : Program} {W : World} {base : Nat} {sp : Nat → Bool} {held : Bool} {ts : List TypeId} {vs : List Value} {ds : List (DataW H)} {p : List MemPlace} (h : DataW.TrodAll enc P W base sp held ts vs ds (p ++ ([] ++ []))) : DataW.TrodAll enc P W base sp held ts vs ds p := by
  rw [List.append_nil, List.append_nil] at h; exact h
set_option maxRecDepth 100000 in
theorem carve_lifted (os : Os) (started : os.Started) (H : Type) (enc : TypeId × Value → H) :
    ReturnsInHanded {} Tryz.checked os 5 .any (Rows.fnExactCarveSpec.pre6 enc Tryz.prog Tryz.f5 Rows.fnExactCarveRow.domain false) (Rows.fnExactCarveSpec.post enc Tryz.prog Tryz.f5 false true false false) := by
  refine returnsInHanded_of_change (C := Tryz.checked) Tryz.ownP started (by kernel_rfl) Tryz.func5
    (ChangeSpec.witness6 (enc := enc) (C := Tryz.checked) false ⟨#[], #[.agg #[.slice none 0 0, .slice none 0 0], .agg #[.bool false, .int .i64 0, .int .i64 0, .int .i64 0], .string ⟨#[]⟩], []⟩ 8 (by kernel_rfl) (by kernel_rfl) (by kernel_rfl) (by kernel_rfl)) ?_
  intro W base args ds gs before hval0 hW _ _
  have hval : ∀ (j : Nat) t v, Tryz.f5.params[j]? = some t → args[j]? = some v → Value.okWide Tryz.prog W .any base t v := hval0
  have hW' := hW
  obtain ⟨p, q, hA0, hV, rfl, _, _⟩ := hW
  have hA : DataW.TrodAll enc Tryz.prog W 0 (fun _ => true) true Tryz.f5.params.toList args.toList ds p := hA0
  rw [Tryz.params5] at hA hval
  obtain ⟨v0, v1, v2, d0, d1, d2, p0, p1, p2, rfl, rfl, rfl, h0, h1, h2⟩ := trodAll_three hA
  obtain ⟨rfl, rfl⟩ := trodVars_none hV
  obtain ⟨ap, np, cp, ab, nb, cb, ps, bs, rfl, hnp, hnb, hP, hK, h9, h9', hst⟩ := openPlan (hval 0 56 v0 rfl rfl) h0
  obtain ⟨j00, j01, j02, j03, y00, y01, y02, y03, m0, rfl, rfl, rfl, hy00, hy01, hy02, hy03⟩ := open_pfx Tryz.underlying59 Tryz.underlying57 (by kernel_rfl) rfl (by kernel_rfl) rfl (by kernel_rfl) Tryz.cellsPP (hval 1 59 v1 rfl rfl) h1
  obtain ⟨s0, e00, rfl⟩ := DataW.trod_bool Tryz.underlying4 hy00
  obtain ⟨a0, e01, rfl, wa0⟩ := DataW.trod_int Tryz.underlying3 hy01
  obtain ⟨b0, e02, rfl, wb0⟩ := DataW.trod_int Tryz.underlying3 hy02
  obtain ⟨c0, e03, rfl, wc0⟩ := DataW.trod_int Tryz.underlying3 hy03
  simp at e00 e01 e02 e03
  subst e00 e01 e02 e03
  obtain ⟨ow, rfl, rfl, rfl, ws⟩ := Go.ChangeMaps.open_string Tryz.underlying9 (hval 2 9 v2 rfl rfl) h2
  clear hA0 hval0
  simp only [List.append_nil] at hW'
  have hlt : ∀ x ∈ p0, x.block < W.heap.size := fun x hx => by simpa using hW'.lt x hx
  have reads1 : ∀ (W' : World) (sp : Nat → Bool), DataW.Trod enc Tryz.prog W' 0 sp true 59 (.agg #[.bool s0, .int .i64 a0, .int .i64 b0, .int .i64 c0]) (.agg [.agg [.lit (.bool s0), .lit (.int .i64 a0), .lit (.int .i64 b0)], .lit (.int .i64 c0)]) [] := fun W' sp =>
    shut_pfx (y0 := (.lit (.bool s0), [])) (y1 := (.lit (.int .i64 a0), [])) (y2 := (.lit (.int .i64 b0), [])) (y3 := (.lit (.int .i64 c0), [])) Tryz.underlying59 Tryz.underlying57 (by kernel_rfl) rfl (by kernel_rfl) rfl (by kernel_rfl) Tryz.cellsPP ⟨1, by simp [DataW.trod, Tryz.underlying4]⟩ ⟨1, by simp [DataW.trod, Tryz.underlying3, wa0]⟩ ⟨1, by simp [DataW.trod, Tryz.underlying3, wb0]⟩ ⟨1, by simp [DataW.trod, Tryz.underlying3, wc0]⟩
  have law := lawCarve ⟨s0, BitVec.ofInt 64 a0, BitVec.ofInt 64 b0, c0⟩ ow (by unfold maxLen at ws; omega) ap np cp ab nb cb ps bs W hnp hnb hP hK h9 h9' hst
  change Calls Tryz.prog 5 #[.agg #[.slice ap np cp, .slice ab nb cb], .agg #[.bool s0, .int .i64 (BitVec.ofInt 64 a0).toInt, .int .i64 (BitVec.ofInt 64 b0).toInt, .int .i64 c0], .string ow] W _ at law
  rw [wfP wa0, wfP wb0] at law
  refine law.mono fun e W' ⟨he, hb⟩ => ?_
  subst he
  exact ⟨_, rfl, ⟨_, _, _, [], p0, [], hW', trodAll_mk1 (shut_bool Tryz.underlying4 true), trodAll_nil3 (trodAll_mk3 (Below.trod Tryz.laidOutP (by kernel_rfl) (of_decide_eq_true (by kernel_rfl)) h0 hb hlt) (reads1 _ _) (Go.ChangeMaps.shut_string Tryz.underlying9 ws)), rfl, hb.frame _, fun h => by cases h⟩⟩

theorem carve_holds : Rows.FnExactCarveSaid :=
  OpenClaim.holds_of_wide 5 Tryz.f5 rfl rfl rfl rfl rfl rfl rfl ⟨rfl, rfl, rfl, rfl, rfl⟩ rfl rfl rfl rfl rfl (by kernel_rfl) Tryz.func5 (by kernel_rfl)
    (of_decide_eq_true (by kernel_rfl)) (by unfold Func.isWrapper; rw [if_neg (of_decide_eq_false (by kernel_rfl))]; exact ⟨rfl, rfl⟩)
    (fun os started H enc _ => carve_lifted os started H enc)

end Go.Proofs.YtdbcdichmmcnbaaGreat
