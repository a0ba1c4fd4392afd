/-
  For every plan the two PlanOk answer alike and leave it as it was, so the exact law of PlanOk returns true; no condition.
-/
import Derived.Test.YthbpehpnikknlaaVSPl2
import Derived.Test.YthbpehpnikknlaaVPlanS
import Derived.ProofKit
import Derived.Lib.SmallJoins
import Derived.Carry
import Derived.Deep.Slices
import Derived.ChangeMaps5
namespace Go.Proofs.Ythbpehpnikknlaa
open Go.ChangeShapes Go.WideShapes Go.ChangeAt Go.RowKit Go.Joins Go.Deep

theorem slice_of {H : Type} {enc : TypeId × Value → H} {W : World} {t e : TypeId} {n : Nat} {u : Value} {y : DataW H × List MemPlace} (ht : Try.prog.underlying t = some (.slice e)) (h : DataW.trod enc Try.prog W 0 (fun _ => true) true n t [u] = some y) : ∃ a l c, u = .slice a l c := by
  rcases open_slice ht h with ⟨hcs, _⟩ | ⟨a', len', cap', m, n', D, Plc, hcs, _⟩
  · simp at hcs; exact ⟨_, _, _, hcs⟩
  · simp at hcs; exact ⟨_, _, _, hcs⟩
theorem Try.cellsPn : Try.prog.cellsOf 26 = 2 := by kernel_rfl
set_option maxRecDepth 100000 in
/-- A plan that came in. -/
theorem openPlan {H : Type} {enc : TypeId × Value → H} {W : World} {r : Reach} {b0 : Nat} {v : Value} {d : DataW H} {p : List MemPlace} (hv : Value.okWide Try.prog W r b0 26 v)
    (h : DataW.Trod enc Try.prog W 0 (fun _ => true) true 26 v d p) : ∃ (ap : Option Addr) (np cp : Nat) (ab : Option Addr) (nb cb : Nat) (ps : List Pl) (bs : List Bk), v = .agg #[.slice ap np cp, .slice ab nb cb] ∧ np = ps.length ∧ nb = bs.length ∧ RowG KPl W ap ps ∧ RowG KBk W ab bs ∧ np ≤ 9223372036854775807 ∧ nb ≤ 9223372036854775807 ∧ ∀ q ∈ bs, q.t.size ≤ 9223372036854775807 := by
  obtain ⟨v0, v1, y0, y1, n, rfl, rfl, rfl, t0, t1⟩ := open_agg2 Try.underlying26 (by kernel_rfl) Try.cellsPn hv h
  obtain ⟨ap, np, cp, rfl⟩ := slice_of Try.underlying23 t0
  obtain ⟨ab, nb, cb, rfl⟩ := slice_of Try.underlying24 t1
  obtain ⟨ps, e1, l1, r1⟩ := openPl (enc := enc) (W := W) (a := ap) (len := np) (cap := cp) (d := y0.1) (p := y0.2) ⟨n, by simpa [Value.cells] using t0⟩
  obtain ⟨bs, e2, l2, r2, s2⟩ := openBk2 (enc := enc) (W := W) (a := ab) (len := nb) (cap := cb) (d := y1.1) (p := y1.2) ⟨n, by simpa [Value.cells] using t1⟩
  exact ⟨ap, np, cp, ab, nb, cb, ps, bs, rfl, e1.symm, e2.symm, r1, r2, l1, l2, s2⟩

set_option maxRecDepth 10000 in
set_option maxHeartbeats 4000000 in
theorem lawPlanOk (ap : Option Addr) (np cp : Nat) (ab : Option Addr) (nb cb : Nat) (ps : List Pl) (bs : List Bk) (w : World) (hnp : np = ps.length) (hnb : nb = bs.length) (hP : RowG KPl w ap ps) (hK : RowG KBk w ab bs) (h9 : np ≤ 9223372036854775807) (h9' : nb ≤ 9223372036854775807) (hst : ∀ q ∈ bs, q.t.size ≤ 9223372036854775807) :
    Calls Try.prog 4 #[.agg #[.slice ap np cp, .slice ab nb cb]] w fun e w' => e = .returned (.bool true) ∧ Below w.heap.size w w' := by
  have HSz := hidP (fun W h => szPlan_any ap np cp ab nb cb ps bs W hnp hnb (hK.later h) h9 h9' hst)
  by_cases ht : totP ps bs ≤ 1048576
  · rw [szT_yes ht] at HSz
    have hl : np ≤ 1048576 := by unfold totP at ht; omega
    have hl' : nb ≤ 1048576 := by unfold totP at ht; omega
    have HTo := hidP (fun W h => toPlan_any ap np cp ab nb cb ps bs W hnp hnb (hP.later h) (hK.later h) hl hl')
    have HSp := hidP (fun W g h e1 e2 => sPlanOk_any (some ⟨g, 0, none⟩) np np (some ⟨h, 0, none⟩) nb nb ps bs W hnp hnb e1 e2 (by omega) (by omega) hst)
    have HIm := hidP (fun W g h e1 e2 => iPlanOk_any (some ⟨g, 0, none⟩) np np (some ⟨h, 0, none⟩) nb nb ps bs W hnp hnb e1 e2 (by omega) (by omega) hst)
    have HEq := hidP (fun W g h g' h' e1 e2 e3 e4 => eqPlan_same (some ⟨g, 0, none⟩) (some ⟨g', 0, none⟩) np np np (some ⟨h, 0, none⟩) (some ⟨h', 0, none⟩) nb nb nb ps bs W hnp hnb e1 e2 e3 e4 (by omega) (by omega))
    generalize planB ps bs = r at *
    have d1 : decide (1048576 - totP ps bs < 0) = false := decide_eq_false (by omega)
    have d2 : ¬ (1048576 - totP ps bs < 0) := by omega
    generalize 1048576 - totP ps bs = z at *
    clear hP hK hnp hnb hst ht
    go_enter Try.func4, Try.ntmps4
    go_wp2_with fail
    obtain ⟨u0, u1⟩ := box2 (u := .slice ap np cp) (v := .slice ab nb cb) w 26
    have uB := alloc_below w (.cells #[.slice ap np cp, .slice ab nb cb] 26)
    have uL := alloc_lt w (.cells #[.slice ap np cp, .slice ab nb cb] 26)
    have uS : (w.alloc (.cells #[.slice ap np cp, .slice ab nb cb] 26)).heap.size = w.heap.size + 1 := by simp
    generalize w.alloc (.cells #[.slice ap np cp, .slice ab nb cb] 26) = W1 at *
    have B1 := hidP uB
    clear uB uS
    refine (HSz.out _ B1.out).mono ?_
    rintro e w2 ⟨rfl, hb2⟩
    have z0 := (hb2.cell uL).trans u0
    have z1 := (hb2.cell uL).trans u1
    have zL : w.heap.size < w2.heap.size := Nat.lt_of_lt_of_le uL hb2.size
    have B2 := hidP (B1.out.trans (hb2.mono B1.out.size))
    clear hb2 u0 u1 uL
    go_wp2_with fail
    refine (HTo.out _ B2.out).mono ?_
    rintro e w3 ⟨g1, h1, rfl, og1, oh1, gh1, hb3⟩
    have O1 := hidP (And.intro og1.row oh1.row)
    have y0 := (hb3.cell zL).trans z0
    have y1 := (hb3.cell zL).trans z1
    have yL : w.heap.size < w3.heap.size := Nat.lt_of_lt_of_le zL hb3.size
    have B3 := hidP (B2.out.trans (hb3.mono B2.out.size))
    clear hb3 z0 z1 zL og1 oh1 gh1
    go_wp2_with fail
    refine (HSp.out _ g1 h1 O1.out.1 O1.out.2).mono ?_
    rintro e w4 ⟨rfl, hb4⟩
    have x0 := (hb4.cell yL).trans y0
    have x1 := (hb4.cell yL).trans y1
    have xL : w.heap.size < w4.heap.size := Nat.lt_of_lt_of_le yL hb4.size
    have B4 := hidP (B3.out.trans (hb4.mono B3.out.size))
    clear hb4 y0 y1 yL O1
    go_wp2_with fail
    refine (HTo.out _ B4.out).mono ?_
    rintro e w5 ⟨g2, h2, rfl, og2, oh2, gh2, hb5⟩
    have O2 := hidP (And.intro og2.row oh2.row)
    have z0 := (hb5.cell xL).trans x0
    have z1 := (hb5.cell xL).trans x1
    have zL : w.heap.size < w5.heap.size := Nat.lt_of_lt_of_le xL hb5.size
    have B5 := hidP (B4.out.trans (hb5.mono B4.out.size))
    clear hb5 x0 x1 xL og2 oh2 gh2
    go_wp2_with fail
    obtain ⟨u0, u1⟩ := box2 (u := .slice (some ⟨g2, 0, none⟩) np np) (v := .slice (some ⟨h2, 0, none⟩) nb nb) w5 32
    have uB := alloc_below w5 (.cells #[.slice (some ⟨g2, 0, none⟩) np np, .slice (some ⟨h2, 0, none⟩) nb nb] 32)
    have uL := alloc_lt w5 (.cells #[.slice (some ⟨g2, 0, none⟩) np np, .slice (some ⟨h2, 0, none⟩) nb nb] 32)
    have uS : (w5.alloc (.cells #[.slice (some ⟨g2, 0, none⟩) np np, .slice (some ⟨h2, 0, none⟩) nb nb] 32)).heap.size = w5.heap.size + 1 := by simp
    generalize w5.alloc (.cells #[.slice (some ⟨g2, 0, none⟩) np np, .slice (some ⟨h2, 0, none⟩) nb nb] 32) = W6 at *
    have y0 := (uB.cell zL).trans z0
    have y1 := (uB.cell zL).trans z1
    have yL : w.heap.size < W6.heap.size := Nat.lt_of_lt_of_le zL uB.size
    have O3 := hidP (And.intro (O2.out.1.later uB) (O2.out.2.later uB))
    have B6 := hidP (B5.out.trans (uB.mono B5.out.size))
    clear uB z0 z1 zL O2
    refine (HIm.out _ g2 h2 O3.out.1 O3.out.2).mono ?_
    rintro e w7 ⟨rfl, hb7⟩
    have x0 := (hb7.cell yL).trans y0
    have x1 := (hb7.cell yL).trans y1
    have xL : w.heap.size < w7.heap.size := Nat.lt_of_lt_of_le yL hb7.size
    have v0 := (hb7.cell uL).trans u0
    have v1 := (hb7.cell uL).trans u1
    have vL : w5.heap.size < w7.heap.size := Nat.lt_of_lt_of_le uL hb7.size
    have O4 := hidP (And.intro (O3.out.1.later hb7) (O3.out.2.later hb7))
    have B7 := hidP (B6.out.trans (hb7.mono B6.out.size))
    clear hb7 y0 y1 yL u0 u1 uL O3
    go_wp2_with fail
    have HSx : Hid (∀ x, Below w7.heap.size w7 x → (x.cell? ⟨w.heap.size, 0, none⟩ = some (.slice ap np cp) ∧ x.cell? ⟨w.heap.size, 1, none⟩ = some (.slice ab nb cb) ∧ x.cell? ⟨w5.heap.size, 0, none⟩ = some (.slice (some ⟨g2, 0, none⟩) np np) ∧ x.cell? ⟨w5.heap.size, 1, none⟩ = some (.slice (some ⟨h2, 0, none⟩) nb nb) ∧ Below w7.heap.size w7 x)) := hidP fun x h =>
      ⟨(h.cell xL).trans x0, (h.cell xL).trans x1, (h.cell vL).trans v0, (h.cell vL).trans v1, h⟩
    refine wp_region_held_drew (S := (fun x => x.cell? ⟨w.heap.size, 0, none⟩ = some (.slice ap np cp) ∧ x.cell? ⟨w.heap.size, 1, none⟩ = some (.slice ab nb cb) ∧ x.cell? ⟨w5.heap.size, 0, none⟩ = some (.slice (some ⟨g2, 0, none⟩) np np) ∧ x.cell? ⟨w5.heap.size, 1, none⟩ = some (.slice (some ⟨h2, 0, none⟩) nb nb) ∧ Below w7.heap.size w7 x)) (by kernel_rfl) ?_ (fun hHeld => ?_)
    · try dsimp only
      exact HSx.out _ (Below.refl _ _).drew
    refine wpAnyH_take (i := 0) (oi := ⟨some 22, _, _, _, _, _⟩) (v := ?_) rfl (by kernel_rfl) (by kernel_rfl) (by kernel_rfl) (fun _ _ _ h => h) (Or.inl ⟨by rfl, ?_⟩) (by assumption) ?_
    rotate_left
    · intro w hSw
      try dsimp only at hSw
      go_simp
      try with_reducible rfl
    simp only [Act.put, List.setIfInBounds_toArray, List.set_cons_zero, List.set_cons_succ]
    refine wpAnyH_take (i := 1) (oi := ⟨some 23, _, _, _, _, _⟩) (v := ?_) rfl (by kernel_rfl) (by kernel_rfl) (by kernel_rfl) (fun _ _ _ h => h) (Or.inl ⟨by rfl, ?_⟩) (by assumption) ?_
    rotate_left
    · intro w hSw
      try dsimp only at hSw
      go_simp
      try with_reducible rfl
    simp only [Act.put, List.setIfInBounds_toArray, List.set_cons_zero, List.set_cons_succ]
    refine wpAnyH_ready (rs := [2]) (by kernel_rfl) (by simp) ?_
    refine AllReadyH.cons rfl (fun K hK => ?_) AllReadyH.nil
    go_simp
    go_wp2_with (first | (go_at_call 13; refine (HTo.out _ (B7.out.trans ((hHeld.2.2.2.2).mono B7.out.size))).mono ?_; rintro e w8 ⟨g3, h3, rfl, og3, oh3, gh3, hb8⟩; have b8 := (hHeld.2.2.2.2).trans (hb8.mono (hHeld.2.2.2.2).size)))
    refine hK.out _ _ ?_ (fun hHeld => ?_)
    · try dsimp only
      exact HSx.out _ b8
    clear hK K
    refine wpAnyH_ready (rs := [3]) (by kernel_rfl) (by simp) ?_
    refine AllReadyH.cons rfl (fun K hK => ?_) AllReadyH.nil
    go_simp
    go_wp2_with (first | (go_at_call 15; refine (HEq.out _ g2 h2 g3 h3 (O4.out.1.later (hHeld.2.2.2.2)) og3.row (O4.out.2.later (hHeld.2.2.2.2)) oh3.row).mono ?_; rintro e w9 ⟨rfl, hb9⟩; have b9 := (hHeld.2.2.2.2).trans (hb9.mono (hHeld.2.2.2.2).size)))
    refine hK.out _ _ ?_ (fun hHeld => ?_)
    · try dsimp only
      exact HSx.out _ b9
    clear hK K
    refine wpAnyH_take (i := 4) (oi := ⟨some 26, _, _, _, _, _⟩) (v := ?_) rfl (by kernel_rfl) (by kernel_rfl) (by kernel_rfl) (fun _ _ _ h => h) (Or.inl ⟨by rfl, ?_⟩) (by assumption) ?_
    rotate_left
    · intro w hSw
      try dsimp only at hSw
      go_simp
      try with_reducible rfl
    simp only [Act.put, List.setIfInBounds_toArray, List.set_cons_zero, List.set_cons_succ]
    have HE := hidP (hHeld.2.2.2.2)
    refine wpAnyH_done (by kernel_rfl) ?_ _
    clear hHeld
    go_wp2_with fail
    go_ret
    exact ⟨rfl, B7.out.trans (HE.out.mono B7.out.size)⟩
  · rw [szT_no ht] at HSz
    clear hP hK hnp hnb hst ht
    go_enter Try.func4, Try.ntmps4
    go_wp2_with fail
    refine (HSz.out _ (alloc_below w _)).mono ?_
    rintro e w2 ⟨rfl, hb2⟩
    go_wp2_with fail
    go_ret
    exact ⟨rfl, (alloc_below w _).trans (hb2.mono (alloc_below w _).size)⟩

set_option maxRecDepth 100000 in
theorem planOk_lifted (os : Os) (started : os.Started) (H : Type) (enc : TypeId × Value → H) :
    ReturnsInHanded {} Try.checked os 4 .any (Rows.fnExactPlanOkSpec.pre6 enc Try.prog Try.f4 Rows.fnExactPlanOkRow.domain false) (Rows.fnExactPlanOkSpec.post enc Try.prog Try.f4 false true false false) := by
  refine returnsInHanded_of_change (C := Try.checked) Try.ownP started (by kernel_rfl) Try.func4
    (ChangeSpec.witness6 (enc := enc) (C := Try.checked) false ⟨#[], #[.agg #[.slice none 0 0, .slice none 0 0]], []⟩ 8 (by kernel_rfl) (by kernel_rfl) (by kernel_rfl) (by kernel_rfl)) ?_
  intro W base args ds gs before hval0 hW _ _
  have hval : ∀ (j : Nat) t v, Try.f4.params[j]? = some t → args[j]? = some v → Value.okWide Try.prog W .any base t v := hval0
  have hW' := hW
  obtain ⟨p, q, hA0, hV, rfl, _, _⟩ := hW
  have hA : DataW.TrodAll enc Try.prog W 0 (fun _ => true) true Try.f4.params.toList args.toList ds p := hA0
  rw [Try.params4] at hA hval
  obtain ⟨v0, d0, rfl, rfl, h0⟩ := trodAll_one hA
  obtain ⟨rfl, rfl⟩ := trodVars_none hV
  obtain ⟨ap, np, cp, ab, nb, cb, ps, bs, rfl, hnp, hnb, hP, hK, h9, h9', hst⟩ := openPlan (hval 0 26 v0 rfl rfl) h0
  clear hA0 hval0
  simp only [List.append_nil] at hW'
  have hlt : ∀ x ∈ p, x.block < W.heap.size := fun x hx => by simpa using hW'.lt x hx
  refine (lawPlanOk ap np cp ab nb cb ps bs W hnp hnb hP hK h9 h9' hst).mono fun e W' ⟨he, hb⟩ => ?_
  subst he
  exact ⟨_, rfl, ⟨_, _, _, [], p, [], hW', trodAll_mk1 (shut_bool Try.underlying4 true), trodAll_mk1 (Below.trod Try.laidOutP (by kernel_rfl) (of_decide_eq_true (by kernel_rfl)) h0 hb hlt), rfl, hb.frame _, fun h => by cases h⟩⟩

theorem planOk_holds : Rows.FnExactPlanOkSaid :=
  OpenClaim.holds_of_wide 4 Try.f4 rfl rfl rfl rfl rfl rfl rfl ⟨rfl, rfl, rfl, rfl, rfl⟩ rfl rfl rfl rfl rfl (by kernel_rfl) Try.func4 (by kernel_rfl)
    (of_decide_eq_true (by kernel_rfl)) (by unfold Func.isWrapper; rw [if_neg (of_decide_eq_false (by kernel_rfl))]; exact ⟨rfl, rfl⟩)
    (fun os started H enc _ => planOk_lifted os started H enc)


end Go.Proofs.Ythbpehpnikknlaa
