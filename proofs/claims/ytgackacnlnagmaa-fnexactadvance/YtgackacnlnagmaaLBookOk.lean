/-
  For every book the two BookOk answer alike and leave it as it was, so the exact law of BookOk returns true; no condition.
-/
import Derived.Test.YtgackacnlnagmaaV6Tok
import Derived.Test.YtgackacnlnagmaaV6SBk
import Derived.ProofKit
import Derived.Lib.SmallJoins
import Derived.Carry
import Derived.Deep.Slices
import Derived.ChangeMaps5
namespace Go.Proofs.Ytgackacnlnagmaa
open Go.ChangeShapes Go.WideShapes Go.ChangeAt Go.RowKit Go.Joins Go.Deep

theorem Try.ownB6 : ownKnob Try.prog.godebug = none := by kernel_rfl
theorem Try.laidOutB6 : laidOutB Try.prog = true := by kernel_rfl
theorem slice_of {H : Type} {enc : TypeId × Value → H} {W : World} {t e : TypeId} {n : Nat} {u : Value} {y : DataW H × List MemPlace} (ht : Try.prog.underlying t = some (.slice e)) (h : DataW.trod enc Try.prog W 0 (fun _ => true) true n t [u] = some y) : ∃ a l c, u = .slice a l c := by
  rcases open_slice ht h with ⟨hcs, _⟩ | ⟨a', len', cap', m, n', D, Plc, hcs, _⟩
  · simp at hcs; exact ⟨_, _, _, hcs⟩
  · simp at hcs; exact ⟨_, _, _, hcs⟩
theorem Try.cellsBook : Try.prog.cellsOf 24 = 3 := by kernel_rfl
set_option maxRecDepth 100000 in
/-- A book that came in. -/
theorem openBook {H : Type} {enc : TypeId × Value → H} {W : World} {r : Reach} {b0 : Nat} {v : Value} {d : DataW H} {p : List MemPlace} (hv : Value.okWide Try.prog W r b0 24 v)
    (h : DataW.Trod enc Try.prog W 0 (fun _ => true) true 24 v d p) : ∃ (a : Option Addr) (n c : Nat) (T N : Int) (ls : List Ls), v = .agg #[.slice a n c, .int .i64 T, .int .i64 N] ∧ n = ls.length ∧ RowG KLs W a ls ∧ n ≤ 9223372036854775807 ∧ (∀ q ∈ ls, q.t.size ≤ 9223372036854775807) ∧ (Lit.int .i64 T).wf = true ∧ (Lit.int .i64 N).wf = true := by
  obtain ⟨v0, v1, v2, y0, y1, y2, n, rfl, rfl, rfl, t0, t1, t2⟩ := open_agg3 Try.underlying24 (by kernel_rfl) Try.cellsBook hv h
  obtain ⟨a, n', c, rfl⟩ := slice_of Try.underlying22 t0
  obtain ⟨ls, e1, l1, r1, s1⟩ := openLs (enc := enc) (W := W) (a := a) (len := n') (cap := c) (d := y0.1) (p := y0.2) ⟨n, by simpa [Value.cells] using t0⟩
  obtain ⟨T, eT, _, wT⟩ := DataW.trod_int Try.underlying3 t1
  obtain ⟨N, eN, _, wN⟩ := DataW.trod_int Try.underlying3 t2
  simp at eT eN
  subst eT eN
  exact ⟨a, n', c, T, N, ls, rfl, e1.symm, r1, l1, s1, wT, wN⟩

set_option maxRecDepth 10000 in
set_option maxHeartbeats 4000000 in
theorem lawBookOk (a : Option Addr) (n c : Nat) (T N : Int) (ls : List Ls) (w : World) (hn : n = ls.length) (hP : RowG KLs w a ls) (h9 : n ≤ 9223372036854775807) (hst : ∀ q ∈ ls, q.t.size ≤ 9223372036854775807) :
    Calls Try.prog 3 #[.agg #[.slice a n c, .int .i64 T, .int .i64 N]] w fun e w' => e = .returned (.bool true) ∧ Below w.heap.size w w' := by
  have HSz := hidP (fun W h => szBook_any a n c T N ls W hn (hP.later h) h9 hst)
  by_cases ht : totB ls ≤ 1048576
  · rw [szT_yes ht] at HSz
    have hl : n ≤ 1048576 := by unfold totB at ht; omega
    have HTo := hidP (fun W h => toBook_any a n c T N ls W hn (hP.later h) hl)
    have HSp := hidP (fun W g e1 => sBookOk_any (some ⟨g, 0, none⟩) n n T N ls W hn e1 hl hst)
    have HIm := hidP (fun W g e1 => iBookOk_any (some ⟨g, 0, none⟩) n n T N ls W hn e1 hl hst)
    have HEq := hidP (fun W g g' e1 e2 => eqBook_same (some ⟨g, 0, none⟩) (some ⟨g', 0, none⟩) n n n T N ls W hn e1 e2 (by omega))
    generalize bkB ls T N = r at *
    have d1 : decide (1048576 - totB ls < 0) = false := decide_eq_false (by omega)
    have d2 : ¬ (1048576 - totB ls < 0) := by omega
    generalize 1048576 - totB ls = z at *
    clear hP hn hst ht
    go_enter Try.func3, Try.ntmps3
    go_wp2_with fail
    obtain ⟨u0, u1, u2⟩ := box3B w 24 (.slice a n c) (.int .i64 T) (.int .i64 N)
    have uB := alloc_below w (.cells #[.slice a n c, .int .i64 T, .int .i64 N] 24)
    have uL := alloc_lt w (.cells #[.slice a n c, .int .i64 T, .int .i64 N] 24)
    have uS : (w.alloc (.cells #[.slice a n c, .int .i64 T, .int .i64 N] 24)).heap.size = w.heap.size + 1 := by simp
    generalize w.alloc (.cells #[.slice a n c, .int .i64 T, .int .i64 N] 24) = W1 at *
    have B1 := hidP uB
    clear uB uS
    refine (HSz.out _ B1.out).mono ?_
    rintro e w2 ⟨rfl, hb2⟩
    have z0 := (hb2.cell uL).trans u0
    have z1 := (hb2.cell uL).trans u1
    have z2 := (hb2.cell uL).trans u2
    have zL : w.heap.size < w2.heap.size := Nat.lt_of_lt_of_le uL hb2.size
    have B2 := hidP (B1.out.trans (hb2.mono B1.out.size))
    clear hb2 u0 u1 u2 uL
    go_wp2_with fail
    refine (HTo.out _ B2.out).mono ?_
    rintro e w3 ⟨g1, rfl, og1, hb3⟩
    have O1 := hidP og1.row
    have y0 := (hb3.cell zL).trans z0
    have y1 := (hb3.cell zL).trans z1
    have y2 := (hb3.cell zL).trans z2
    have yL : w.heap.size < w3.heap.size := Nat.lt_of_lt_of_le zL hb3.size
    have B3 := hidP (B2.out.trans (hb3.mono B2.out.size))
    clear hb3 z0 z1 z2 zL og1
    go_wp2_with fail
    refine (HSp.out _ g1 O1.out).mono ?_
    rintro e w4 ⟨rfl, hb4⟩
    have x0 := (hb4.cell yL).trans y0
    have x1 := (hb4.cell yL).trans y1
    have x2 := (hb4.cell yL).trans y2
    have xL : w.heap.size < w4.heap.size := Nat.lt_of_lt_of_le yL hb4.size
    have B4 := hidP (B3.out.trans (hb4.mono B3.out.size))
    clear hb4 y0 y1 y2 yL O1
    go_wp2_with fail
    refine (HTo.out _ B4.out).mono ?_
    rintro e w5 ⟨g2, rfl, og2, hb5⟩
    have O2 := hidP og2.row
    have z0 := (hb5.cell xL).trans x0
    have z1 := (hb5.cell xL).trans x1
    have z2 := (hb5.cell xL).trans x2
    have zL : w.heap.size < w5.heap.size := Nat.lt_of_lt_of_le xL hb5.size
    have B5 := hidP (B4.out.trans (hb5.mono B4.out.size))
    clear hb5 x0 x1 x2 xL og2
    go_wp2_with fail
    obtain ⟨u0, u1, u2⟩ := box3B w5 29 (.slice (some ⟨g2, 0, none⟩) n n) (.int .i64 T) (.int .i64 N)
    have uB := alloc_below w5 (.cells #[.slice (some ⟨g2, 0, none⟩) n n, .int .i64 T, .int .i64 N] 29)
    have uL := alloc_lt w5 (.cells #[.slice (some ⟨g2, 0, none⟩) n n, .int .i64 T, .int .i64 N] 29)
    have uS : (w5.alloc (.cells #[.slice (some ⟨g2, 0, none⟩) n n, .int .i64 T, .int .i64 N] 29)).heap.size = w5.heap.size + 1 := by simp
    generalize w5.alloc (.cells #[.slice (some ⟨g2, 0, none⟩) n n, .int .i64 T, .int .i64 N] 29) = W6 at *
    have y0 := (uB.cell zL).trans z0
    have y1 := (uB.cell zL).trans z1
    have y2 := (uB.cell zL).trans z2
    have yL : w.heap.size < W6.heap.size := Nat.lt_of_lt_of_le zL uB.size
    have O3 := hidP (O2.out.later uB)
    have B6 := hidP (B5.out.trans (uB.mono B5.out.size))
    clear uB z0 z1 z2 zL O2
    refine (HIm.out _ g2 O3.out).mono ?_
    rintro e w7 ⟨rfl, hb7⟩
    have x0 := (hb7.cell yL).trans y0
    have x1 := (hb7.cell yL).trans y1
    have x2 := (hb7.cell yL).trans y2
    have xL : w.heap.size < w7.heap.size := Nat.lt_of_lt_of_le yL hb7.size
    have v0 := (hb7.cell uL).trans u0
    have v1 := (hb7.cell uL).trans u1
    have v2 := (hb7.cell uL).trans u2
    have vL : w5.heap.size < w7.heap.size := Nat.lt_of_lt_of_le uL hb7.size
    have O4 := hidP (O3.out.later hb7)
    have B7 := hidP (B6.out.trans (hb7.mono B6.out.size))
    clear hb7 y0 y1 y2 yL u0 u1 u2 uL O3
    go_wp2_with fail
    have HSx : Hid (∀ x, Below w7.heap.size w7 x → (x.cell? ⟨w.heap.size, 0, none⟩ = some (.slice a n c) ∧ x.cell? ⟨w.heap.size, 1, none⟩ = some (.int .i64 T) ∧ x.cell? ⟨w.heap.size, 2, none⟩ = some (.int .i64 N) ∧ x.cell? ⟨w5.heap.size, 0, none⟩ = some (.slice (some ⟨g2, 0, none⟩) n n) ∧ x.cell? ⟨w5.heap.size, 1, none⟩ = some (.int .i64 T) ∧ x.cell? ⟨w5.heap.size, 2, none⟩ = some (.int .i64 N) ∧ Below w7.heap.size w7 x)) := hidP fun x h =>
      ⟨(h.cell xL).trans x0, (h.cell xL).trans x1, (h.cell xL).trans x2, (h.cell vL).trans v0, (h.cell vL).trans v1, (h.cell vL).trans v2, h⟩
    refine wp_region_held_drew (S := (fun x => x.cell? ⟨w.heap.size, 0, none⟩ = some (.slice a n c) ∧ x.cell? ⟨w.heap.size, 1, none⟩ = some (.int .i64 T) ∧ x.cell? ⟨w.heap.size, 2, none⟩ = some (.int .i64 N) ∧ x.cell? ⟨w5.heap.size, 0, none⟩ = some (.slice (some ⟨g2, 0, none⟩) n n) ∧ x.cell? ⟨w5.heap.size, 1, none⟩ = some (.int .i64 T) ∧ x.cell? ⟨w5.heap.size, 2, none⟩ = some (.int .i64 N) ∧ Below w7.heap.size w7 x)) (by kernel_rfl) ?_ (fun hHeld => ?_)
    · try dsimp only
      exact HSx.out _ ((Below.refl _ _).drew)
    refine wpAnyH_take (i := 0) (oi := ⟨some 22, _, _, _, _, _⟩) (v := ?_) rfl (by kernel_rfl) (by kernel_rfl) (by kernel_rfl) (fun _ _ _ h => h) (Or.inl ⟨by rfl, ?_⟩) (by assumption) ?_
    rotate_left
    · intro w hSw
      try dsimp only at hSw
      go_simp
      try with_reducible rfl
    simp only [Act.put, List.setIfInBounds_toArray, List.set_cons_zero, List.set_cons_succ]
    refine wpAnyH_take (i := 1) (oi := ⟨some 23, _, _, _, _, _⟩) (v := ?_) rfl (by kernel_rfl) (by kernel_rfl) (by kernel_rfl) (fun _ _ _ h => h) (Or.inl ⟨by rfl, ?_⟩) (by assumption) ?_
    rotate_left
    · intro w hSw
      try dsimp only at hSw
      go_simp
      try with_reducible rfl
    simp only [Act.put, List.setIfInBounds_toArray, List.set_cons_zero, List.set_cons_succ]
    refine wpAnyH_ready (rs := [2]) (by kernel_rfl) (by simp) ?_
    refine AllReadyH.cons rfl (fun K hK => ?_) AllReadyH.nil
    go_simp
    go_wp2_with (first | (go_at_call 7; refine (HTo.out _ (B7.out.trans ((hHeld.2.2.2.2.2.2).mono B7.out.size))).mono ?_; rintro e w8 ⟨g3, rfl, og3, hb8⟩; have b8 := (hHeld.2.2.2.2.2.2).trans (hb8.mono (hHeld.2.2.2.2.2.2).size)))
    refine hK.out _ _ ?_ (fun hHeld => ?_)
    · try dsimp only
      exact HSx.out _ b8
    clear hK K
    refine wpAnyH_ready (rs := [3]) (by kernel_rfl) (by simp) ?_
    refine AllReadyH.cons rfl (fun K hK => ?_) AllReadyH.nil
    go_simp
    go_wp2_with (first | (go_at_call 9; refine (HEq.out _ g2 g3 (O4.out.later (hHeld.2.2.2.2.2.2)) og3.row).mono ?_; rintro e w9 ⟨rfl, hb9⟩; have b9 := (hHeld.2.2.2.2.2.2).trans (hb9.mono (hHeld.2.2.2.2.2.2).size)))
    refine hK.out _ _ ?_ (fun hHeld => ?_)
    · try dsimp only
      exact HSx.out _ b9
    clear hK K
    refine wpAnyH_take (i := 4) (oi := ⟨some 26, _, _, _, _, _⟩) (v := ?_) rfl (by kernel_rfl) (by kernel_rfl) (by kernel_rfl) (fun _ _ _ h => h) (Or.inl ⟨by rfl, ?_⟩) (by assumption) ?_
    rotate_left
    · intro w hSw
      try dsimp only at hSw
      go_simp
      try with_reducible rfl
    simp only [Act.put, List.setIfInBounds_toArray, List.set_cons_zero, List.set_cons_succ]
    have HE := hidP (hHeld.2.2.2.2.2.2)
    refine wpAnyH_done (by kernel_rfl) ?_ _
    clear hHeld
    go_wp2_with fail
    go_ret
    exact ⟨rfl, B7.out.trans (HE.out.mono B7.out.size)⟩
  · rw [szT_no ht] at HSz
    clear hP hn hst ht
    go_enter Try.func3, Try.ntmps3
    go_wp2_with fail
    refine (HSz.out _ (alloc_below w _)).mono ?_
    rintro e w2 ⟨rfl, hb2⟩
    go_wp2_with fail
    go_ret
    exact ⟨rfl, (alloc_below w _).trans (hb2.mono (alloc_below w _).size)⟩

set_option maxRecDepth 100000 in
theorem bookOk_lifted (os : Os) (started : os.Started) (H : Type) (enc : TypeId × Value → H) :
    ReturnsInHanded {} Try.checked os 3 .any (Rows.fnExactBookOkSpec.pre6 enc Try.prog Try.f3 Rows.fnExactBookOkRow.domain false) (Rows.fnExactBookOkSpec.post enc Try.prog Try.f3 false true false false) := by
  refine returnsInHanded_of_change (C := Try.checked) Try.ownB6 started (by kernel_rfl) Try.func3
    (ChangeSpec.witness6 (enc := enc) (C := Try.checked) false ⟨#[], #[.agg #[.slice none 0 0, .int .i64 0, .int .i64 0]], []⟩ 8 (by kernel_rfl) (by kernel_rfl) (by kernel_rfl) (by kernel_rfl)) ?_
  intro W base args ds gs before hval0 hW _ _
  have hval : ∀ (j : Nat) t v, Try.f3.params[j]? = some t → args[j]? = some v → Value.okWide Try.prog W .any base t v := hval0
  have hW' := hW
  obtain ⟨p, q, hA0, hV, rfl, _, _⟩ := hW
  have hA : DataW.TrodAll enc Try.prog W 0 (fun _ => true) true Try.f3.params.toList args.toList ds p := hA0
  rw [Try.params3] at hA hval
  obtain ⟨v0, d0, rfl, rfl, h0⟩ := trodAll_one hA
  obtain ⟨rfl, rfl⟩ := trodVars_none hV
  obtain ⟨a, n, c, T, N, ls, rfl, hn, hP, h9, hst, _, _⟩ := openBook (hval 0 24 v0 rfl rfl) h0
  clear hA0 hval0
  simp only [List.append_nil] at hW'
  have hlt : ∀ x ∈ p, x.block < W.heap.size := fun x hx => by simpa using hW'.lt x hx
  refine (lawBookOk a n c T N ls W hn hP h9 hst).mono fun e W' ⟨he, hb⟩ => ?_
  subst he
  exact ⟨_, rfl, ⟨_, _, _, [], p, [], hW', trodAll_mk1 (shut_bool Try.underlying4 true), trodAll_mk1 (Below.trod Try.laidOutB6 (by kernel_rfl) (of_decide_eq_true (by kernel_rfl)) h0 hb hlt), rfl, hb.frame _, fun h => by cases h⟩⟩

theorem bookOk_holds : Rows.FnExactBookOkSaid :=
  OpenClaim.holds_of_wide 3 Try.f3 rfl rfl rfl rfl rfl rfl rfl ⟨rfl, rfl, rfl, rfl, rfl⟩ rfl rfl rfl rfl rfl (by kernel_rfl) Try.func3 (by kernel_rfl)
    (of_decide_eq_true (by kernel_rfl)) (by unfold Func.isWrapper; rw [if_neg (of_decide_eq_false (by kernel_rfl))]; exact ⟨rfl, rfl⟩)
    (fun os started H enc _ => bookOk_lifted os started H enc)

end Go.Proofs.Ytgackacnlnagmaa
