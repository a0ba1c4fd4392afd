/-
  For every desk, Id and number the two Ask answer alike and leave the desk as it was, so the exact law of Ask returns true; no condition.
-/
import Derived.Test.YtmlijlhlafdkbaaV7Ask
import Derived.ProofKit
import Derived.Lib.SmallJoins
import Derived.Carry
import Derived.Deep.Slices
import Derived.ChangeMaps5
namespace Go.Proofs.Ytmlijlhlafdkbaa
open Go.ChangeShapes Go.WideShapes Go.ChangeAt Go.RowKit Go.Joins Go.Deep

theorem Try.ownB7 : ownKnob Try.prog.godebug = none := by kernel_rfl
theorem Try.laidOutB7 : laidOutB Try.prog = true := by kernel_rfl
theorem slice_of {H : Type} {enc : TypeId × Value → H} {W : World} {t e : TypeId} {n : Nat} {u : Value} {y : DataW H × List MemPlace} (ht : Try.prog.underlying t = some (.slice e)) (h : DataW.trod enc Try.prog W 0 (fun _ => true) true n t [u] = some y) : ∃ a l c, u = .slice a l c := by
  rcases open_slice ht h with ⟨hcs, _⟩ | ⟨a', len', cap', m, n', D, Plc, hcs, _⟩
  · simp at hcs; exact ⟨_, _, _, hcs⟩
  · simp at hcs; exact ⟨_, _, _, hcs⟩
theorem Try.cellsDesk : Try.prog.cellsOf 24 = 2 := by kernel_rfl
set_option maxRecDepth 100000 in
/-- A desk that came in. -/
theorem openDesk {H : Type} {enc : TypeId × Value → H} {W : World} {r : Reach} {b0 : Nat} {v : Value} {d : DataW H} {p : List MemPlace} (hv : Value.okWide Try.prog W r b0 24 v)
    (h : DataW.Trod enc Try.prog W 0 (fun _ => true) true 24 v d p) : ∃ (a : Option Addr) (n c : Nat) (N : Int) (ls : List Ss), v = .agg #[.slice a n c, .int .i64 N] ∧ n = ls.length ∧ RowG KSs W a ls ∧ n ≤ 9223372036854775807 ∧ (∀ q ∈ ls, q.t.size ≤ 9223372036854775807) ∧ (Lit.int .i64 N).wf = true := by
  obtain ⟨v0, v1, y0, y1, n, rfl, rfl, rfl, t0, t1⟩ := open_agg2 Try.underlying24 (by kernel_rfl) Try.cellsDesk hv h
  obtain ⟨a, n', c, rfl⟩ := slice_of Try.underlying22 t0
  obtain ⟨ls, e1, l1, r1, s1⟩ := openSs (enc := enc) (W := W) (a := a) (len := n') (cap := c) (d := y0.1) (p := y0.2) ⟨n, by simpa [Value.cells] using t0⟩
  obtain ⟨N, eN, _, wN⟩ := DataW.trod_int Try.underlying3 t1
  simp at eN
  subst eN
  exact ⟨a, n', c, N, ls, rfl, e1.symm, r1, l1, s1, wN⟩

set_option maxRecDepth 10000 in
set_option maxHeartbeats 4000000 in
theorem lawAsk (a : Option Addr) (n c : Nat) (N : Int) (ls : List Ss) (id s : Int) (w : World) (hn : n = ls.length) (hP : RowG KSs w a ls) (h9 : n ≤ 9223372036854775807) (hst : ∀ q ∈ ls, q.t.size ≤ 9223372036854775807) :
    Calls Try.prog 6 #[.agg #[.slice a n c, .int .i64 N], .int .i64 id, .int .i64 s] w fun e w' => e = .returned (.bool true) ∧ Below w.heap.size w w' := by
  have HSz := hidP (fun W h => szDesk_any a n c N ls W hn (hP.later h) h9 hst)
  by_cases ht : totD ls ≤ 1048576
  · rw [szT_yes ht] at HSz
    have hl : n ≤ 1048576 := by unfold totD at ht; omega
    have HTo := hidP (fun W h => toDesk_any a n c N ls W hn (hP.later h) hl)
    obtain ⟨C, T, hSpec, hImpl⟩ := ask_both n N ls hn hl id s
    have HSp := hidP hSpec
    have HIm := hidP hImpl
    have HEq := hidP (fun W g g' e1 e2 => eqDesk_same (some ⟨g, 0, none⟩) (some ⟨g', 0, none⟩) n n n N ls W hn e1 e2 (by omega))
    have d1 : decide (1048576 - totD ls < 0) = false := decide_eq_false (by omega)
    have d2 : ¬ (1048576 - totD ls < 0) := by omega
    generalize 1048576 - totD ls = z at *
    clear hP hn hst ht hSpec hImpl
    go_enter Try.func6, Try.ntmps6
    go_wp2_with fail
    obtain ⟨ab0_W1, ab1_W1⟩ := box2D w 24 (.slice a n c) (.int .i64 N)
    have abF_W1 : ∀ o, (w.alloc (.cells #[.slice a n c, .int .i64 N] 24)).frozen? ⟨w.heap.size, o, none⟩ = false := fun o => by simp [go_sem]
    have abL_W1 : w.heap.size < (w.alloc (.cells #[.slice a n c, .int .i64 N] 24)).heap.size := by simp
    have ab_W1 := alloc_below w (.cells #[.slice a n c, .int .i64 N] 24)
    have as_W1 : Hid ((w.alloc (.cells #[.slice a n c, .int .i64 N] 24)).heap.size = w.heap.size + 1) := hidP (by simp)
    generalize w.alloc (.cells #[.slice a n c, .int .i64 N] 24) = W1 at *
    have acc_W1 := hidP (ab_W1)
    have sz_W1 : Hid (w.heap.size ≤ W1.heap.size) := hidP ab_W1.size
    clear ab_W1 
    refine (HSz.out _ acc_W1.out).mono ?_
    rintro e w2 ⟨rfl, hb2⟩
    have ab0_w2 := (hb2.cell abL_W1).trans ab0_W1
    have ab1_w2 := (hb2.cell abL_W1).trans ab1_W1
    have abF_w2 : ∀ o, w2.frozen? ⟨w.heap.size, o, none⟩ = false := fun o => (hb2.frozen abL_W1).trans (abF_W1 o)
    have abL_w2 : w.heap.size < w2.heap.size := Nat.lt_of_lt_of_le abL_W1 hb2.size
    have acc_w2 := hidP (acc_W1.out.trans (hb2.mono acc_W1.out.size))
    have sz_w2 : Hid (W1.heap.size ≤ w2.heap.size) := hidP hb2.size
    clear hb2 ab0_W1 ab1_W1 abF_W1 abL_W1 acc_W1
    go_wp2_with fail
    refine (HTo.out _ acc_w2.out).mono ?_
    rintro e w3 ⟨g1, rfl, og1, hb3⟩
    have O1 := hidP og1.row
    clear og1
    have ab0_w3 := (hb3.cell abL_w2).trans ab0_w2
    have ab1_w3 := (hb3.cell abL_w2).trans ab1_w2
    have abF_w3 : ∀ o, w3.frozen? ⟨w.heap.size, o, none⟩ = false := fun o => (hb3.frozen abL_w2).trans (abF_w2 o)
    have abL_w3 : w.heap.size < w3.heap.size := Nat.lt_of_lt_of_le abL_w2 hb3.size
    have acc_w3 := hidP (acc_w2.out.trans (hb3.mono acc_w2.out.size))
    have sz_w3 : Hid (w2.heap.size ≤ w3.heap.size) := hidP hb3.size
    clear hb3 ab0_w2 ab1_w2 abF_w2 abL_w2 acc_w2
    go_wp2_with fail
    refine (HSp.out _ _ _ O1.out).mono ?_
    rintro e w4 ⟨rfl, hb4⟩
    clear O1
    have ab0_w4 := (hb4.cell abL_w3).trans ab0_w3
    have ab1_w4 := (hb4.cell abL_w3).trans ab1_w3
    have abF_w4 : ∀ o, w4.frozen? ⟨w.heap.size, o, none⟩ = false := fun o => (hb4.frozen abL_w3).trans (abF_w3 o)
    have abL_w4 : w.heap.size < w4.heap.size := Nat.lt_of_lt_of_le abL_w3 hb4.size
    have acc_w4 := hidP (acc_w3.out.trans (hb4.mono acc_w3.out.size))
    have sz_w4 : Hid (w3.heap.size ≤ w4.heap.size) := hidP hb4.size
    clear hb4 ab0_w3 ab1_w3 abF_w3 abL_w3 acc_w3
    go_wp2_with fail
    refine (HTo.out _ acc_w4.out).mono ?_
    rintro e w5 ⟨g2, rfl, og2, hb5⟩
    have OX := hidP og2
    clear og2
    have ab0_w5 := (hb5.cell abL_w4).trans ab0_w4
    have ab1_w5 := (hb5.cell abL_w4).trans ab1_w4
    have abF_w5 : ∀ o, w5.frozen? ⟨w.heap.size, o, none⟩ = false := fun o => (hb5.frozen abL_w4).trans (abF_w4 o)
    have abL_w5 : w.heap.size < w5.heap.size := Nat.lt_of_lt_of_le abL_w4 hb5.size
    have acc_w5 := hidP (acc_w4.out.trans (hb5.mono acc_w4.out.size))
    have sz_w5 : Hid (w4.heap.size ≤ w5.heap.size) := hidP hb5.size
    clear hb5 ab0_w4 ab1_w4 abF_w4 abL_w4 acc_w4
    have oX_w5 := hidP (OX.out)
    have lhX : Hid (∀ k, (Value.slice (some ⟨g2, 0, none⟩) n n).ownBlock = some k → w4.heap.size ≤ k ∧ k < w5.heap.size) := hidP (fun k hk => OwnG.lt oX_w5.out k hk)
    clear OX
    go_wp2_with fail
    obtain ⟨xa0_W6, xa1_W6⟩ := box2D w5 29 (.slice (some ⟨g2, 0, none⟩) n n) (.int .i64 N)
    have xaF_W6 : ∀ o, (w5.alloc (.cells #[.slice (some ⟨g2, 0, none⟩) n n, .int .i64 N] 29)).frozen? ⟨w5.heap.size, o, none⟩ = false := fun o => by simp [go_sem]
    have xaL_W6 : w5.heap.size < (w5.alloc (.cells #[.slice (some ⟨g2, 0, none⟩) n n, .int .i64 N] 29)).heap.size := by simp
    have ab_W6 := alloc_below w5 (.cells #[.slice (some ⟨g2, 0, none⟩) n n, .int .i64 N] 29)
    have as_W6 : Hid ((w5.alloc (.cells #[.slice (some ⟨g2, 0, none⟩) n n, .int .i64 N] 29)).heap.size = w5.heap.size + 1) := hidP (by simp)
    generalize w5.alloc (.cells #[.slice (some ⟨g2, 0, none⟩) n n, .int .i64 N] 29) = W6 at *
    have ab0_W6 := (ab_W6.cell abL_w5).trans ab0_w5
    have ab1_W6 := (ab_W6.cell abL_w5).trans ab1_w5
    have abF_W6 : ∀ o, W6.frozen? ⟨w.heap.size, o, none⟩ = false := fun o => (ab_W6.frozen abL_w5).trans (abF_w5 o)
    have abL_W6 : w.heap.size < W6.heap.size := Nat.lt_of_lt_of_le abL_w5 ab_W6.size
    have oX_W6 := hidP (OwnG.later oX_w5.out ab_W6)
    have acc_W6 := hidP (acc_w5.out.trans (ab_W6.mono acc_w5.out.size))
    have sz_W6 : Hid (w5.heap.size ≤ W6.heap.size) := hidP ab_W6.size
    clear ab_W6 ab0_w5 ab1_w5 abF_w5 abL_w5 oX_w5 acc_w5
    refine (HIm.out _ _ _ oX_W6.out.row).mono ?_
    rintro e w7 ⟨rfl, hb7⟩
    have ab0_w7 := (hb7.cell abL_W6).trans ab0_W6
    have ab1_w7 := (hb7.cell abL_W6).trans ab1_W6
    have abF_w7 : ∀ o, w7.frozen? ⟨w.heap.size, o, none⟩ = false := fun o => (hb7.frozen abL_W6).trans (abF_W6 o)
    have abL_w7 : w.heap.size < w7.heap.size := Nat.lt_of_lt_of_le abL_W6 hb7.size
    have xa0_w7 := (hb7.cell xaL_W6).trans xa0_W6
    have xa1_w7 := (hb7.cell xaL_W6).trans xa1_W6
    have xaF_w7 : ∀ o, w7.frozen? ⟨w5.heap.size, o, none⟩ = false := fun o => (hb7.frozen xaL_W6).trans (xaF_W6 o)
    have xaL_w7 : w5.heap.size < w7.heap.size := Nat.lt_of_lt_of_le xaL_W6 hb7.size
    have oX_w7 := hidP (OwnG.later oX_W6.out hb7)
    have acc_w7 := hidP (acc_W6.out.trans (hb7.mono acc_W6.out.size))
    have sz_w7 : Hid (W6.heap.size ≤ w7.heap.size) := hidP hb7.size
    clear hb7 ab0_W6 ab1_W6 abF_W6 abL_W6 xa0_W6 xa1_W6 xaF_W6 xaL_W6 oX_W6 acc_W6
    go_wp2_with fail
    have HSx : Hid (∀ x, Below w7.heap.size w7 x → (x.cell? ⟨w.heap.size, 0, none⟩ = some (.slice a n c) ∧ x.cell? ⟨w.heap.size, 1, none⟩ = some (.int .i64 N) ∧ x.cell? ⟨w5.heap.size, 0, none⟩ = some (.slice (some ⟨g2, 0, none⟩) n n) ∧ x.cell? ⟨w5.heap.size, 1, none⟩ = some (.int .i64 N) ∧ Below w7.heap.size w7 x)) := hidP fun x h =>
      ⟨(h.cell abL_w7).trans ab0_w7, (h.cell abL_w7).trans ab1_w7, (h.cell xaL_w7).trans xa0_w7, (h.cell xaL_w7).trans xa1_w7, h⟩
    refine wp_region_held_drew (S := (fun x => x.cell? ⟨w.heap.size, 0, none⟩ = some (.slice a n c) ∧ x.cell? ⟨w.heap.size, 1, none⟩ = some (.int .i64 N) ∧ x.cell? ⟨w5.heap.size, 0, none⟩ = some (.slice (some ⟨g2, 0, none⟩) n n) ∧ x.cell? ⟨w5.heap.size, 1, none⟩ = some (.int .i64 N) ∧ Below w7.heap.size w7 x)) (by kernel_rfl) ?_ (fun hHeld => ?_)
    · try dsimp only
      exact HSx.out _ ((Below.refl _ _).drew)
    refine wpAnyH_take (i := 0) (oi := ⟨some 43, _, _, _, _, _⟩) (v := ?_) rfl (by kernel_rfl) (by kernel_rfl) (by kernel_rfl) (fun _ _ _ h => h) (Or.inl ⟨by rfl, ?_⟩) (by assumption) ?_
    rotate_left
    · intro w hSw
      try dsimp only at hSw
      go_simp
      try with_reducible rfl
    simp only [Act.put, List.setIfInBounds_toArray, List.set_cons_zero, List.set_cons_succ]
    refine wpAnyH_take (i := 1) (oi := ⟨some 44, _, _, _, _, _⟩) (v := ?_) rfl (by kernel_rfl) (by kernel_rfl) (by kernel_rfl) (fun _ _ _ h => h) (Or.inl ⟨by rfl, ?_⟩) (by assumption) ?_
    rotate_left
    · intro w hSw
      try dsimp only at hSw
      go_simp
      try with_reducible rfl
    simp only [Act.put, List.setIfInBounds_toArray, List.set_cons_zero, List.set_cons_succ]
    refine wpAnyH_ready (rs := [2]) (by kernel_rfl) (by simp) ?_
    refine AllReadyH.cons rfl (fun K hK => ?_) AllReadyH.nil
    go_simp
    go_wp2_with (first | (go_at_call 11; refine (HTo.out _ (acc_w7.out.trans ((hHeld.2.2.2.2).mono acc_w7.out.size))).mono ?_; rintro e w8 ⟨g3, rfl, og3, hb8⟩; have b8 := (hHeld.2.2.2.2).trans (hb8.mono (hHeld.2.2.2.2).size)))
    refine hK.out _ _ ?_ (fun hHeld => ?_)
    · try dsimp only
      exact HSx.out _ b8
    clear hK K
    refine wpAnyH_ready (rs := [3]) (by kernel_rfl) (by simp) ?_
    refine AllReadyH.cons rfl (fun K hK => ?_) AllReadyH.nil
    go_simp
    go_wp2_with (first | (go_at_call 13; refine (HEq.out _ g2 g3 (oX_w7.out.row.later (hHeld.2.2.2.2)) og3.row).mono ?_; rintro e w9 ⟨rfl, hb9⟩; have b9 := (hHeld.2.2.2.2).trans (hb9.mono (hHeld.2.2.2.2).size)))
    refine hK.out _ _ ?_ (fun hHeld => ?_)
    · try dsimp only
      exact HSx.out _ b9
    clear hK K
    refine wpAnyH_take (i := 4) (oi := ⟨some 47, _, _, _, _, _⟩) (v := ?_) rfl (by kernel_rfl) (by kernel_rfl) (by kernel_rfl) (fun _ _ _ h => h) (Or.inl ⟨by rfl, ?_⟩) (by assumption) ?_
    rotate_left
    · intro w hSw
      try dsimp only at hSw
      go_simp
      try with_reducible rfl
    simp only [Act.put, List.setIfInBounds_toArray, List.set_cons_zero, List.set_cons_succ]
    have HE := hidP (hHeld.2.2.2.2)
    refine wpAnyH_done (by kernel_rfl) ?_ _
    clear hHeld
    go_wp2_with fail
    go_ret
    exact ⟨rfl, acc_w7.out.trans (HE.out.mono acc_w7.out.size)⟩
  · rw [szT_no ht] at HSz
    clear hP hn hst ht
    go_enter Try.func6, Try.ntmps6
    go_wp2_with fail
    refine (HSz.out _ (alloc_below w _)).mono ?_
    rintro e w2 ⟨rfl, hb2⟩
    go_wp2_with fail
    go_ret
    exact ⟨rfl, (alloc_below w _).trans (hb2.mono (alloc_below w _).size)⟩

theorem trodAll_nil2 {H : Type} {enc : TypeId × Value → H} {P : Program} {W : World} {base : Nat} {sp : Nat → Bool} {held : Bool} {ts : List TypeId} {vs : List Value} {ds : List (DataW H)} {p : List MemPlace} (h : DataW.TrodAll enc P W base sp held ts vs ds (p ++ ([] ++ []))) : DataW.TrodAll enc P W base sp held ts vs ds p := by
  rw [List.append_nil, List.append_nil] at h; exact h
set_option maxRecDepth 100000 in
theorem ask_lifted (os : Os) (started : os.Started) (H : Type) (enc : TypeId × Value → H) :
    ReturnsInHanded {} Try.checked os 6 .any (Rows.fnExactAskSpec.pre6 enc Try.prog Try.f6 Rows.fnExactAskRow.domain false) (Rows.fnExactAskSpec.post enc Try.prog Try.f6 false true false false) := by
  refine returnsInHanded_of_change (C := Try.checked) Try.ownB7 started (by kernel_rfl) Try.func6
    (ChangeSpec.witness6 (enc := enc) (C := Try.checked) false ⟨#[], #[.agg #[.slice none 0 0, .int .i64 0], .int .i64 0, .int .i64 0], []⟩ 8 (by kernel_rfl) (by kernel_rfl) (by kernel_rfl) (by kernel_rfl)) ?_
  intro W base args ds gs before hval0 hW _ _
  have hval : ∀ (j : Nat) t v, Try.f6.params[j]? = some t → args[j]? = some v → Value.okWide Try.prog W .any base t v := hval0
  have hW' := hW
  obtain ⟨p, q, hA0, hV, rfl, _, _⟩ := hW
  have hA : DataW.TrodAll enc Try.prog W 0 (fun _ => true) true Try.f6.params.toList args.toList ds p := hA0
  rw [Try.params6] at hA hval
  obtain ⟨v0, v1, v2, d0, d1, d2, p0, p1, p2, rfl, rfl, rfl, h0, h1, h2⟩ := trodAll_three hA
  obtain ⟨rfl, rfl⟩ := trodVars_none hV
  obtain ⟨a, n, c, N, ls, rfl, hn, hP, h9, hst, _⟩ := openDesk (hval 0 24 v0 rfl rfl) h0
  obtain ⟨id, rfl, rfl, rfl, wi⟩ := open_int Try.underlying3 (hval 1 3 v1 rfl rfl) h1
  obtain ⟨s, rfl, rfl, rfl, ws⟩ := open_int Try.underlying3 (hval 2 3 v2 rfl rfl) h2
  clear hA0 hval0
  simp only [List.append_nil] at hW'
  have hlt0 : ∀ x ∈ p0, x.block < W.heap.size := fun x hx => by simpa using hW'.lt x hx
  refine (lawAsk a n c N ls id s W hn hP h9 hst).mono fun e W' ⟨he, hb⟩ => ?_
  subst he
  exact ⟨_, rfl, ⟨_, _, _, [], p0, [], hW', trodAll_mk1 (shut_bool Try.underlying4 true), trodAll_nil2 (trodAll_mk3 (Below.trod Try.laidOutB7 (by kernel_rfl) (of_decide_eq_true (by kernel_rfl)) h0 hb hlt0) (shut_int Try.underlying3 wi) (shut_int Try.underlying3 ws)), rfl, hb.frame _, fun h => by cases h⟩⟩

theorem ask_holds : Rows.FnExactAskSaid :=
  OpenClaim.holds_of_wide 6 Try.f6 rfl rfl rfl rfl rfl rfl rfl ⟨rfl, rfl, rfl, rfl, rfl⟩ rfl rfl rfl rfl rfl (by kernel_rfl) Try.func6 (by kernel_rfl)
    (of_decide_eq_true (by kernel_rfl)) (by unfold Func.isWrapper; rw [if_neg (of_decide_eq_false (by kernel_rfl))]; exact ⟨rfl, rfl⟩)
    (fun os started H enc _ => ask_lifted os started H enc)

end Go.Proofs.Ytmlijlhlafdkbaa
