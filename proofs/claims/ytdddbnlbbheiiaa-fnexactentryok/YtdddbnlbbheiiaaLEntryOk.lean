/-
  For every entry the two EntryOk answer alike and leave it as it was, so the exact law of EntryOk returns true; no condition.
-/
import Derived.Test.YtdddbnlbbheiiaaV13E
import Derived.ProofKit
import Derived.Lib.SmallJoins
import Derived.Carry
import Derived.Deep.Slices
import Derived.ChangeMaps5
namespace Go.Proofs.Ytdddbnlbbheiiaa
open Go.ChangeShapes Go.WideShapes Go.ChangeAt Go.RowKit Go.Joins Go.Deep

set_option maxRecDepth 10000 in
set_option maxHeartbeats 4000000 in
theorem lawEntryOk (a : Option Addr) (n c : Nat) (T N : Int) (zs : List Int) (w : World) (hn : n = zs.length) (ho : Oct zs) (hP : RowG KBy w a zs) (h9 : n ≤ 9223372036854775807) :
    Calls Try.prog 4 #[.agg #[.int .i64 T, .int .i64 N, .slice a n c]] w fun e w' => e = .returned (.bool true) ∧ Below w.heap.size w w' := by
  have HSz := hidP (fun W => szEntry_any a n c T N W h9)
  by_cases ht : (n : Int) ≤ 1048576
  · rw [szT_yes ht] at HSz
    have hl : n ≤ 1048576 := by omega
    have HTo := hidP (fun W h => toEntry_any a n c T N zs W hn (hP.later h) hl)
    obtain ⟨r, hs, hi⟩ := entry_both T N n zs hn ho
    have HSp := hidP hs
    have HIm := hidP hi
    have HEq := hidP (fun W g g' e1 e2 => eqEntry_same (some ⟨g, 0, none⟩) (some ⟨g', 0, none⟩) n n n T N zs W hn e1 e2 (by omega))
    clear hs hi ho
    have d1 : decide (1048576 - (n : Int) < 0) = false := decide_eq_false (by omega)
    have d2 : ¬ (1048576 - (n : Int) < 0) := by omega
    generalize 1048576 - (n : Int) = z at *
    clear hP hn ht
    go_enter Try.func4, Try.ntmps4
    go_wp2_with fail
    obtain ⟨ab0_W1, ab1_W1, ab2_W1⟩ := box3E w 40 (.int .i64 T) (.int .i64 N) (.slice a n c)
    have abF_W1 : ∀ o, (w.alloc (.cells #[.int .i64 T, .int .i64 N, .slice a n c] 40)).frozen? ⟨w.heap.size, o, none⟩ = false := fun o => by simp [go_sem]
    have abL_W1 : w.heap.size < (w.alloc (.cells #[.int .i64 T, .int .i64 N, .slice a n c] 40)).heap.size := by simp
    have ab_W1 := alloc_below w (.cells #[.int .i64 T, .int .i64 N, .slice a n c] 40)
    have as_W1 : Hid ((w.alloc (.cells #[.int .i64 T, .int .i64 N, .slice a n c] 40)).heap.size = w.heap.size + 1) := hidP (by simp)
    generalize w.alloc (.cells #[.int .i64 T, .int .i64 N, .slice a n c] 40) = W1 at *
    have acc_W1 := hidP (ab_W1)
    have sz_W1 : Hid (w.heap.size ≤ W1.heap.size) := hidP ab_W1.size
    clear ab_W1 
    refine (HSz.out _).mono ?_
    rintro e w2 ⟨rfl, hb2⟩
    have ab0_w2 := (hb2.cell abL_W1).trans ab0_W1
    have ab1_w2 := (hb2.cell abL_W1).trans ab1_W1
    have ab2_w2 := (hb2.cell abL_W1).trans ab2_W1
    have abF_w2 : ∀ o, w2.frozen? ⟨w.heap.size, o, none⟩ = false := fun o => (hb2.frozen abL_W1).trans (abF_W1 o)
    have abL_w2 : w.heap.size < w2.heap.size := Nat.lt_of_lt_of_le abL_W1 hb2.size
    have acc_w2 := hidP (acc_W1.out.trans (hb2.mono acc_W1.out.size))
    have sz_w2 : Hid (W1.heap.size ≤ w2.heap.size) := hidP hb2.size
    clear hb2 ab0_W1 ab1_W1 ab2_W1 abF_W1 abL_W1 acc_W1
    go_wp2_with fail
    refine (HTo.out _ acc_w2.out).mono ?_
    rintro e w3 ⟨g1, rfl, og1, hb3⟩
    have OY := hidP og1.row
    clear og1
    have ab0_w3 := (hb3.cell abL_w2).trans ab0_w2
    have ab1_w3 := (hb3.cell abL_w2).trans ab1_w2
    have ab2_w3 := (hb3.cell abL_w2).trans ab2_w2
    have abF_w3 : ∀ o, w3.frozen? ⟨w.heap.size, o, none⟩ = false := fun o => (hb3.frozen abL_w2).trans (abF_w2 o)
    have abL_w3 : w.heap.size < w3.heap.size := Nat.lt_of_lt_of_le abL_w2 hb3.size
    have acc_w3 := hidP (acc_w2.out.trans (hb3.mono acc_w2.out.size))
    have sz_w3 : Hid (w2.heap.size ≤ w3.heap.size) := hidP hb3.size
    clear hb3 ab0_w2 ab1_w2 ab2_w2 abF_w2 abL_w2 acc_w2
    go_wp2_with fail
    refine (HSp.out g1 _ OY.out).mono ?_
    rintro e w4 ⟨rfl, hb4⟩
    clear OY
    have ab0_w4 := (hb4.cell abL_w3).trans ab0_w3
    have ab1_w4 := (hb4.cell abL_w3).trans ab1_w3
    have ab2_w4 := (hb4.cell abL_w3).trans ab2_w3
    have abF_w4 : ∀ o, w4.frozen? ⟨w.heap.size, o, none⟩ = false := fun o => (hb4.frozen abL_w3).trans (abF_w3 o)
    have abL_w4 : w.heap.size < w4.heap.size := Nat.lt_of_lt_of_le abL_w3 hb4.size
    have acc_w4 := hidP (acc_w3.out.trans (hb4.mono acc_w3.out.size))
    have sz_w4 : Hid (w3.heap.size ≤ w4.heap.size) := hidP hb4.size
    clear hb4 ab0_w3 ab1_w3 ab2_w3 abF_w3 abL_w3 acc_w3
    go_wp2_with fail
    refine (HTo.out _ acc_w4.out).mono ?_
    rintro e w5 ⟨g2, rfl, og2, hb5⟩
    have OX := hidP og2
    clear og2
    have ab0_w5 := (hb5.cell abL_w4).trans ab0_w4
    have ab1_w5 := (hb5.cell abL_w4).trans ab1_w4
    have ab2_w5 := (hb5.cell abL_w4).trans ab2_w4
    have abF_w5 : ∀ o, w5.frozen? ⟨w.heap.size, o, none⟩ = false := fun o => (hb5.frozen abL_w4).trans (abF_w4 o)
    have abL_w5 : w.heap.size < w5.heap.size := Nat.lt_of_lt_of_le abL_w4 hb5.size
    have acc_w5 := hidP (acc_w4.out.trans (hb5.mono acc_w4.out.size))
    have sz_w5 : Hid (w4.heap.size ≤ w5.heap.size) := hidP hb5.size
    clear hb5 ab0_w4 ab1_w4 ab2_w4 abF_w4 abL_w4 acc_w4
    have oX_w5 := hidP (OX.out)
    have lhX : Hid (∀ k, (Value.slice (some ⟨g2, 0, none⟩) n n).ownBlock = some k → w4.heap.size ≤ k ∧ k < w5.heap.size) := hidP (fun k hk => OwnG.lt oX_w5.out k hk)
    clear OX
    go_wp2_with fail
    obtain ⟨xa0_W6, xa1_W6, xa2_W6⟩ := box3E w5 43 (.int .i64 T) (.int .i64 N) (.slice (some ⟨g2, 0, none⟩) n n)
    have xaF_W6 : ∀ o, (w5.alloc (.cells #[.int .i64 T, .int .i64 N, .slice (some ⟨g2, 0, none⟩) n n] 43)).frozen? ⟨w5.heap.size, o, none⟩ = false := fun o => by simp [go_sem]
    have xaL_W6 : w5.heap.size < (w5.alloc (.cells #[.int .i64 T, .int .i64 N, .slice (some ⟨g2, 0, none⟩) n n] 43)).heap.size := by simp
    have ab_W6 := alloc_below w5 (.cells #[.int .i64 T, .int .i64 N, .slice (some ⟨g2, 0, none⟩) n n] 43)
    have as_W6 : Hid ((w5.alloc (.cells #[.int .i64 T, .int .i64 N, .slice (some ⟨g2, 0, none⟩) n n] 43)).heap.size = w5.heap.size + 1) := hidP (by simp)
    generalize w5.alloc (.cells #[.int .i64 T, .int .i64 N, .slice (some ⟨g2, 0, none⟩) n n] 43) = W6 at *
    have ab0_W6 := (ab_W6.cell abL_w5).trans ab0_w5
    have ab1_W6 := (ab_W6.cell abL_w5).trans ab1_w5
    have ab2_W6 := (ab_W6.cell abL_w5).trans ab2_w5
    have abF_W6 : ∀ o, W6.frozen? ⟨w.heap.size, o, none⟩ = false := fun o => (ab_W6.frozen abL_w5).trans (abF_w5 o)
    have abL_W6 : w.heap.size < W6.heap.size := Nat.lt_of_lt_of_le abL_w5 ab_W6.size
    have oX_W6 := hidP (OwnG.later oX_w5.out ab_W6)
    have acc_W6 := hidP (acc_w5.out.trans (ab_W6.mono acc_w5.out.size))
    have sz_W6 : Hid (w5.heap.size ≤ W6.heap.size) := hidP ab_W6.size
    clear ab_W6 ab0_w5 ab1_w5 ab2_w5 abF_w5 abL_w5 oX_w5 acc_w5
    refine (HIm.out g2 _ oX_W6.out.row).mono ?_
    rintro e w7 ⟨rfl, hb7⟩
    have ab0_w7 := (hb7.cell abL_W6).trans ab0_W6
    have ab1_w7 := (hb7.cell abL_W6).trans ab1_W6
    have ab2_w7 := (hb7.cell abL_W6).trans ab2_W6
    have abF_w7 : ∀ o, w7.frozen? ⟨w.heap.size, o, none⟩ = false := fun o => (hb7.frozen abL_W6).trans (abF_W6 o)
    have abL_w7 : w.heap.size < w7.heap.size := Nat.lt_of_lt_of_le abL_W6 hb7.size
    have xa0_w7 := (hb7.cell xaL_W6).trans xa0_W6
    have xa1_w7 := (hb7.cell xaL_W6).trans xa1_W6
    have xa2_w7 := (hb7.cell xaL_W6).trans xa2_W6
    have xaF_w7 : ∀ o, w7.frozen? ⟨w5.heap.size, o, none⟩ = false := fun o => (hb7.frozen xaL_W6).trans (xaF_W6 o)
    have xaL_w7 : w5.heap.size < w7.heap.size := Nat.lt_of_lt_of_le xaL_W6 hb7.size
    have oX_w7 := hidP (OwnG.later oX_W6.out hb7)
    have acc_w7 := hidP (acc_W6.out.trans (hb7.mono acc_W6.out.size))
    have sz_w7 : Hid (W6.heap.size ≤ w7.heap.size) := hidP hb7.size
    clear hb7 ab0_W6 ab1_W6 ab2_W6 abF_W6 abL_W6 xa0_W6 xa1_W6 xa2_W6 xaF_W6 xaL_W6 oX_W6 acc_W6
    go_wp2_with fail
    have HSx : Hid (∀ x, Below w7.heap.size w7 x → (x.cell? ⟨w.heap.size, 0, none⟩ = some (.int .i64 T) ∧ x.cell? ⟨w.heap.size, 1, none⟩ = some (.int .i64 N) ∧ x.cell? ⟨w.heap.size, 2, none⟩ = some (.slice a n c) ∧ x.cell? ⟨w5.heap.size, 0, none⟩ = some (.int .i64 T) ∧ x.cell? ⟨w5.heap.size, 1, none⟩ = some (.int .i64 N) ∧ x.cell? ⟨w5.heap.size, 2, none⟩ = some (.slice (some ⟨g2, 0, none⟩) n n) ∧ Below w7.heap.size w7 x)) := hidP fun x h =>
      ⟨(h.cell abL_w7).trans ab0_w7, (h.cell abL_w7).trans ab1_w7, (h.cell abL_w7).trans ab2_w7, (h.cell xaL_w7).trans xa0_w7, (h.cell xaL_w7).trans xa1_w7, (h.cell xaL_w7).trans xa2_w7, h⟩
    refine wp_region_held_drew (S := (fun x => x.cell? ⟨w.heap.size, 0, none⟩ = some (.int .i64 T) ∧ x.cell? ⟨w.heap.size, 1, none⟩ = some (.int .i64 N) ∧ x.cell? ⟨w.heap.size, 2, none⟩ = some (.slice a n c) ∧ x.cell? ⟨w5.heap.size, 0, none⟩ = some (.int .i64 T) ∧ x.cell? ⟨w5.heap.size, 1, none⟩ = some (.int .i64 N) ∧ x.cell? ⟨w5.heap.size, 2, none⟩ = some (.slice (some ⟨g2, 0, none⟩) n n) ∧ Below w7.heap.size w7 x)) (by kernel_rfl) ?_ (fun hHeld => ?_)
    · try dsimp only
      exact HSx.out _ ((Below.refl _ _).drew)
    refine wpAnyH_take (i := 0) (oi := ⟨some 22, _, _, _, _, _⟩) (v := ?_) rfl (by kernel_rfl) (by kernel_rfl) (by kernel_rfl) (fun _ _ _ h => h) (Or.inl ⟨by rfl, ?_⟩) (by assumption) ?_
    rotate_left
    · intro w hSw
      try dsimp only at hSw
      go_simp
      try with_reducible rfl
    simp only [Act.put, List.setIfInBounds_toArray, List.set_cons_zero, List.set_cons_succ]
    refine wpAnyH_take (i := 1) (oi := ⟨some 23, _, _, _, _, _⟩) (v := ?_) rfl (by kernel_rfl) (by kernel_rfl) (by kernel_rfl) (fun _ _ _ h => h) (Or.inl ⟨by rfl, ?_⟩) (by assumption) ?_
    rotate_left
    · intro w hSw
      try dsimp only at hSw
      go_simp
      try with_reducible rfl
    simp only [Act.put, List.setIfInBounds_toArray, List.set_cons_zero, List.set_cons_succ]
    refine wpAnyH_ready (rs := [2]) (by kernel_rfl) (by simp) ?_
    refine AllReadyH.cons rfl (fun K hK => ?_) AllReadyH.nil
    go_simp
    go_wp2_with (first | (go_at_call 15; refine (HTo.out _ (acc_w7.out.trans ((hHeld.2.2.2.2.2.2).mono acc_w7.out.size))).mono ?_; rintro e w8 ⟨g3, rfl, og3, hb8⟩; have b8 := (hHeld.2.2.2.2.2.2).trans (hb8.mono (hHeld.2.2.2.2.2.2).size)))
    refine hK.out _ _ ?_ (fun hHeld => ?_)
    · try dsimp only
      exact HSx.out _ b8
    clear hK K
    refine wpAnyH_ready (rs := [3]) (by kernel_rfl) (by simp) ?_
    refine AllReadyH.cons rfl (fun K hK => ?_) AllReadyH.nil
    go_simp
    go_wp2_with (first | (go_at_call 17; refine (HEq.out _ g2 g3 (oX_w7.out.row.later (hHeld.2.2.2.2.2.2)) og3.row).mono ?_; rintro e w9 ⟨rfl, hb9⟩; have b9 := (hHeld.2.2.2.2.2.2).trans (hb9.mono (hHeld.2.2.2.2.2.2).size)))
    refine hK.out _ _ ?_ (fun hHeld => ?_)
    · try dsimp only
      exact HSx.out _ b9
    clear hK K
    refine wpAnyH_take (i := 4) (oi := ⟨some 26, _, _, _, _, _⟩) (v := ?_) rfl (by kernel_rfl) (by kernel_rfl) (by kernel_rfl) (fun _ _ _ h => h) (Or.inl ⟨by rfl, ?_⟩) (by assumption) ?_
    rotate_left
    · intro w hSw
      try dsimp only at hSw
      go_simp
      try with_reducible rfl
    simp only [Act.put, List.setIfInBounds_toArray, List.set_cons_zero, List.set_cons_succ]
    have HE := hidP (hHeld.2.2.2.2.2.2)
    refine wpAnyH_done (by kernel_rfl) ?_ _
    clear hHeld
    go_wp2_with fail
    go_ret
    exact ⟨rfl, acc_w7.out.trans (HE.out.mono acc_w7.out.size)⟩
  · rw [szT_no ht] at HSz
    clear hP hn ht
    go_enter Try.func4, Try.ntmps4
    go_wp2_with fail
    refine (HSz.out _).mono ?_
    rintro e w2 ⟨rfl, hb2⟩
    go_wp2_with fail
    go_ret
    exact ⟨rfl, (alloc_below w _).trans (hb2.mono (alloc_below w _).size)⟩

set_option maxRecDepth 100000 in
theorem entryOk_lifted (os : Os) (started : os.Started) (H : Type) (enc : TypeId × Value → H) :
    ReturnsInHanded {} Try.checked os 4 .any (Rows.fnExactEntryOkSpec.pre6 enc Try.prog Try.f4 Rows.fnExactEntryOkRow.domain false) (Rows.fnExactEntryOkSpec.post enc Try.prog Try.f4 false true false false) := by
  refine returnsInHanded_of_change (C := Try.checked) Try.ownG12 started (by kernel_rfl) Try.func4
    (ChangeSpec.witness6 (enc := enc) (C := Try.checked) false ⟨#[], #[.agg #[.int .i64 0, .int .i64 0, .slice none 0 0]], []⟩ 8 (by kernel_rfl) (by kernel_rfl) (by kernel_rfl) (by kernel_rfl)) ?_
  intro W base args ds gs before hval0 hW _ _
  have hval : ∀ (j : Nat) t v, Try.f4.params[j]? = some t → args[j]? = some v → Value.okWide Try.prog W .any base t v := hval0
  have hW' := hW
  obtain ⟨p, q, hA0, hV, rfl, _, _⟩ := hW
  have hA : DataW.TrodAll enc Try.prog W 0 (fun _ => true) true Try.f4.params.toList args.toList ds p := hA0
  rw [Try.params4] at hA hval
  obtain ⟨v0, d0, rfl, rfl, h0⟩ := trodAll_one hA
  obtain ⟨rfl, rfl⟩ := trodVars_none hV
  obtain ⟨a, n, c, T, N, zs, rfl, hn, ho, hP, h9, wT, wN⟩ := openEntry (hval 0 40 v0 rfl rfl) h0
  clear hA0 hval0
  simp only [List.append_nil] at hW'
  have hlt0 : ∀ x ∈ p, x.block < W.heap.size := fun x hx => by simpa using hW'.lt x hx
  refine (lawEntryOk a n c T N zs W hn ho hP h9).mono fun e W' ⟨he, hb⟩ => ?_
  subst he
  exact ⟨_, rfl, ⟨_, _, _, [], p, [], hW', trodAll_mk1 (shut_bool Try.underlying4 true), trodAll_mk1 (Below.trod Try.laidOutG (by kernel_rfl) (of_decide_eq_true (by kernel_rfl)) h0 hb hlt0), rfl, hb.frame _, fun h => by cases h⟩⟩

theorem entryOk_holds : Rows.FnExactEntryOkSaid :=
  OpenClaim.holds_of_wide 4 Try.f4 rfl rfl rfl rfl rfl rfl rfl ⟨rfl, rfl, rfl, rfl, rfl⟩ rfl rfl rfl rfl rfl (by kernel_rfl) Try.func4 (by kernel_rfl)
    (of_decide_eq_true (by kernel_rfl)) (by unfold Func.isWrapper; rw [if_neg (of_decide_eq_false (by kernel_rfl))]; exact ⟨rfl, rfl⟩)
    (fun os started H enc _ => entryOk_lifted os started H enc)

end Go.Proofs.Ytdddbnlbbheiiaa
