/-
  The two PutGroup answer alike.
-/
import Derived.Test.YtamaanbnlnpjcaaV12B
namespace Go.Proofs.Ytamaanbnlnpjcaa
open Go.ChangeShapes Go.WideShapes Go.ChangeAt Go.RowKit Go.Joins Go.Deep

set_option maxRecDepth 10000 in
set_option maxHeartbeats 2000000 in
theorem sPg_no (g h np nb : Nat) (ps bs : List Int) (w : World) (hnp : np = ps.length) (hnb : nb = bs.length) (hP : RowG KI w (some ⟨g, 0, none⟩) ps) (hK : RowG KI w (some ⟨h, 0, none⟩) bs) (hl : np ≤ 1048576) (hl' : nb ≤ 1048576) (hr : grB ps bs = false) :
    Calls Try.prog 97 #[.agg #[.slice (some ⟨g, 0, none⟩) np np, .slice (some ⟨h, 0, none⟩) nb nb]] w fun e w' => ∃ a' c', e = .returned (.slice a' 0 c') ∧ OwnG KBy 5 w' w.heap.size (.slice a' 0 c') [] ∧ Below w.heap.size w w' := by
  have HIm := hidP (fun W h9 => sGroupOk_any (some ⟨g, 0, none⟩) np np (some ⟨h, 0, none⟩) nb nb ps bs W hnp hnb (hP.later h9) (hK.later h9) hl hl')
  rw [hr] at HIm
  clear hP hK hnp hnb hr
  go_enter Try.func97, Try.ntmps97
  go_wp2_with fail
  obtain ⟨bk0_W1, bk1_W1⟩ := box2D w 26 (.slice (some ⟨g, 0, none⟩) np np) (.slice (some ⟨h, 0, none⟩) nb nb)
  have bkF_W1 : ∀ o, (w.alloc (.cells #[.slice (some ⟨g, 0, none⟩) np np, .slice (some ⟨h, 0, none⟩) nb nb] 26)).frozen? ⟨w.heap.size, o, none⟩ = false := fun o => by simp [go_sem]
  have bkL_W1 : w.heap.size < (w.alloc (.cells #[.slice (some ⟨g, 0, none⟩) np np, .slice (some ⟨h, 0, none⟩) nb nb] 26)).heap.size := by simp
  have ab_W1 := alloc_below w (.cells #[.slice (some ⟨g, 0, none⟩) np np, .slice (some ⟨h, 0, none⟩) nb nb] 26)
  have as_W1 : Hid ((w.alloc (.cells #[.slice (some ⟨g, 0, none⟩) np np, .slice (some ⟨h, 0, none⟩) nb nb] 26)).heap.size = w.heap.size + 1) := hidP (by simp)
  generalize w.alloc (.cells #[.slice (some ⟨g, 0, none⟩) np np, .slice (some ⟨h, 0, none⟩) nb nb] 26) = W1 at *
  have acc_W1 := hidP (ab_W1)
  have sz_W1 : Hid (w.heap.size ≤ W1.heap.size) := hidP ab_W1.size
  clear ab_W1 
  refine (HIm.out _ acc_W1.out).mono ?_
  rintro e w3 ⟨rfl, hb3⟩
  have bk0_w3 := (hb3.cell bkL_W1).trans bk0_W1
  have bk1_w3 := (hb3.cell bkL_W1).trans bk1_W1
  have bkF_w3 : ∀ o, w3.frozen? ⟨w.heap.size, o, none⟩ = false := fun o => (hb3.frozen bkL_W1).trans (bkF_W1 o)
  have bkL_w3 : w.heap.size < w3.heap.size := Nat.lt_of_lt_of_le bkL_W1 hb3.size
  have acc_w3 := hidP (acc_W1.out.trans (hb3.mono acc_W1.out.size))
  have sz_w3 : Hid (W1.heap.size ≤ w3.heap.size) := hidP hb3.size
  clear hb3 bk0_W1 bk1_W1 bkF_W1 bkL_W1 acc_W1
  go_wp2_with fail
  go_ret
  exact ⟨_, _, rfl, own_zeroG KBy w3 _ 5 (by have := as_W1.out; have := sz_W1.out; have := sz_w3.out; omega), acc_w3.out.alloc acc_w3.out.size _⟩

set_option maxRecDepth 10000 in
set_option maxHeartbeats 2000000 in
theorem sPg_yes (g h np nb : Nat) (ps bs : List Int) (w : World) (hnp : np = ps.length) (hnb : nb = bs.length) (hP : RowG KI w (some ⟨g, 0, none⟩) ps) (hK : RowG KI w (some ⟨h, 0, none⟩) bs) (hl : np ≤ 1048576) (hl' : nb ≤ 1048576) (hr : grB ps bs = true) :
    Calls Try.prog 97 #[.agg #[.slice (some ⟨g, 0, none⟩) np np, .slice (some ⟨h, 0, none⟩) nb nb]] w fun e w' => ∃ a' c', e = .returned (.slice a' 2 c') ∧ OwnG KBy 5 w' w.heap.size (.slice a' 2 c') [byI 0 ps, byI 0 bs] ∧ Below w.heap.size w w' := by
  have hr' := hr
  unfold grB at hr'
  simp only [Bool.and_eq_true] at hr'
  have hq1 := ids_in ps 0 (Int.le_refl _) hr'.1.1
  have hq2 := ids_in bs 0 (Int.le_refl _) hr'.1.2
  have HIm := hidP (fun W h9 => sGroupOk_any (some ⟨g, 0, none⟩) np np (some ⟨h, 0, none⟩) nb nb ps bs W hnp hnb (hP.later h9) (hK.later h9) hl hl')
  rw [hr] at HIm
  have H1 := hidP (fun W h9 => l12Bits_any (some ⟨g, 0, none⟩) np np ps W hnp (hP.later h9) hl hq1)
  have H2 := hidP (fun W h9 => l12Bits_any (some ⟨h, 0, none⟩) nb nb bs W hnb (hK.later h9) hl' hq2)
  generalize byI 0 ps = x1 at *
  generalize byI 0 bs = x2 at *
  clear hP hK hnp hnb hr hr' hq1 hq2
  go_enter Try.func97, Try.ntmps97
  go_wp2_with fail
  obtain ⟨bk0_W1, bk1_W1⟩ := box2D w 26 (.slice (some ⟨g, 0, none⟩) np np) (.slice (some ⟨h, 0, none⟩) nb nb)
  have bkF_W1 : ∀ o, (w.alloc (.cells #[.slice (some ⟨g, 0, none⟩) np np, .slice (some ⟨h, 0, none⟩) nb nb] 26)).frozen? ⟨w.heap.size, o, none⟩ = false := fun o => by simp [go_sem]
  have bkL_W1 : w.heap.size < (w.alloc (.cells #[.slice (some ⟨g, 0, none⟩) np np, .slice (some ⟨h, 0, none⟩) nb nb] 26)).heap.size := by simp
  have ab_W1 := alloc_below w (.cells #[.slice (some ⟨g, 0, none⟩) np np, .slice (some ⟨h, 0, none⟩) nb nb] 26)
  have as_W1 : Hid ((w.alloc (.cells #[.slice (some ⟨g, 0, none⟩) np np, .slice (some ⟨h, 0, none⟩) nb nb] 26)).heap.size = w.heap.size + 1) := hidP (by simp)
  generalize w.alloc (.cells #[.slice (some ⟨g, 0, none⟩) np np, .slice (some ⟨h, 0, none⟩) nb nb] 26) = W1 at *
  have acc_W1 := hidP (ab_W1)
  have sz_W1 : Hid (w.heap.size ≤ W1.heap.size) := hidP ab_W1.size
  clear ab_W1 
  refine (HIm.out _ acc_W1.out).mono ?_
  rintro e w3 ⟨rfl, hb3⟩
  have bk0_w3 := (hb3.cell bkL_W1).trans bk0_W1
  have bk1_w3 := (hb3.cell bkL_W1).trans bk1_W1
  have bkF_w3 : ∀ o, w3.frozen? ⟨w.heap.size, o, none⟩ = false := fun o => (hb3.frozen bkL_W1).trans (bkF_W1 o)
  have bkL_w3 : w.heap.size < w3.heap.size := Nat.lt_of_lt_of_le bkL_W1 hb3.size
  have acc_w3 := hidP (acc_W1.out.trans (hb3.mono acc_W1.out.size))
  have sz_w3 : Hid (W1.heap.size ≤ w3.heap.size) := hidP hb3.size
  clear hb3 bk0_W1 bk1_W1 bkF_W1 bkL_W1 acc_W1
  go_wp2_with fail
  have HSx : Hid (∀ x, Below w3.heap.size w3 x → (x.cell? ⟨w.heap.size, 0, none⟩ = some (.slice (some ⟨g, 0, none⟩) np np) ∧ x.cell? ⟨w.heap.size, 1, none⟩ = some (.slice (some ⟨h, 0, none⟩) nb nb) ∧ Below w3.heap.size w3 x)) := hidP fun x h =>
    ⟨(h.cell bkL_w3).trans bk0_w3, (h.cell bkL_w3).trans bk1_w3, h⟩
  refine wp_region_held_drew (S := (fun x => x.cell? ⟨w.heap.size, 0, none⟩ = some (.slice (some ⟨g, 0, none⟩) np np) ∧ x.cell? ⟨w.heap.size, 1, none⟩ = some (.slice (some ⟨h, 0, none⟩) nb nb) ∧ Below w3.heap.size w3 x)) (by kernel_rfl) ?_ (fun hHeld => ?_)
  · try dsimp only
    exact HSx.out _ ((Below.refl _ _).drew)
  refine wpAnyH_take (i := 0) (oi := ⟨some 7, _, _, _, _, _⟩) (v := ?_) rfl (by kernel_rfl) (by kernel_rfl) (by kernel_rfl) (fun _ _ _ h => h) (Or.inl ⟨by rfl, ?_⟩) (by assumption) ?_
  rotate_left
  · intro w hSw
    try dsimp only at hSw
    go_simp
    try with_reducible rfl
  simp only [Act.put, List.setIfInBounds_toArray, List.set_cons_zero, List.set_cons_succ]
  refine wpAnyH_take (i := 1) (oi := ⟨some 8, _, _, _, _, _⟩) (v := ?_) rfl (by kernel_rfl) (by kernel_rfl) (by kernel_rfl) (fun _ _ _ h => h) (Or.inl ⟨by rfl, ?_⟩) (by assumption) ?_
  rotate_left
  · intro w hSw
    try dsimp only at hSw
    go_simp
    try with_reducible rfl
  simp only [Act.put, List.setIfInBounds_toArray, List.set_cons_zero, List.set_cons_succ]
  refine wpAnyH_take (i := 3) (oi := ⟨some 10, _, _, _, _, _⟩) (v := ?_) rfl (by kernel_rfl) (by kernel_rfl) (by kernel_rfl) (fun _ _ _ h => h) (Or.inl ⟨by rfl, ?_⟩) (by assumption) ?_
  rotate_left
  · intro w hSw
    try dsimp only at hSw
    go_simp
    try with_reducible rfl
  simp only [Act.put, List.setIfInBounds_toArray, List.set_cons_zero, List.set_cons_succ]
  refine wpAnyH_take (i := 4) (oi := ⟨some 11, _, _, _, _, _⟩) (v := ?_) rfl (by kernel_rfl) (by kernel_rfl) (by kernel_rfl) (fun _ _ _ h => h) (Or.inl ⟨by rfl, ?_⟩) (by assumption) ?_
  rotate_left
  · intro w hSw
    try dsimp only at hSw
    go_simp
    try with_reducible rfl
  simp only [Act.put, List.setIfInBounds_toArray, List.set_cons_zero, List.set_cons_succ]
  refine wpAnyH_ready (rs := [2]) (by kernel_rfl) (by simp) ?_
  refine AllReadyH.cons rfl (fun K hK => ?_) AllReadyH.nil
  go_simp
  go_wp2_with (first | (go_at_call 101; refine (H1.out _ (acc_w3.out.trans ((hHeld.2.2).mono acc_w3.out.size))).mono ?_; rintro e w4 ⟨rfl, hb4⟩; have b4 := (hHeld.2.2).trans (hb4.mono (hHeld.2.2).size)))
  refine hK.out _ _ ?_ (fun hHeld => ?_)
  · try dsimp only
    exact HSx.out _ b4
  clear hK K
  refine wpAnyH_ready (rs := [5]) (by kernel_rfl) (by simp) ?_
  refine AllReadyH.cons rfl (fun K hK => ?_) AllReadyH.nil
  go_simp
  go_wp2_with (first | (go_at_call 101; refine (H2.out _ (acc_w3.out.trans ((hHeld.2.2).mono acc_w3.out.size))).mono ?_; rintro e w5 ⟨rfl, hb5⟩; have b5 := (hHeld.2.2).trans (hb5.mono (hHeld.2.2).size)))
  refine hK.out _ _ ?_ (fun hHeld => ?_)
  · try dsimp only
    exact HSx.out _ b5
  clear hK K
  refine wpAnyH_ready (rs := [6]) (by kernel_rfl) (by simp) ?_
  refine AllReadyH.cons rfl (fun K hK => ?_) AllReadyH.nil
  go_simp
  refine hK.out _ _ ?_ (fun hHeld => ?_)
  · try dsimp only
    exact HSx.out _ ((hHeld.2.2).alloc (hHeld.2.2).size _)
  clear hK K
  refine wpAnyH_take (i := 7) (oi := ⟨some 2, _, _, _, _, _⟩) (v := ?_) rfl (by kernel_rfl) (by kernel_rfl) (by kernel_rfl) (fun _ _ _ h => h) (Or.inl ⟨by rfl, ?_⟩) (by assumption) ?_
  rotate_left
  · intro w hSw
    try dsimp only at hSw
    go_simp
    try with_reducible rfl
  simp only [Act.put, List.setIfInBounds_toArray, List.set_cons_zero, List.set_cons_succ]
  have HE := hidP (hHeld.2.2)
  refine wpAnyH_done (by kernel_rfl) ?_ _
  clear hHeld
  go_wp2_with fail
  go_ret
  have hz5 : w3.heap.size ≤ w5.heap.size := b5.size
  exact ⟨_, _, rfl, own_two w5 _ _ _ (by have := as_W1.out; have := sz_W1.out; have := sz_w3.out; omega), acc_w3.out.trans (HE.out.mono acc_w3.out.size)⟩

end Go.Proofs.Ytamaanbnlnpjcaa
