/-
  For every group the two PutGroup answer alike, in a row of their own, and leave the group as it was, so the exact law of PutGroup returns true; no condition.
-/
import Derived.Test.YtnngbeoeocbofaaV12P
import Derived.ProofKit
import Derived.Lib.SmallJoins
import Derived.Carry
import Derived.Deep.Slices
import Derived.ChangeMaps5
namespace Go.Proofs.Ytnngbeoeocbofaa
open Go.ChangeShapes Go.WideShapes Go.ChangeAt Go.RowKit Go.Joins Go.Deep

set_option maxRecDepth 10000 in
set_option maxHeartbeats 8000000 in
theorem lawPutGroup (ap : Option Addr) (np cp : Nat) (ab : Option Addr) (nb cb : Nat) (ps bs : List Int) (w : World) (hnp : np = ps.length) (hnb : nb = bs.length) (hP : RowG KI w ap ps) (hK : RowG KI w ab bs) (h9 : np ≤ 9223372036854775807) (h9' : nb ≤ 9223372036854775807) :
    Calls Try.prog 7 #[.agg #[.slice ap np cp, .slice ab nb cb]] w fun e w' => e = .returned (.bool true) ∧ Below w.heap.size w w' := by
  have HSz := hidP (fun W => szGroup_any ap np cp ab nb cb W h9 h9')
  by_cases ht : (np : Int) + (nb : Int) ≤ 1048576
  · rw [szT_yes ht] at HSz
    have hl : np ≤ 1048576 := by omega
    have hl' : nb ≤ 1048576 := by omega
    have HTo := hidP (fun W h => toGroup_any ap np cp ab nb cb ps bs W hnp hnb (hP.later h) (hK.later h) hl hl')
    obtain ⟨ZS, NZ, hNZ, hL1, hSpec, hImpl⟩ := putg_both np nb ps bs hnp hnb hl hl'
    have HSp := hidP hSpec
    have HIm := hidP hImpl
    have HEq := hidP (fun W g h g' h' e1 e2 e3 e4 => eqGroup_same (some ⟨g, 0, none⟩) (some ⟨g', 0, none⟩) np np np (some ⟨h, 0, none⟩) (some ⟨h', 0, none⟩) nb nb nb ps bs W hnp hnb e1 e2 e3 e4 (by omega) (by omega))
    have HEr := hidP (fun W a c a' c' e1 e2 => eqByteG a a' NZ c c' ZS W hNZ e1 e2 (by omega))
    have HMk := hidP (fun W g h B o1 o2 ne => markGroup_any (some ⟨g, 0, none⟩) np np (some ⟨h, 0, none⟩) nb nb ps bs B 1 W hnp hnb o1 o2 ne (by omega) (by omega) (by omega) (by omega))
    have HMr := hidP (fun W a c B o1 => markByteG a NZ c B ZS 1 W hNZ o1 (by omega) (by omega) (by omega))
    have HHd := hidP (fun W a c e1 => heldByteG a c NZ 1 W e1 (by omega) (by omega) (by omega))
    have d1 : decide (1048576 - ((np : Int) + (nb : Int)) < 0) = false := decide_eq_false (by omega)
    have d2 : ¬ (1048576 - ((np : Int) + (nb : Int)) < 0) := by omega
    generalize 1048576 - ((np : Int) + (nb : Int)) = z at *
    have d3 : decide ((1 : Int) + (np : Int) + (nb : Int) < 0) = false := decide_eq_false (by omega)
    have d4 : ¬ ((1 : Int) + (np : Int) + (nb : Int) < 0) := by omega
    have d5 : decide ((1 : Int) + (NZ : Int) < 0) = false := decide_eq_false (by omega)
    have d6 : ¬ ((1 : Int) + (NZ : Int) < 0) := by omega
    clear hP hK hnp hnb ht hNZ hSpec hImpl
    go_enter Try.func7, Try.ntmps7
    go_wp2_with fail
    obtain ⟨lb0_W1, lb1_W1⟩ := box2D w 34 (.slice ap np cp) (.slice ab nb cb)
    have lbF_W1 : ∀ o, (w.alloc (.cells #[.slice ap np cp, .slice ab nb cb] 34)).frozen? ⟨w.heap.size, o, none⟩ = false := fun o => by simp [go_sem]
    have lbL_W1 : w.heap.size < (w.alloc (.cells #[.slice ap np cp, .slice ab nb cb] 34)).heap.size := by simp
    have ab_W1 := alloc_below w (.cells #[.slice ap np cp, .slice ab nb cb] 34)
    have as_W1 : Hid ((w.alloc (.cells #[.slice ap np cp, .slice ab nb cb] 34)).heap.size = w.heap.size + 1) := hidP (by simp)
    generalize w.alloc (.cells #[.slice ap np cp, .slice ab nb cb] 34) = W1 at *
    have acc_W1 := hidP (ab_W1)
    have sz_W1 : Hid (w.heap.size ≤ W1.heap.size) := hidP ab_W1.size
    clear ab_W1 
    refine (HSz.out _).mono ?_
    rintro e w2 ⟨rfl, hb2⟩
    have lb0_w2 := (hb2.cell lbL_W1).trans lb0_W1
    have lb1_w2 := (hb2.cell lbL_W1).trans lb1_W1
    have lbF_w2 : ∀ o, w2.frozen? ⟨w.heap.size, o, none⟩ = false := fun o => (hb2.frozen lbL_W1).trans (lbF_W1 o)
    have lbL_w2 : w.heap.size < w2.heap.size := Nat.lt_of_lt_of_le lbL_W1 hb2.size
    have acc_w2 := hidP (acc_W1.out.trans (hb2.mono acc_W1.out.size))
    have sz_w2 : Hid (W1.heap.size ≤ w2.heap.size) := hidP hb2.size
    clear hb2 lb0_W1 lb1_W1 lbF_W1 lbL_W1 acc_W1
    go_wp2_with fail
    refine (HTo.out _ acc_w2.out).mono ?_
    rintro e w3 ⟨g1, h1, rfl, og1, oh1, gh1, hb_w3⟩
    have OX := hidP (And.intro og1 (And.intro oh1 gh1))
    clear og1 oh1 gh1
    have lb0_w3 := (hb_w3.cell lbL_w2).trans lb0_w2
    have lb1_w3 := (hb_w3.cell lbL_w2).trans lb1_w2
    have lbF_w3 : ∀ o, w3.frozen? ⟨w.heap.size, o, none⟩ = false := fun o => (hb_w3.frozen lbL_w2).trans (lbF_w2 o)
    have lbL_w3 : w.heap.size < w3.heap.size := Nat.lt_of_lt_of_le lbL_w2 hb_w3.size
    have acc_w3 := hidP (acc_w2.out.trans (hb_w3.mono acc_w2.out.size))
    have sz_w3 : Hid (w2.heap.size ≤ w3.heap.size) := hidP hb_w3.size
    clear hb_w3 lb0_w2 lb1_w2 lbF_w2 lbL_w2 acc_w2
    have oX_w3 := hidP (OX.out.1)
    have lhX : Hid (∀ k, (Value.slice (some ⟨g1, 0, none⟩) np np).ownBlock = some k → w2.heap.size ≤ k ∧ k < w3.heap.size) := hidP (fun k hk => OwnG.lt oX_w3.out k hk)
    have oY_w3 := hidP (OX.out.2.1)
    have lhY : Hid (∀ k, (Value.slice (some ⟨h1, 0, none⟩) nb nb).ownBlock = some k → w2.heap.size ≤ k ∧ k < w3.heap.size) := hidP (fun k hk => OwnG.lt oY_w3.out k hk)
    have gg1 := hidP OX.out.2.2
    clear OX
    go_wp2_with fail
    refine (HSp.out g1 h1 _ oX_w3.out.row oY_w3.out.row).mono ?_
    rintro e w4 ⟨a4, c4, rfl, og4, hb4⟩
    have OX := hidP og4
    clear og4
    have lb0_w4 := (hb4.cell lbL_w3).trans lb0_w3
    have lb1_w4 := (hb4.cell lbL_w3).trans lb1_w3
    have lbF_w4 : ∀ o, w4.frozen? ⟨w.heap.size, o, none⟩ = false := fun o => (hb4.frozen lbL_w3).trans (lbF_w3 o)
    have lbL_w4 : w.heap.size < w4.heap.size := Nat.lt_of_lt_of_le lbL_w3 hb4.size
    have oX_w4 := hidP (OwnG.later oX_w3.out hb4)
    have oY_w4 := hidP (OwnG.later oY_w3.out hb4)
    have acc_w4 := hidP (acc_w3.out.trans (hb4.mono acc_w3.out.size))
    have sz_w4 : Hid (w3.heap.size ≤ w4.heap.size) := hidP hb4.size
    clear hb4 lb0_w3 lb1_w3 lbF_w3 lbL_w3 oX_w3 oY_w3 acc_w3
    have oS_w4 := hidP (OX.out)
    have lhS : Hid (∀ k, (Value.slice a4 NZ c4).ownBlock = some k → w3.heap.size ≤ k ∧ k < w4.heap.size) := hidP (fun k hk => OwnG.lt oS_w4.out k hk)
    clear OX
    go_wp2_with fail
    clear oX_w4
    clear oY_w4
    clear lhX lhY gg1
    refine (HTo.out _ acc_w4.out).mono ?_
    rintro e w6 ⟨g2, h2, rfl, og2, oh2, gh2, hb_w6⟩
    have OX := hidP (And.intro og2 (And.intro oh2 gh2))
    clear og2 oh2 gh2
    have lb0_w6 := (hb_w6.cell lbL_w4).trans lb0_w4
    have lb1_w6 := (hb_w6.cell lbL_w4).trans lb1_w4
    have lbF_w6 : ∀ o, w6.frozen? ⟨w.heap.size, o, none⟩ = false := fun o => (hb_w6.frozen lbL_w4).trans (lbF_w4 o)
    have lbL_w6 : w.heap.size < w6.heap.size := Nat.lt_of_lt_of_le lbL_w4 hb_w6.size
    have oS_w6 := hidP (OwnG.later oS_w4.out hb_w6)
    have acc_w6 := hidP (acc_w4.out.trans (hb_w6.mono acc_w4.out.size))
    have sz_w6 : Hid (w4.heap.size ≤ w6.heap.size) := hidP hb_w6.size
    clear hb_w6 lb0_w4 lb1_w4 lbF_w4 lbL_w4 oS_w4 acc_w4
    have oX_w6 := hidP (OX.out.1)
    have lhX : Hid (∀ k, (Value.slice (some ⟨g2, 0, none⟩) np np).ownBlock = some k → w4.heap.size ≤ k ∧ k < w6.heap.size) := hidP (fun k hk => OwnG.lt oX_w6.out k hk)
    have oY_w6 := hidP (OX.out.2.1)
    have lhY : Hid (∀ k, (Value.slice (some ⟨h2, 0, none⟩) nb nb).ownBlock = some k → w4.heap.size ≤ k ∧ k < w6.heap.size) := hidP (fun k hk => OwnG.lt oY_w6.out k hk)
    have gg2 := hidP OX.out.2.2
    clear OX
    go_wp2_with fail
    obtain ⟨xa0_W7, xa1_W7⟩ := box2D w6 26 (.slice (some ⟨g2, 0, none⟩) np np) (.slice (some ⟨h2, 0, none⟩) nb nb)
    have xaF_W7 : ∀ o, (w6.alloc (.cells #[.slice (some ⟨g2, 0, none⟩) np np, .slice (some ⟨h2, 0, none⟩) nb nb] 26)).frozen? ⟨w6.heap.size, o, none⟩ = false := fun o => by simp [go_sem]
    have xaL_W7 : w6.heap.size < (w6.alloc (.cells #[.slice (some ⟨g2, 0, none⟩) np np, .slice (some ⟨h2, 0, none⟩) nb nb] 26)).heap.size := by simp
    have ab_W7 := alloc_below w6 (.cells #[.slice (some ⟨g2, 0, none⟩) np np, .slice (some ⟨h2, 0, none⟩) nb nb] 26)
    have as_W7 : Hid ((w6.alloc (.cells #[.slice (some ⟨g2, 0, none⟩) np np, .slice (some ⟨h2, 0, none⟩) nb nb] 26)).heap.size = w6.heap.size + 1) := hidP (by simp)
    generalize w6.alloc (.cells #[.slice (some ⟨g2, 0, none⟩) np np, .slice (some ⟨h2, 0, none⟩) nb nb] 26) = W7 at *
    have lb0_W7 := (ab_W7.cell lbL_w6).trans lb0_w6
    have lb1_W7 := (ab_W7.cell lbL_w6).trans lb1_w6
    have lbF_W7 : ∀ o, W7.frozen? ⟨w.heap.size, o, none⟩ = false := fun o => (ab_W7.frozen lbL_w6).trans (lbF_w6 o)
    have lbL_W7 : w.heap.size < W7.heap.size := Nat.lt_of_lt_of_le lbL_w6 ab_W7.size
    have oS_W7 := hidP (OwnG.later oS_w6.out ab_W7)
    have oX_W7 := hidP (OwnG.later oX_w6.out ab_W7)
    have oY_W7 := hidP (OwnG.later oY_w6.out ab_W7)
    have acc_W7 := hidP (acc_w6.out.trans (ab_W7.mono acc_w6.out.size))
    have sz_W7 : Hid (w6.heap.size ≤ W7.heap.size) := hidP ab_W7.size
    clear ab_W7 lb0_w6 lb1_w6 lbF_w6 lbL_w6 oS_w6 oX_w6 oY_w6 acc_w6
    refine (HIm.out g2 h2 _ oX_W7.out.row oY_W7.out.row).mono ?_
    rintro e w8 ⟨a8, c8, rfl, og8, hb8⟩
    have OX := hidP og8
    clear og8
    have lb0_w8 := (hb8.cell lbL_W7).trans lb0_W7
    have lb1_w8 := (hb8.cell lbL_W7).trans lb1_W7
    have lbF_w8 : ∀ o, w8.frozen? ⟨w.heap.size, o, none⟩ = false := fun o => (hb8.frozen lbL_W7).trans (lbF_W7 o)
    have lbL_w8 : w.heap.size < w8.heap.size := Nat.lt_of_lt_of_le lbL_W7 hb8.size
    have xa0_w8 := (hb8.cell xaL_W7).trans xa0_W7
    have xa1_w8 := (hb8.cell xaL_W7).trans xa1_W7
    have xaF_w8 : ∀ o, w8.frozen? ⟨w6.heap.size, o, none⟩ = false := fun o => (hb8.frozen xaL_W7).trans (xaF_W7 o)
    have xaL_w8 : w6.heap.size < w8.heap.size := Nat.lt_of_lt_of_le xaL_W7 hb8.size
    have oS_w8 := hidP (OwnG.later oS_W7.out hb8)
    have oX_w8 := hidP (OwnG.later oX_W7.out hb8)
    have oY_w8 := hidP (OwnG.later oY_W7.out hb8)
    have acc_w8 := hidP (acc_W7.out.trans (hb8.mono acc_W7.out.size))
    have sz_w8 : Hid (W7.heap.size ≤ w8.heap.size) := hidP hb8.size
    clear hb8 lb0_W7 lb1_W7 lbF_W7 lbL_W7 xa0_W7 xa1_W7 xaF_W7 xaL_W7 oS_W7 oX_W7 oY_W7 acc_W7
    have oI_w8 := hidP (OX.out)
    have lhI : Hid (∀ k, (Value.slice a8 NZ c8).ownBlock = some k → W7.heap.size ≤ k ∧ k < w8.heap.size) := hidP (fun k hk => OwnG.lt oI_w8.out k hk)
    clear OX
    go_wp2_with fail
    refine (HEr.out _ a8 c8 a4 c4 oI_w8.out.row oS_w8.out.row).mono ?_
    rintro e w10 ⟨rfl, hb_w10⟩
    have lb0_w10 := (hb_w10.cell lbL_w8).trans lb0_w8
    have lb1_w10 := (hb_w10.cell lbL_w8).trans lb1_w8
    have lbF_w10 : ∀ o, w10.frozen? ⟨w.heap.size, o, none⟩ = false := fun o => (hb_w10.frozen lbL_w8).trans (lbF_w8 o)
    have lbL_w10 : w.heap.size < w10.heap.size := Nat.lt_of_lt_of_le lbL_w8 hb_w10.size
    have xa0_w10 := (hb_w10.cell xaL_w8).trans xa0_w8
    have xa1_w10 := (hb_w10.cell xaL_w8).trans xa1_w8
    have xaF_w10 : ∀ o, w10.frozen? ⟨w6.heap.size, o, none⟩ = false := fun o => (hb_w10.frozen xaL_w8).trans (xaF_w8 o)
    have xaL_w10 : w6.heap.size < w10.heap.size := Nat.lt_of_lt_of_le xaL_w8 hb_w10.size
    have oS_w10 := hidP (OwnG.later oS_w8.out hb_w10)
    have oX_w10 := hidP (OwnG.later oX_w8.out hb_w10)
    have oY_w10 := hidP (OwnG.later oY_w8.out hb_w10)
    have oI_w10 := hidP (OwnG.later oI_w8.out hb_w10)
    have acc_w10 := hidP (acc_w8.out.trans (hb_w10.mono acc_w8.out.size))
    have sz_w10 : Hid (w8.heap.size ≤ w10.heap.size) := hidP hb_w10.size
    clear hb_w10 lb0_w8 lb1_w8 lbF_w8 lbL_w8 xa0_w8 xa1_w8 xaF_w8 xaL_w8 oS_w8 oX_w8 oY_w8 oI_w8 acc_w8
    go_wp2_with fail
    have HSx : Hid (∀ x, Below w10.heap.size w10 x → (x.cell? ⟨w.heap.size, 0, none⟩ = some (.slice ap np cp) ∧ x.cell? ⟨w.heap.size, 1, none⟩ = some (.slice ab nb cb) ∧ x.cell? ⟨w6.heap.size, 0, none⟩ = some (.slice (some ⟨g2, 0, none⟩) np np) ∧ x.cell? ⟨w6.heap.size, 1, none⟩ = some (.slice (some ⟨h2, 0, none⟩) nb nb) ∧ Below w10.heap.size w10 x)) := hidP fun x h =>
      ⟨(h.cell lbL_w10).trans lb0_w10, (h.cell lbL_w10).trans lb1_w10, (h.cell xaL_w10).trans xa0_w10, (h.cell xaL_w10).trans xa1_w10, h⟩
    refine wp_region_held_drew (S := (fun x => x.cell? ⟨w.heap.size, 0, none⟩ = some (.slice ap np cp) ∧ x.cell? ⟨w.heap.size, 1, none⟩ = some (.slice ab nb cb) ∧ x.cell? ⟨w6.heap.size, 0, none⟩ = some (.slice (some ⟨g2, 0, none⟩) np np) ∧ x.cell? ⟨w6.heap.size, 1, none⟩ = some (.slice (some ⟨h2, 0, none⟩) nb nb) ∧ Below w10.heap.size w10 x)) (by kernel_rfl) ?_ (fun hHeld => ?_)
    · try dsimp only
      exact HSx.out _ ((Below.refl _ _).drew)
    refine wpAnyH_take (i := 0) (oi := ⟨some 27, _, _, _, _, _⟩) (v := ?_) rfl (by kernel_rfl) (by kernel_rfl) (by kernel_rfl) (fun _ _ _ h => h) (Or.inl ⟨by rfl, ?_⟩) (by assumption) ?_
    rotate_left
    · intro w hSw
      try dsimp only at hSw
      go_simp
      try with_reducible rfl
    simp only [Act.put, List.setIfInBounds_toArray, List.set_cons_zero, List.set_cons_succ]
    refine wpAnyH_take (i := 1) (oi := ⟨some 28, _, _, _, _, _⟩) (v := ?_) rfl (by kernel_rfl) (by kernel_rfl) (by kernel_rfl) (fun _ _ _ h => h) (Or.inl ⟨by rfl, ?_⟩) (by assumption) ?_
    rotate_left
    · intro w hSw
      try dsimp only at hSw
      go_simp
      try with_reducible rfl
    simp only [Act.put, List.setIfInBounds_toArray, List.set_cons_zero, List.set_cons_succ]
    refine wpAnyH_ready (rs := [2]) (by kernel_rfl) (by simp) ?_
    refine AllReadyH.cons rfl (fun K hK => ?_) AllReadyH.nil
    go_simp
    go_wp2_with (first | (go_at_call 18; refine (HTo.out _ (acc_w10.out.trans ((hHeld.2.2.2.2).mono acc_w10.out.size))).mono ?_; rintro e w11 ⟨g3, h3, rfl, og3, oh3, gh3, hb11⟩; have b11 := (hHeld.2.2.2.2).trans (hb11.mono (hHeld.2.2.2.2).size)))
    refine hK.out _ _ ?_ (fun hHeld => ?_)
    · try dsimp only
      exact HSx.out _ b11
    clear hK K
    refine wpAnyH_ready (rs := [3]) (by kernel_rfl) (by simp) ?_
    refine AllReadyH.cons rfl (fun K hK => ?_) AllReadyH.nil
    go_simp
    go_wp2_with (first | (go_at_call 19; refine (HEq.out _ g2 h2 g3 h3 (oX_w10.out.row.later (hHeld.2.2.2.2)) og3.row (oY_w10.out.row.later (hHeld.2.2.2.2)) oh3.row).mono ?_; rintro e w12 ⟨rfl, hb12⟩; have b12 := (hHeld.2.2.2.2).trans (hb12.mono (hHeld.2.2.2.2).size)))
    refine hK.out _ _ ?_ (fun hHeld => ?_)
    · try dsimp only
      exact HSx.out _ b12
    clear hK K
    refine wpAnyH_take (i := 4) (oi := ⟨some 31, _, _, _, _, _⟩) (v := ?_) rfl (by kernel_rfl) (by kernel_rfl) (by kernel_rfl) (fun _ _ _ h => h) (Or.inl ⟨by rfl, ?_⟩) (by assumption) ?_
    rotate_left
    · intro w hSw
      try dsimp only at hSw
      go_simp
      try with_reducible rfl
    simp only [Act.put, List.setIfInBounds_toArray, List.set_cons_zero, List.set_cons_succ]
    have HE := hidP (hHeld.2.2.2.2)
    refine wpAnyH_done (by kernel_rfl) ?_ _
    clear hHeld
    have hb12 := HE.out
    clear og3 oh3 gh3 hb11 b11 b12 HSx HE
    have lb0_w12 := (hb12.cell lbL_w10).trans lb0_w10
    have lb1_w12 := (hb12.cell lbL_w10).trans lb1_w10
    have lbF_w12 : ∀ o, w12.frozen? ⟨w.heap.size, o, none⟩ = false := fun o => (hb12.frozen lbL_w10).trans (lbF_w10 o)
    have lbL_w12 : w.heap.size < w12.heap.size := Nat.lt_of_lt_of_le lbL_w10 hb12.size
    have xa0_w12 := (hb12.cell xaL_w10).trans xa0_w10
    have xa1_w12 := (hb12.cell xaL_w10).trans xa1_w10
    have xaF_w12 : ∀ o, w12.frozen? ⟨w6.heap.size, o, none⟩ = false := fun o => (hb12.frozen xaL_w10).trans (xaF_w10 o)
    have xaL_w12 : w6.heap.size < w12.heap.size := Nat.lt_of_lt_of_le xaL_w10 hb12.size
    have oS_w12 := hidP (OwnG.later oS_w10.out hb12)
    have oX_w12 := hidP (OwnG.later oX_w10.out hb12)
    have oY_w12 := hidP (OwnG.later oY_w10.out hb12)
    have oI_w12 := hidP (OwnG.later oI_w10.out hb12)
    have acc_w12 := hidP (acc_w10.out.trans (hb12.mono acc_w10.out.size))
    have sz_w12 : Hid (w10.heap.size ≤ w12.heap.size) := hidP hb12.size
    clear hb12 lb0_w10 lb1_w10 lbF_w10 lbL_w10 xa0_w10 xa1_w10 xaF_w10 xaL_w10 oS_w10 oX_w10 oY_w10 oI_w10 acc_w10
    go_wp2_with fail
    refine (HMk.out w12 g2 h2 _ oX_w12.out oY_w12.out (fun j h1 h2' => by have := gg2.out; simp [Value.ownBlock] at h1 h2'; omega)).mono ?_
    rintro e w13 ⟨rfl, om1, om2, wm, hgm, hgn⟩
    clear om1 om2
    clear oX_w12
    clear oY_w12
    clear xa0_w12 xa1_w12 xaF_w12 xaL_w12
    have nelb : ∀ k, (Value.slice (some ⟨g2, 0, none⟩) np np).ownBlock = some k → k ≠ w.heap.size := fun k hk => by have h5 := lhX.out k hk; have := as_W1.out; have := sz_W1.out; have := sz_w2.out; have := sz_w3.out; have := sz_w4.out; have := sz_w6.out; have := as_W7.out; have := sz_W7.out; have := sz_w8.out; have := sz_w10.out; have := sz_w12.out; omega
    have lb0_wm := cell_grown hgm lb0_w12 nelb
    have lb1_wm := cell_grown hgm lb1_w12 nelb
    have lbF_wm : ∀ o, wm.frozen? ⟨w.heap.size, o, none⟩ = false := fun o => frz_grown hgm lbL_w12 (lbF_w12 o) nelb
    have lbL_wm : w.heap.size < wm.heap.size := Nat.lt_of_lt_of_le lbL_w12 hgm.size
    have oS_wm := hidP (OwnG.grown oS_w12.out hgm (fun j hj he => by have h5 := lhS.out j hj; have h6 := lhX.out j he; have := as_W1.out; have := sz_W1.out; have := sz_w2.out; have := sz_w3.out; have := sz_w4.out; have := sz_w6.out; have := as_W7.out; have := sz_W7.out; have := sz_w8.out; have := sz_w10.out; have := sz_w12.out; omega))
    have oI_wm := hidP (OwnG.grown oI_w12.out hgm (fun j hj he => by have h5 := lhI.out j hj; have h6 := lhX.out j he; have := as_W1.out; have := sz_W1.out; have := sz_w2.out; have := sz_w3.out; have := sz_w4.out; have := sz_w6.out; have := as_W7.out; have := sz_W7.out; have := sz_w8.out; have := sz_w10.out; have := sz_w12.out; omega))
    have acc_wm := hidP (Below.grown acc_w12.out hgm acc_w12.out.size (fun k hk => by have h5 := lhX.out k hk; have := as_W1.out; have := sz_W1.out; have := sz_w2.out; have := sz_w3.out; have := sz_w4.out; have := sz_w6.out; have := as_W7.out; have := sz_W7.out; have := sz_w8.out; have := sz_w10.out; have := sz_w12.out; omega))
    have sz_wm : Hid (w12.heap.size ≤ wm.heap.size) := hidP hgm.size
    clear hgm lb0_w12 lb1_w12 lbF_w12 lbL_w12 nelb oS_w12 oI_w12 acc_w12
    have nelb : ∀ k, (Value.slice (some ⟨h2, 0, none⟩) nb nb).ownBlock = some k → k ≠ w.heap.size := fun k hk => by have h5 := lhY.out k hk; have := as_W1.out; have := sz_W1.out; have := sz_w2.out; have := sz_w3.out; have := sz_w4.out; have := sz_w6.out; have := as_W7.out; have := sz_W7.out; have := sz_w8.out; have := sz_w10.out; have := sz_w12.out; have := sz_wm.out; omega
    have lb0_w13 := cell_grown hgn lb0_wm nelb
    have lb1_w13 := cell_grown hgn lb1_wm nelb
    have lbF_w13 : ∀ o, w13.frozen? ⟨w.heap.size, o, none⟩ = false := fun o => frz_grown hgn lbL_wm (lbF_wm o) nelb
    have lbL_w13 : w.heap.size < w13.heap.size := Nat.lt_of_lt_of_le lbL_wm hgn.size
    have oS_w13 := hidP (OwnG.grown oS_wm.out hgn (fun j hj he => by have h5 := lhS.out j hj; have h6 := lhY.out j he; have := as_W1.out; have := sz_W1.out; have := sz_w2.out; have := sz_w3.out; have := sz_w4.out; have := sz_w6.out; have := as_W7.out; have := sz_W7.out; have := sz_w8.out; have := sz_w10.out; have := sz_w12.out; have := sz_wm.out; omega))
    have oI_w13 := hidP (OwnG.grown oI_wm.out hgn (fun j hj he => by have h5 := lhI.out j hj; have h6 := lhY.out j he; have := as_W1.out; have := sz_W1.out; have := sz_w2.out; have := sz_w3.out; have := sz_w4.out; have := sz_w6.out; have := as_W7.out; have := sz_W7.out; have := sz_w8.out; have := sz_w10.out; have := sz_w12.out; have := sz_wm.out; omega))
    have acc_w13 := hidP (Below.grown acc_wm.out hgn acc_wm.out.size (fun k hk => by have h5 := lhY.out k hk; have := as_W1.out; have := sz_W1.out; have := sz_w2.out; have := sz_w3.out; have := sz_w4.out; have := sz_w6.out; have := as_W7.out; have := sz_W7.out; have := sz_w8.out; have := sz_w10.out; have := sz_w12.out; have := sz_wm.out; omega))
    have sz_w13 : Hid (wm.heap.size ≤ w13.heap.size) := hidP hgn.size
    clear hgn lb0_wm lb1_wm lbF_wm lbL_wm nelb oS_wm oI_wm acc_wm
    go_wp2_with fail
    refine (HEr.out _ a8 c8 a4 c4 oI_w13.out.row oS_w13.out.row).mono ?_
    rintro e w14 ⟨rfl, hb_w14⟩
    have lb0_w14 := (hb_w14.cell lbL_w13).trans lb0_w13
    have lb1_w14 := (hb_w14.cell lbL_w13).trans lb1_w13
    have lbF_w14 : ∀ o, w14.frozen? ⟨w.heap.size, o, none⟩ = false := fun o => (hb_w14.frozen lbL_w13).trans (lbF_w13 o)
    have lbL_w14 : w.heap.size < w14.heap.size := Nat.lt_of_lt_of_le lbL_w13 hb_w14.size
    have oS_w14 := hidP (OwnG.later oS_w13.out hb_w14)
    have oI_w14 := hidP (OwnG.later oI_w13.out hb_w14)
    have acc_w14 := hidP (acc_w13.out.trans (hb_w14.mono acc_w13.out.size))
    have sz_w14 : Hid (w13.heap.size ≤ w14.heap.size) := hidP hb_w14.size
    clear hb_w14 lb0_w13 lb1_w13 lbF_w13 lbL_w13 oS_w13 oI_w13 acc_w13
    go_wp2_with fail
    refine (HMr.out w14 a8 c8 _ oI_w14.out).mono ?_
    rintro e w15 ⟨rfl, om3, hgi⟩
    have OM := hidP om3
    clear om3
    clear oI_w14
    have nelb : ∀ k, (Value.slice a8 NZ c8).ownBlock = some k → k ≠ w.heap.size := fun k hk => by have h5 := lhI.out k hk; have := as_W1.out; have := sz_W1.out; have := sz_w2.out; have := sz_w3.out; have := sz_w4.out; have := sz_w6.out; have := as_W7.out; have := sz_W7.out; have := sz_w8.out; have := sz_w10.out; have := sz_w12.out; have := sz_wm.out; have := sz_w13.out; have := sz_w14.out; omega
    have lb0_w15 := cell_grown hgi lb0_w14 nelb
    have lb1_w15 := cell_grown hgi lb1_w14 nelb
    have lbF_w15 : ∀ o, w15.frozen? ⟨w.heap.size, o, none⟩ = false := fun o => frz_grown hgi lbL_w14 (lbF_w14 o) nelb
    have lbL_w15 : w.heap.size < w15.heap.size := Nat.lt_of_lt_of_le lbL_w14 hgi.size
    have oS_w15 := hidP (OwnG.grown oS_w14.out hgi (fun j hj he => by have h5 := lhS.out j hj; have h6 := lhI.out j he; have := as_W1.out; have := sz_W1.out; have := sz_w2.out; have := sz_w3.out; have := sz_w4.out; have := sz_w6.out; have := as_W7.out; have := sz_W7.out; have := sz_w8.out; have := sz_w10.out; have := sz_w12.out; have := sz_wm.out; have := sz_w13.out; have := sz_w14.out; omega))
    have acc_w15 := hidP (Below.grown acc_w14.out hgi acc_w14.out.size (fun k hk => by have h5 := lhI.out k hk; have := as_W1.out; have := sz_W1.out; have := sz_w2.out; have := sz_w3.out; have := sz_w4.out; have := sz_w6.out; have := as_W7.out; have := sz_W7.out; have := sz_w8.out; have := sz_w10.out; have := sz_w12.out; have := sz_wm.out; have := sz_w13.out; have := sz_w14.out; omega))
    have sz_w15 : Hid (w14.heap.size ≤ w15.heap.size) := hidP hgi.size
    clear hgi lb0_w14 lb1_w14 lbF_w14 lbL_w14 nelb oS_w14 acc_w14
    have oI_w15 := hidP OM.out
    clear OM
    go_wp2_with fail
    refine (HHd.out _ a8 c8 oI_w15.out.row).mono ?_
    rintro e w16 ⟨rfl, hb_w16⟩
    have lb0_w16 := (hb_w16.cell lbL_w15).trans lb0_w15
    have lb1_w16 := (hb_w16.cell lbL_w15).trans lb1_w15
    have lbF_w16 : ∀ o, w16.frozen? ⟨w.heap.size, o, none⟩ = false := fun o => (hb_w16.frozen lbL_w15).trans (lbF_w15 o)
    have lbL_w16 : w.heap.size < w16.heap.size := Nat.lt_of_lt_of_le lbL_w15 hb_w16.size
    have oS_w16 := hidP (OwnG.later oS_w15.out hb_w16)
    have oI_w16 := hidP (OwnG.later oI_w15.out hb_w16)
    have acc_w16 := hidP (acc_w15.out.trans (hb_w16.mono acc_w15.out.size))
    have sz_w16 : Hid (w15.heap.size ≤ w16.heap.size) := hidP hb_w16.size
    clear hb_w16 lb0_w15 lb1_w15 lbF_w15 lbL_w15 oS_w15 oI_w15 acc_w15
    go_wp2_with fail
    refine (HTo.out _ acc_w16.out).mono ?_
    rintro e w17 ⟨g4, h4, rfl, og4, oh4, gh4, hb_w17⟩
    have OX := hidP (And.intro og4 (And.intro oh4 gh4))
    clear og4 oh4 gh4
    have lb0_w17 := (hb_w17.cell lbL_w16).trans lb0_w16
    have lb1_w17 := (hb_w17.cell lbL_w16).trans lb1_w16
    have lbF_w17 : ∀ o, w17.frozen? ⟨w.heap.size, o, none⟩ = false := fun o => (hb_w17.frozen lbL_w16).trans (lbF_w16 o)
    have lbL_w17 : w.heap.size < w17.heap.size := Nat.lt_of_lt_of_le lbL_w16 hb_w17.size
    have oS_w17 := hidP (OwnG.later oS_w16.out hb_w17)
    have oI_w17 := hidP (OwnG.later oI_w16.out hb_w17)
    have acc_w17 := hidP (acc_w16.out.trans (hb_w17.mono acc_w16.out.size))
    have sz_w17 : Hid (w16.heap.size ≤ w17.heap.size) := hidP hb_w17.size
    clear hb_w17 lb0_w16 lb1_w16 lbF_w16 lbL_w16 oS_w16 oI_w16 acc_w16
    have oX_w17 := hidP (OX.out.1)
    have lhX : Hid (∀ k, (Value.slice (some ⟨g4, 0, none⟩) np np).ownBlock = some k → w16.heap.size ≤ k ∧ k < w17.heap.size) := hidP (fun k hk => OwnG.lt oX_w17.out k hk)
    have oY_w17 := hidP (OX.out.2.1)
    have lhY : Hid (∀ k, (Value.slice (some ⟨h4, 0, none⟩) nb nb).ownBlock = some k → w16.heap.size ≤ k ∧ k < w17.heap.size) := hidP (fun k hk => OwnG.lt oY_w17.out k hk)
    have gg4 := hidP OX.out.2.2
    clear OX
    go_wp2_with fail
    refine (HIm.out g4 h4 _ oX_w17.out.row oY_w17.out.row).mono ?_
    rintro e w18 ⟨a18, c18, rfl, og18, hb18⟩
    have OX := hidP og18
    clear og18
    have lb0_w18 := (hb18.cell lbL_w17).trans lb0_w17
    have lb1_w18 := (hb18.cell lbL_w17).trans lb1_w17
    have lbF_w18 : ∀ o, w18.frozen? ⟨w.heap.size, o, none⟩ = false := fun o => (hb18.frozen lbL_w17).trans (lbF_w17 o)
    have lbL_w18 : w.heap.size < w18.heap.size := Nat.lt_of_lt_of_le lbL_w17 hb18.size
    have oS_w18 := hidP (OwnG.later oS_w17.out hb18)
    have oI_w18 := hidP (OwnG.later oI_w17.out hb18)
    have oX_w18 := hidP (OwnG.later oX_w17.out hb18)
    have oY_w18 := hidP (OwnG.later oY_w17.out hb18)
    have acc_w18 := hidP (acc_w17.out.trans (hb18.mono acc_w17.out.size))
    have sz_w18 : Hid (w17.heap.size ≤ w18.heap.size) := hidP hb18.size
    clear hb18 lb0_w17 lb1_w17 lbF_w17 lbL_w17 oS_w17 oI_w17 oX_w17 oY_w17 acc_w17
    have oU_w18 := hidP (OX.out)
    have lhU : Hid (∀ k, (Value.slice a18 NZ c18).ownBlock = some k → w17.heap.size ≤ k ∧ k < w18.heap.size) := hidP (fun k hk => OwnG.lt oU_w18.out k hk)
    clear OX
    go_wp2_with fail
    clear oX_w18
    clear oY_w18
    refine (HEr.out _ a18 c18 a4 c4 oU_w18.out.row oS_w18.out.row).mono ?_
    rintro e w20 ⟨rfl, hb_w20⟩
    have lb0_w20 := (hb_w20.cell lbL_w18).trans lb0_w18
    have lb1_w20 := (hb_w20.cell lbL_w18).trans lb1_w18
    have lbF_w20 : ∀ o, w20.frozen? ⟨w.heap.size, o, none⟩ = false := fun o => (hb_w20.frozen lbL_w18).trans (lbF_w18 o)
    have lbL_w20 : w.heap.size < w20.heap.size := Nat.lt_of_lt_of_le lbL_w18 hb_w20.size
    have oS_w20 := hidP (OwnG.later oS_w18.out hb_w20)
    have oI_w20 := hidP (OwnG.later oI_w18.out hb_w20)
    have oU_w20 := hidP (OwnG.later oU_w18.out hb_w20)
    have acc_w20 := hidP (acc_w18.out.trans (hb_w20.mono acc_w18.out.size))
    have sz_w20 : Hid (w18.heap.size ≤ w20.heap.size) := hidP hb_w20.size
    clear hb_w20 lb0_w18 lb1_w18 lbF_w18 lbL_w18 oS_w18 oI_w18 oU_w18 acc_w18
    go_wp2_with fail
    refine (HHd.out _ a8 c8 oI_w20.out.row).mono ?_
    rintro e w21 ⟨rfl, hb_w21⟩
    have lb0_w21 := (hb_w21.cell lbL_w20).trans lb0_w20
    have lb1_w21 := (hb_w21.cell lbL_w20).trans lb1_w20
    have lbF_w21 : ∀ o, w21.frozen? ⟨w.heap.size, o, none⟩ = false := fun o => (hb_w21.frozen lbL_w20).trans (lbF_w20 o)
    have lbL_w21 : w.heap.size < w21.heap.size := Nat.lt_of_lt_of_le lbL_w20 hb_w21.size
    have oS_w21 := hidP (OwnG.later oS_w20.out hb_w21)
    have oI_w21 := hidP (OwnG.later oI_w20.out hb_w21)
    have oU_w21 := hidP (OwnG.later oU_w20.out hb_w21)
    have acc_w21 := hidP (acc_w20.out.trans (hb_w21.mono acc_w20.out.size))
    have sz_w21 : Hid (w20.heap.size ≤ w21.heap.size) := hidP hb_w21.size
    clear hb_w21 lb0_w20 lb1_w20 lbF_w20 lbL_w20 oS_w20 oI_w20 oU_w20 acc_w20
    go_wp2_with fail
    go_ret
    exact ⟨rfl, acc_w21.out⟩
  · rw [szT_no ht] at HSz
    clear hP hK hnp hnb ht
    go_enter Try.func7, Try.ntmps7
    go_wp2_with fail
    refine (HSz.out _).mono ?_
    rintro e w2 ⟨rfl, hb2⟩
    go_wp2_with fail
    go_ret
    exact ⟨rfl, (alloc_below w _).trans (hb2.mono (alloc_below w _).size)⟩

set_option maxRecDepth 100000 in
theorem putGroup_lifted (os : Os) (started : os.Started) (H : Type) (enc : TypeId × Value → H) :
    ReturnsInHanded {} Try.checked os 7 .any (Rows.fnExactPutGroupSpec.pre6 enc Try.prog Try.f7 Rows.fnExactPutGroupRow.domain false) (Rows.fnExactPutGroupSpec.post enc Try.prog Try.f7 false true false false) := by
  refine returnsInHanded_of_change (C := Try.checked) Try.ownG12 started (by kernel_rfl) Try.func7
    (ChangeSpec.witness6 (enc := enc) (C := Try.checked) false ⟨#[], #[.agg #[.slice none 0 0, .slice none 0 0]], []⟩ 8 (by kernel_rfl) (by kernel_rfl) (by kernel_rfl) (by kernel_rfl)) ?_
  intro W base args ds gs before hval0 hW _ _
  have hval : ∀ (j : Nat) t v, Try.f7.params[j]? = some t → args[j]? = some v → Value.okWide Try.prog W .any base t v := hval0
  have hW' := hW
  obtain ⟨p, q, hA0, hV, rfl, _, _⟩ := hW
  have hA : DataW.TrodAll enc Try.prog W 0 (fun _ => true) true Try.f7.params.toList args.toList ds p := hA0
  rw [Try.params7] at hA hval
  obtain ⟨v0, d0, rfl, rfl, h0⟩ := trodAll_one hA
  obtain ⟨rfl, rfl⟩ := trodVars_none hV
  obtain ⟨ap, np, cp, ab, nb, cb, ps, bs, rfl, hnp, hnb, hP, hK, h9, h9'⟩ := openGroup (hval 0 34 v0 rfl rfl) h0
  clear hA0 hval0
  simp only [List.append_nil] at hW'
  have hlt0 : ∀ x ∈ p, x.block < W.heap.size := fun x hx => by simpa using hW'.lt x hx
  refine (lawPutGroup ap np cp ab nb cb ps bs W hnp hnb hP hK h9 h9').mono fun e W' ⟨he, hb⟩ => ?_
  subst he
  exact ⟨_, rfl, ⟨_, _, _, [], p, [], hW', trodAll_mk1 (shut_bool Try.underlying4 true), trodAll_mk1 (Below.trod Try.laidOutG (by kernel_rfl) (of_decide_eq_true (by kernel_rfl)) h0 hb hlt0), rfl, hb.frame _, fun h => by cases h⟩⟩

theorem putGroup_holds : Rows.FnExactPutGroupSaid :=
  OpenClaim.holds_of_wide 7 Try.f7 rfl rfl rfl rfl rfl rfl rfl ⟨rfl, rfl, rfl, rfl, rfl⟩ rfl rfl rfl rfl rfl (by kernel_rfl) Try.func7 (by kernel_rfl)
    (of_decide_eq_true (by kernel_rfl)) (by unfold Func.isWrapper; rw [if_neg (of_decide_eq_false (by kernel_rfl))]; exact ⟨rfl, rfl⟩)
    (fun os started H enc _ => putGroup_lifted os started H enc)

end Go.Proofs.Ytnngbeoeocbofaa
