/-
  For every group the two KeepNew answer alike, in rows of their own, and leave the group as it was, so the exact law of KeepNew returns true; no condition.
-/
import Derived.Test.YtdddbnlbbheiiaaV13KN
import Derived.ProofKit
import Derived.Lib.SmallJoins
import Derived.Carry
import Derived.Deep.Slices
import Derived.ChangeMaps5
namespace Go.Proofs.Ytdddbnlbbheiiaa
open Go.ChangeShapes Go.WideShapes Go.ChangeAt Go.RowKit Go.Joins Go.Deep

set_option maxRecDepth 10000 in
set_option maxHeartbeats 8000000 in
theorem lawKeepNew (ap : Option Addr) (np cp : Nat) (ab : Option Addr) (nb cb : Nat) (ps bs : List Int) (w : World) (hnp : np = ps.length) (hnb : nb = bs.length) (hP : RowG KI w ap ps) (hK : RowG KI w ab bs) (h9 : np ≤ 9223372036854775807) (h9' : nb ≤ 9223372036854775807) :
    Calls Try.prog 5 #[.agg #[.slice ap np cp, .slice ab nb cb]] w fun e w' => e = .returned (.bool true) ∧ Below w.heap.size w w' := by
  have HSz := hidP (fun W => szGroup_any ap np cp ab nb cb W h9 h9')
  by_cases ht : (np : Int) + (nb : Int) ≤ 1048576
  · rw [szT_yes ht] at HSz
    have hl : np ≤ 1048576 := by omega
    have hl' : nb ≤ 1048576 := by omega
    have HTo := hidP (fun W h => toGroup_any ap np cp ab nb cb ps bs W hnp hnb (hP.later h) (hK.later h) hl hl')
    obtain ⟨PS, NP, BS, NB, hNP, hNB, hL1, hL2, hSpec, hImpl⟩ := newk_both np nb ps bs hnp hnb hl hl'
    have HSp := hidP hSpec
    have HIm := hidP hImpl
    have HEq := hidP (fun W g h g' h' e1 e2 e3 e4 => eqGroup_same (some ⟨g, 0, none⟩) (some ⟨g', 0, none⟩) np np np (some ⟨h, 0, none⟩) (some ⟨h', 0, none⟩) nb nb nb ps bs W hnp hnb e1 e2 e3 e4 (by omega) (by omega))
    have HEr := hidP (fun W a c b d a' c' b' d' e1 e2 e3 e4 => eqKeepN a a' NP c c' b b' NB d d' PS BS W hNP hNB e1 e2 e3 e4 (by omega) (by omega))
    have HMk := hidP (fun W g h B o1 o2 ne => markGroup_any (some ⟨g, 0, none⟩) np np (some ⟨h, 0, none⟩) nb nb ps bs B 1 W hnp hnb o1 o2 ne (by omega) (by omega) (by omega) (by omega))
    have HMr := hidP (fun W a c b d B o1 o2 ne => markKeepN a NP c b NB d PS BS B W hNP hNB o1 o2 ne (by omega) (by omega))
    have HHd := hidP (fun W a c b d e1 e2 => heldKeepN a NP c b NB d W e1 e2 (by omega) (by omega))
    have d1 : decide (1048576 - ((np : Int) + (nb : Int)) < 0) = false := decide_eq_false (by omega)
    have d2 : ¬ (1048576 - ((np : Int) + (nb : Int)) < 0) := by omega
    generalize 1048576 - ((np : Int) + (nb : Int)) = z at *
    have d3 : decide ((1 : Int) + (np : Int) + (nb : Int) < 0) = false := decide_eq_false (by omega)
    have d4 : ¬ ((1 : Int) + (np : Int) + (nb : Int) < 0) := by omega
    have d5 : decide ((1 : Int) + (NP : Int) + (NB : Int) < 0) = false := decide_eq_false (by omega)
    have d6 : ¬ ((1 : Int) + (NP : Int) + (NB : Int) < 0) := by omega
    clear hP hK hnp hnb ht hNP hNB hSpec hImpl
    go_enter Try.func5, Try.ntmps5
    go_wp2_with fail
    obtain ⟨lb0_W1, lb1_W1⟩ := box2D w 47 (.slice ap np cp) (.slice ab nb cb)
    have lbF_W1 : ∀ o, (w.alloc (.cells #[.slice ap np cp, .slice ab nb cb] 47)).frozen? ⟨w.heap.size, o, none⟩ = false := fun o => by simp [go_sem]
    have lbL_W1 : w.heap.size < (w.alloc (.cells #[.slice ap np cp, .slice ab nb cb] 47)).heap.size := by simp
    have ab_W1 := alloc_below w (.cells #[.slice ap np cp, .slice ab nb cb] 47)
    have as_W1 : Hid ((w.alloc (.cells #[.slice ap np cp, .slice ab nb cb] 47)).heap.size = w.heap.size + 1) := hidP (by simp)
    generalize w.alloc (.cells #[.slice ap np cp, .slice ab nb cb] 47) = W1 at *
    have acc_W1 := hidP (ab_W1)
    have sz_W1 : Hid (w.heap.size ≤ W1.heap.size) := hidP ab_W1.size
    clear ab_W1 
    refine (HSz.out _).mono ?_
    rintro e w2 ⟨rfl, hb2⟩
    have lb0_w2 := (hb2.cell lbL_W1).trans lb0_W1
    have lb1_w2 := (hb2.cell lbL_W1).trans lb1_W1
    have lbF_w2 : ∀ o, w2.frozen? ⟨w.heap.size, o, none⟩ = false := fun o => (hb2.frozen lbL_W1).trans (lbF_W1 o)
    have lbL_w2 : w.heap.size < w2.heap.size := Nat.lt_of_lt_of_le lbL_W1 hb2.size
    have acc_w2 := hidP (acc_W1.out.trans (hb2.mono acc_W1.out.size))
    have sz_w2 : Hid (W1.heap.size ≤ w2.heap.size) := hidP hb2.size
    clear hb2 lb0_W1 lb1_W1 lbF_W1 lbL_W1 acc_W1
    go_wp2_with fail
    refine (HTo.out _ acc_w2.out).mono ?_
    rintro e w3 ⟨g1, h1, rfl, og1, oh1, gh1, hb_w3⟩
    have OX := hidP (And.intro og1 (And.intro oh1 gh1))
    clear og1 oh1 gh1
    have lb0_w3 := (hb_w3.cell lbL_w2).trans lb0_w2
    have lb1_w3 := (hb_w3.cell lbL_w2).trans lb1_w2
    have lbF_w3 : ∀ o, w3.frozen? ⟨w.heap.size, o, none⟩ = false := fun o => (hb_w3.frozen lbL_w2).trans (lbF_w2 o)
    have lbL_w3 : w.heap.size < w3.heap.size := Nat.lt_of_lt_of_le lbL_w2 hb_w3.size
    have acc_w3 := hidP (acc_w2.out.trans (hb_w3.mono acc_w2.out.size))
    have sz_w3 : Hid (w2.heap.size ≤ w3.heap.size) := hidP hb_w3.size
    clear hb_w3 lb0_w2 lb1_w2 lbF_w2 lbL_w2 acc_w2
    have oX_w3 := hidP (OX.out.1)
    have lhX : Hid (∀ k, (Value.slice (some ⟨g1, 0, none⟩) np np).ownBlock = some k → w2.heap.size ≤ k ∧ k < w3.heap.size) := hidP (fun k hk => OwnG.lt oX_w3.out k hk)
    have oY_w3 := hidP (OX.out.2.1)
    have lhY : Hid (∀ k, (Value.slice (some ⟨h1, 0, none⟩) nb nb).ownBlock = some k → w2.heap.size ≤ k ∧ k < w3.heap.size) := hidP (fun k hk => OwnG.lt oY_w3.out k hk)
    have gg1 := hidP OX.out.2.2
    clear OX
    go_wp2_with fail
    refine (HSp.out g1 h1 _ oX_w3.out.row oY_w3.out.row).mono ?_
    rintro e w4 ⟨a4, c4, b4, d4, rfl, og4, oh4, nq4, hb4⟩
    have OX := hidP (And.intro og4 (And.intro oh4 nq4))
    clear og4 oh4 nq4
    have lb0_w4 := (hb4.cell lbL_w3).trans lb0_w3
    have lb1_w4 := (hb4.cell lbL_w3).trans lb1_w3
    have lbF_w4 : ∀ o, w4.frozen? ⟨w.heap.size, o, none⟩ = false := fun o => (hb4.frozen lbL_w3).trans (lbF_w3 o)
    have lbL_w4 : w.heap.size < w4.heap.size := Nat.lt_of_lt_of_le lbL_w3 hb4.size
    have oX_w4 := hidP (OwnG.later oX_w3.out hb4)
    have oY_w4 := hidP (OwnG.later oY_w3.out hb4)
    have acc_w4 := hidP (acc_w3.out.trans (hb4.mono acc_w3.out.size))
    have sz_w4 : Hid (w3.heap.size ≤ w4.heap.size) := hidP hb4.size
    clear hb4 lb0_w3 lb1_w3 lbF_w3 lbL_w3 oX_w3 oY_w3 acc_w3
    have oS_w4 := hidP (OX.out.1)
    have lhS : Hid (∀ k, (Value.slice a4 NP c4).ownBlock = some k → w3.heap.size ≤ k ∧ k < w4.heap.size) := hidP (fun k hk => OwnG.lt oS_w4.out k hk)
    have oT_w4 := hidP (OX.out.2.1)
    have lhT : Hid (∀ k, (Value.slice b4 NB d4).ownBlock = some k → w3.heap.size ≤ k ∧ k < w4.heap.size) := hidP (fun k hk => OwnG.lt oT_w4.out k hk)
    have ne4 := hidP OX.out.2.2
    clear OX
    go_wp2_with fail
    obtain ⟨sp0_W5, sp1_W5, sp2_W5, sp3_W5, sp4_W5, sp5_W5, sp6_W5, sp7_W5⟩ := box8K w4 29 (.int .i64 0) (.int .i64 0) (.int .i64 0) (.int .i64 0) (.slice a4 NP c4) (.slice b4 NB d4) (.slice none 0 0) (.slice none 0 0)
    have spF_W5 : ∀ o, (w4.alloc (.cells #[.int .i64 0, .int .i64 0, .int .i64 0, .int .i64 0, .slice a4 NP c4, .slice b4 NB d4, .slice none 0 0, .slice none 0 0] 29)).frozen? ⟨w4.heap.size, o, none⟩ = false := fun o => by simp [go_sem]
    have spL_W5 : w4.heap.size < (w4.alloc (.cells #[.int .i64 0, .int .i64 0, .int .i64 0, .int .i64 0, .slice a4 NP c4, .slice b4 NB d4, .slice none 0 0, .slice none 0 0] 29)).heap.size := by simp
    have ab_W5 := alloc_below w4 (.cells #[.int .i64 0, .int .i64 0, .int .i64 0, .int .i64 0, .slice a4 NP c4, .slice b4 NB d4, .slice none 0 0, .slice none 0 0] 29)
    have as_W5 : Hid ((w4.alloc (.cells #[.int .i64 0, .int .i64 0, .int .i64 0, .int .i64 0, .slice a4 NP c4, .slice b4 NB d4, .slice none 0 0, .slice none 0 0] 29)).heap.size = w4.heap.size + 1) := hidP (by simp)
    generalize w4.alloc (.cells #[.int .i64 0, .int .i64 0, .int .i64 0, .int .i64 0, .slice a4 NP c4, .slice b4 NB d4, .slice none 0 0, .slice none 0 0] 29) = W5 at *
    have lb0_W5 := (ab_W5.cell lbL_w4).trans lb0_w4
    have lb1_W5 := (ab_W5.cell lbL_w4).trans lb1_w4
    have lbF_W5 : ∀ o, W5.frozen? ⟨w.heap.size, o, none⟩ = false := fun o => (ab_W5.frozen lbL_w4).trans (lbF_w4 o)
    have lbL_W5 : w.heap.size < W5.heap.size := Nat.lt_of_lt_of_le lbL_w4 ab_W5.size
    have oX_W5 := hidP (OwnG.later oX_w4.out ab_W5)
    have oY_W5 := hidP (OwnG.later oY_w4.out ab_W5)
    have oS_W5 := hidP (OwnG.later oS_w4.out ab_W5)
    have oT_W5 := hidP (OwnG.later oT_w4.out ab_W5)
    have acc_W5 := hidP (acc_w4.out.trans (ab_W5.mono acc_w4.out.size))
    have sz_W5 : Hid (w4.heap.size ≤ W5.heap.size) := hidP ab_W5.size
    clear ab_W5 lb0_w4 lb1_w4 lbF_w4 lbL_w4 oX_w4 oY_w4 oS_w4 oT_w4 acc_w4
    clear oX_W5
    clear oY_W5
    clear lhX lhY gg1 ne4
    refine (HTo.out _ acc_W5.out).mono ?_
    rintro e w6 ⟨g2, h2, rfl, og2, oh2, gh2, hb_w6⟩
    have OX := hidP (And.intro og2 (And.intro oh2 gh2))
    clear og2 oh2 gh2
    have lb0_w6 := (hb_w6.cell lbL_W5).trans lb0_W5
    have lb1_w6 := (hb_w6.cell lbL_W5).trans lb1_W5
    have lbF_w6 : ∀ o, w6.frozen? ⟨w.heap.size, o, none⟩ = false := fun o => (hb_w6.frozen lbL_W5).trans (lbF_W5 o)
    have lbL_w6 : w.heap.size < w6.heap.size := Nat.lt_of_lt_of_le lbL_W5 hb_w6.size
    have sp0_w6 := (hb_w6.cell spL_W5).trans sp0_W5
    have sp1_w6 := (hb_w6.cell spL_W5).trans sp1_W5
    have sp2_w6 := (hb_w6.cell spL_W5).trans sp2_W5
    have sp3_w6 := (hb_w6.cell spL_W5).trans sp3_W5
    have sp4_w6 := (hb_w6.cell spL_W5).trans sp4_W5
    have sp5_w6 := (hb_w6.cell spL_W5).trans sp5_W5
    have sp6_w6 := (hb_w6.cell spL_W5).trans sp6_W5
    have sp7_w6 := (hb_w6.cell spL_W5).trans sp7_W5
    have spF_w6 : ∀ o, w6.frozen? ⟨w4.heap.size, o, none⟩ = false := fun o => (hb_w6.frozen spL_W5).trans (spF_W5 o)
    have spL_w6 : w4.heap.size < w6.heap.size := Nat.lt_of_lt_of_le spL_W5 hb_w6.size
    have oS_w6 := hidP (OwnG.later oS_W5.out hb_w6)
    have oT_w6 := hidP (OwnG.later oT_W5.out hb_w6)
    have acc_w6 := hidP (acc_W5.out.trans (hb_w6.mono acc_W5.out.size))
    have sz_w6 : Hid (W5.heap.size ≤ w6.heap.size) := hidP hb_w6.size
    clear hb_w6 lb0_W5 lb1_W5 lbF_W5 lbL_W5 sp0_W5 sp1_W5 sp2_W5 sp3_W5 sp4_W5 sp5_W5 sp6_W5 sp7_W5 spF_W5 spL_W5 oS_W5 oT_W5 acc_W5
    have oX_w6 := hidP (OX.out.1)
    have lhX : Hid (∀ k, (Value.slice (some ⟨g2, 0, none⟩) np np).ownBlock = some k → W5.heap.size ≤ k ∧ k < w6.heap.size) := hidP (fun k hk => OwnG.lt oX_w6.out k hk)
    have oY_w6 := hidP (OX.out.2.1)
    have lhY : Hid (∀ k, (Value.slice (some ⟨h2, 0, none⟩) nb nb).ownBlock = some k → W5.heap.size ≤ k ∧ k < w6.heap.size) := hidP (fun k hk => OwnG.lt oY_w6.out k hk)
    have gg2 := hidP OX.out.2.2
    clear OX
    go_wp2_with fail
    obtain ⟨xa0_W7, xa1_W7⟩ := box2D w6 26 (.slice (some ⟨g2, 0, none⟩) np np) (.slice (some ⟨h2, 0, none⟩) nb nb)
    have xaF_W7 : ∀ o, (w6.alloc (.cells #[.slice (some ⟨g2, 0, none⟩) np np, .slice (some ⟨h2, 0, none⟩) nb nb] 26)).frozen? ⟨w6.heap.size, o, none⟩ = false := fun o => by simp [go_sem]
    have xaL_W7 : w6.heap.size < (w6.alloc (.cells #[.slice (some ⟨g2, 0, none⟩) np np, .slice (some ⟨h2, 0, none⟩) nb nb] 26)).heap.size := by simp
    have ab_W7 := alloc_below w6 (.cells #[.slice (some ⟨g2, 0, none⟩) np np, .slice (some ⟨h2, 0, none⟩) nb nb] 26)
    have as_W7 : Hid ((w6.alloc (.cells #[.slice (some ⟨g2, 0, none⟩) np np, .slice (some ⟨h2, 0, none⟩) nb nb] 26)).heap.size = w6.heap.size + 1) := hidP (by simp)
    generalize w6.alloc (.cells #[.slice (some ⟨g2, 0, none⟩) np np, .slice (some ⟨h2, 0, none⟩) nb nb] 26) = W7 at *
    have lb0_W7 := (ab_W7.cell lbL_w6).trans lb0_w6
    have lb1_W7 := (ab_W7.cell lbL_w6).trans lb1_w6
    have lbF_W7 : ∀ o, W7.frozen? ⟨w.heap.size, o, none⟩ = false := fun o => (ab_W7.frozen lbL_w6).trans (lbF_w6 o)
    have lbL_W7 : w.heap.size < W7.heap.size := Nat.lt_of_lt_of_le lbL_w6 ab_W7.size
    have sp0_W7 := (ab_W7.cell spL_w6).trans sp0_w6
    have sp1_W7 := (ab_W7.cell spL_w6).trans sp1_w6
    have sp2_W7 := (ab_W7.cell spL_w6).trans sp2_w6
    have sp3_W7 := (ab_W7.cell spL_w6).trans sp3_w6
    have sp4_W7 := (ab_W7.cell spL_w6).trans sp4_w6
    have sp5_W7 := (ab_W7.cell spL_w6).trans sp5_w6
    have sp6_W7 := (ab_W7.cell spL_w6).trans sp6_w6
    have sp7_W7 := (ab_W7.cell spL_w6).trans sp7_w6
    have spF_W7 : ∀ o, W7.frozen? ⟨w4.heap.size, o, none⟩ = false := fun o => (ab_W7.frozen spL_w6).trans (spF_w6 o)
    have spL_W7 : w4.heap.size < W7.heap.size := Nat.lt_of_lt_of_le spL_w6 ab_W7.size
    have oS_W7 := hidP (OwnG.later oS_w6.out ab_W7)
    have oT_W7 := hidP (OwnG.later oT_w6.out ab_W7)
    have oX_W7 := hidP (OwnG.later oX_w6.out ab_W7)
    have oY_W7 := hidP (OwnG.later oY_w6.out ab_W7)
    have acc_W7 := hidP (acc_w6.out.trans (ab_W7.mono acc_w6.out.size))
    have sz_W7 : Hid (w6.heap.size ≤ W7.heap.size) := hidP ab_W7.size
    clear ab_W7 lb0_w6 lb1_w6 lbF_w6 lbL_w6 sp0_w6 sp1_w6 sp2_w6 sp3_w6 sp4_w6 sp5_w6 sp6_w6 sp7_w6 spF_w6 spL_w6 oS_w6 oT_w6 oX_w6 oY_w6 acc_w6
    refine (HIm.out g2 h2 _ oX_W7.out.row oY_W7.out.row).mono ?_
    rintro e w8 ⟨a8, c8, b8, d8, rfl, og8, oh8, nq8, hb8⟩
    have OX := hidP (And.intro og8 (And.intro oh8 nq8))
    clear og8 oh8 nq8
    have lb0_w8 := (hb8.cell lbL_W7).trans lb0_W7
    have lb1_w8 := (hb8.cell lbL_W7).trans lb1_W7
    have lbF_w8 : ∀ o, w8.frozen? ⟨w.heap.size, o, none⟩ = false := fun o => (hb8.frozen lbL_W7).trans (lbF_W7 o)
    have lbL_w8 : w.heap.size < w8.heap.size := Nat.lt_of_lt_of_le lbL_W7 hb8.size
    have sp0_w8 := (hb8.cell spL_W7).trans sp0_W7
    have sp1_w8 := (hb8.cell spL_W7).trans sp1_W7
    have sp2_w8 := (hb8.cell spL_W7).trans sp2_W7
    have sp3_w8 := (hb8.cell spL_W7).trans sp3_W7
    have sp4_w8 := (hb8.cell spL_W7).trans sp4_W7
    have sp5_w8 := (hb8.cell spL_W7).trans sp5_W7
    have sp6_w8 := (hb8.cell spL_W7).trans sp6_W7
    have sp7_w8 := (hb8.cell spL_W7).trans sp7_W7
    have spF_w8 : ∀ o, w8.frozen? ⟨w4.heap.size, o, none⟩ = false := fun o => (hb8.frozen spL_W7).trans (spF_W7 o)
    have spL_w8 : w4.heap.size < w8.heap.size := Nat.lt_of_lt_of_le spL_W7 hb8.size
    have xa0_w8 := (hb8.cell xaL_W7).trans xa0_W7
    have xa1_w8 := (hb8.cell xaL_W7).trans xa1_W7
    have xaF_w8 : ∀ o, w8.frozen? ⟨w6.heap.size, o, none⟩ = false := fun o => (hb8.frozen xaL_W7).trans (xaF_W7 o)
    have xaL_w8 : w6.heap.size < w8.heap.size := Nat.lt_of_lt_of_le xaL_W7 hb8.size
    have oS_w8 := hidP (OwnG.later oS_W7.out hb8)
    have oT_w8 := hidP (OwnG.later oT_W7.out hb8)
    have oX_w8 := hidP (OwnG.later oX_W7.out hb8)
    have oY_w8 := hidP (OwnG.later oY_W7.out hb8)
    have acc_w8 := hidP (acc_W7.out.trans (hb8.mono acc_W7.out.size))
    have sz_w8 : Hid (W7.heap.size ≤ w8.heap.size) := hidP hb8.size
    clear hb8 lb0_W7 lb1_W7 lbF_W7 lbL_W7 sp0_W7 sp1_W7 sp2_W7 sp3_W7 sp4_W7 sp5_W7 sp6_W7 sp7_W7 spF_W7 spL_W7 xa0_W7 xa1_W7 xaF_W7 xaL_W7 oS_W7 oT_W7 oX_W7 oY_W7 acc_W7
    have oI_w8 := hidP (OX.out.1)
    have lhI : Hid (∀ k, (Value.slice a8 NP c8).ownBlock = some k → W7.heap.size ≤ k ∧ k < w8.heap.size) := hidP (fun k hk => OwnG.lt oI_w8.out k hk)
    have oJ_w8 := hidP (OX.out.2.1)
    have lhJ : Hid (∀ k, (Value.slice b8 NB d8).ownBlock = some k → W7.heap.size ≤ k ∧ k < w8.heap.size) := hidP (fun k hk => OwnG.lt oJ_w8.out k hk)
    have ne8 := hidP OX.out.2.2
    clear OX
    go_wp2_with fail
    obtain ⟨im0_W9, im1_W9, im2_W9, im3_W9, im4_W9, im5_W9, im6_W9, im7_W9⟩ := box8K w8 29 (.int .i64 0) (.int .i64 0) (.int .i64 0) (.int .i64 0) (.slice a8 NP c8) (.slice b8 NB d8) (.slice none 0 0) (.slice none 0 0)
    have imF_W9 : ∀ o, (w8.alloc (.cells #[.int .i64 0, .int .i64 0, .int .i64 0, .int .i64 0, .slice a8 NP c8, .slice b8 NB d8, .slice none 0 0, .slice none 0 0] 29)).frozen? ⟨w8.heap.size, o, none⟩ = false := fun o => by simp [go_sem]
    have imL_W9 : w8.heap.size < (w8.alloc (.cells #[.int .i64 0, .int .i64 0, .int .i64 0, .int .i64 0, .slice a8 NP c8, .slice b8 NB d8, .slice none 0 0, .slice none 0 0] 29)).heap.size := by simp
    have ab_W9 := alloc_below w8 (.cells #[.int .i64 0, .int .i64 0, .int .i64 0, .int .i64 0, .slice a8 NP c8, .slice b8 NB d8, .slice none 0 0, .slice none 0 0] 29)
    have as_W9 : Hid ((w8.alloc (.cells #[.int .i64 0, .int .i64 0, .int .i64 0, .int .i64 0, .slice a8 NP c8, .slice b8 NB d8, .slice none 0 0, .slice none 0 0] 29)).heap.size = w8.heap.size + 1) := hidP (by simp)
    generalize w8.alloc (.cells #[.int .i64 0, .int .i64 0, .int .i64 0, .int .i64 0, .slice a8 NP c8, .slice b8 NB d8, .slice none 0 0, .slice none 0 0] 29) = W9 at *
    have lb0_W9 := (ab_W9.cell lbL_w8).trans lb0_w8
    have lb1_W9 := (ab_W9.cell lbL_w8).trans lb1_w8
    have lbF_W9 : ∀ o, W9.frozen? ⟨w.heap.size, o, none⟩ = false := fun o => (ab_W9.frozen lbL_w8).trans (lbF_w8 o)
    have lbL_W9 : w.heap.size < W9.heap.size := Nat.lt_of_lt_of_le lbL_w8 ab_W9.size
    have sp0_W9 := (ab_W9.cell spL_w8).trans sp0_w8
    have sp1_W9 := (ab_W9.cell spL_w8).trans sp1_w8
    have sp2_W9 := (ab_W9.cell spL_w8).trans sp2_w8
    have sp3_W9 := (ab_W9.cell spL_w8).trans sp3_w8
    have sp4_W9 := (ab_W9.cell spL_w8).trans sp4_w8
    have sp5_W9 := (ab_W9.cell spL_w8).trans sp5_w8
    have sp6_W9 := (ab_W9.cell spL_w8).trans sp6_w8
    have sp7_W9 := (ab_W9.cell spL_w8).trans sp7_w8
    have spF_W9 : ∀ o, W9.frozen? ⟨w4.heap.size, o, none⟩ = false := fun o => (ab_W9.frozen spL_w8).trans (spF_w8 o)
    have spL_W9 : w4.heap.size < W9.heap.size := Nat.lt_of_lt_of_le spL_w8 ab_W9.size
    have xa0_W9 := (ab_W9.cell xaL_w8).trans xa0_w8
    have xa1_W9 := (ab_W9.cell xaL_w8).trans xa1_w8
    have xaF_W9 : ∀ o, W9.frozen? ⟨w6.heap.size, o, none⟩ = false := fun o => (ab_W9.frozen xaL_w8).trans (xaF_w8 o)
    have xaL_W9 : w6.heap.size < W9.heap.size := Nat.lt_of_lt_of_le xaL_w8 ab_W9.size
    have oS_W9 := hidP (OwnG.later oS_w8.out ab_W9)
    have oT_W9 := hidP (OwnG.later oT_w8.out ab_W9)
    have oX_W9 := hidP (OwnG.later oX_w8.out ab_W9)
    have oY_W9 := hidP (OwnG.later oY_w8.out ab_W9)
    have oI_W9 := hidP (OwnG.later oI_w8.out ab_W9)
    have oJ_W9 := hidP (OwnG.later oJ_w8.out ab_W9)
    have acc_W9 := hidP (acc_w8.out.trans (ab_W9.mono acc_w8.out.size))
    have sz_W9 : Hid (w8.heap.size ≤ W9.heap.size) := hidP ab_W9.size
    clear ab_W9 lb0_w8 lb1_w8 lbF_w8 lbL_w8 sp0_w8 sp1_w8 sp2_w8 sp3_w8 sp4_w8 sp5_w8 sp6_w8 sp7_w8 spF_w8 spL_w8 xa0_w8 xa1_w8 xaF_w8 xaL_w8 oS_w8 oT_w8 oX_w8 oY_w8 oI_w8 oJ_w8 acc_w8
    refine (HEr.out _ a8 c8 b8 d8 a4 c4 b4 d4 oI_W9.out.row oS_W9.out.row oJ_W9.out.row oT_W9.out.row).mono ?_
    rintro e w10 ⟨rfl, hb_w10⟩
    have lb0_w10 := (hb_w10.cell lbL_W9).trans lb0_W9
    have lb1_w10 := (hb_w10.cell lbL_W9).trans lb1_W9
    have lbF_w10 : ∀ o, w10.frozen? ⟨w.heap.size, o, none⟩ = false := fun o => (hb_w10.frozen lbL_W9).trans (lbF_W9 o)
    have lbL_w10 : w.heap.size < w10.heap.size := Nat.lt_of_lt_of_le lbL_W9 hb_w10.size
    have sp0_w10 := (hb_w10.cell spL_W9).trans sp0_W9
    have sp1_w10 := (hb_w10.cell spL_W9).trans sp1_W9
    have sp2_w10 := (hb_w10.cell spL_W9).trans sp2_W9
    have sp3_w10 := (hb_w10.cell spL_W9).trans sp3_W9
    have sp4_w10 := (hb_w10.cell spL_W9).trans sp4_W9
    have sp5_w10 := (hb_w10.cell spL_W9).trans sp5_W9
    have sp6_w10 := (hb_w10.cell spL_W9).trans sp6_W9
    have sp7_w10 := (hb_w10.cell spL_W9).trans sp7_W9
    have spF_w10 : ∀ o, w10.frozen? ⟨w4.heap.size, o, none⟩ = false := fun o => (hb_w10.frozen spL_W9).trans (spF_W9 o)
    have spL_w10 : w4.heap.size < w10.heap.size := Nat.lt_of_lt_of_le spL_W9 hb_w10.size
    have xa0_w10 := (hb_w10.cell xaL_W9).trans xa0_W9
    have xa1_w10 := (hb_w10.cell xaL_W9).trans xa1_W9
    have xaF_w10 : ∀ o, w10.frozen? ⟨w6.heap.size, o, none⟩ = false := fun o => (hb_w10.frozen xaL_W9).trans (xaF_W9 o)
    have xaL_w10 : w6.heap.size < w10.heap.size := Nat.lt_of_lt_of_le xaL_W9 hb_w10.size
    have im0_w10 := (hb_w10.cell imL_W9).trans im0_W9
    have im1_w10 := (hb_w10.cell imL_W9).trans im1_W9
    have im2_w10 := (hb_w10.cell imL_W9).trans im2_W9
    have im3_w10 := (hb_w10.cell imL_W9).trans im3_W9
    have im4_w10 := (hb_w10.cell imL_W9).trans im4_W9
    have im5_w10 := (hb_w10.cell imL_W9).trans im5_W9
    have im6_w10 := (hb_w10.cell imL_W9).trans im6_W9
    have im7_w10 := (hb_w10.cell imL_W9).trans im7_W9
    have imF_w10 : ∀ o, w10.frozen? ⟨w8.heap.size, o, none⟩ = false := fun o => (hb_w10.frozen imL_W9).trans (imF_W9 o)
    have imL_w10 : w8.heap.size < w10.heap.size := Nat.lt_of_lt_of_le imL_W9 hb_w10.size
    have oS_w10 := hidP (OwnG.later oS_W9.out hb_w10)
    have oT_w10 := hidP (OwnG.later oT_W9.out hb_w10)
    have oX_w10 := hidP (OwnG.later oX_W9.out hb_w10)
    have oY_w10 := hidP (OwnG.later oY_W9.out hb_w10)
    have oI_w10 := hidP (OwnG.later oI_W9.out hb_w10)
    have oJ_w10 := hidP (OwnG.later oJ_W9.out hb_w10)
    have acc_w10 := hidP (acc_W9.out.trans (hb_w10.mono acc_W9.out.size))
    have sz_w10 : Hid (W9.heap.size ≤ w10.heap.size) := hidP hb_w10.size
    clear hb_w10 lb0_W9 lb1_W9 lbF_W9 lbL_W9 sp0_W9 sp1_W9 sp2_W9 sp3_W9 sp4_W9 sp5_W9 sp6_W9 sp7_W9 spF_W9 spL_W9 xa0_W9 xa1_W9 xaF_W9 xaL_W9 im0_W9 im1_W9 im2_W9 im3_W9 im4_W9 im5_W9 im6_W9 im7_W9 imF_W9 imL_W9 oS_W9 oT_W9 oX_W9 oY_W9 oI_W9 oJ_W9 acc_W9
    go_wp2_with fail
    have HSx : Hid (∀ x, Below w10.heap.size w10 x → (x.cell? ⟨w.heap.size, 0, none⟩ = some (.slice ap np cp) ∧ x.cell? ⟨w.heap.size, 1, none⟩ = some (.slice ab nb cb) ∧ x.cell? ⟨w6.heap.size, 0, none⟩ = some (.slice (some ⟨g2, 0, none⟩) np np) ∧ x.cell? ⟨w6.heap.size, 1, none⟩ = some (.slice (some ⟨h2, 0, none⟩) nb nb) ∧ Below w10.heap.size w10 x)) := hidP fun x h =>
      ⟨(h.cell lbL_w10).trans lb0_w10, (h.cell lbL_w10).trans lb1_w10, (h.cell xaL_w10).trans xa0_w10, (h.cell xaL_w10).trans xa1_w10, h⟩
    refine wp_region_held_drew (S := (fun x => x.cell? ⟨w.heap.size, 0, none⟩ = some (.slice ap np cp) ∧ x.cell? ⟨w.heap.size, 1, none⟩ = some (.slice ab nb cb) ∧ x.cell? ⟨w6.heap.size, 0, none⟩ = some (.slice (some ⟨g2, 0, none⟩) np np) ∧ x.cell? ⟨w6.heap.size, 1, none⟩ = some (.slice (some ⟨h2, 0, none⟩) nb nb) ∧ Below w10.heap.size w10 x)) (by kernel_rfl) ?_ (fun hHeld => ?_)
    · try dsimp only
      exact HSx.out _ ((Below.refl _ _).drew)
    refine wpAnyH_take (i := 0) (oi := ⟨some 27, _, _, _, _, _⟩) (v := ?_) rfl (by kernel_rfl) (by kernel_rfl) (by kernel_rfl) (fun _ _ _ h => h) (Or.inl ⟨by rfl, ?_⟩) (by assumption) ?_
    rotate_left
    · intro w hSw
      try dsimp only at hSw
      go_simp
      try with_reducible rfl
    simp only [Act.put, List.setIfInBounds_toArray, List.set_cons_zero, List.set_cons_succ]
    refine wpAnyH_take (i := 1) (oi := ⟨some 28, _, _, _, _, _⟩) (v := ?_) rfl (by kernel_rfl) (by kernel_rfl) (by kernel_rfl) (fun _ _ _ h => h) (Or.inl ⟨by rfl, ?_⟩) (by assumption) ?_
    rotate_left
    · intro w hSw
      try dsimp only at hSw
      go_simp
      try with_reducible rfl
    simp only [Act.put, List.setIfInBounds_toArray, List.set_cons_zero, List.set_cons_succ]
    refine wpAnyH_ready (rs := [2]) (by kernel_rfl) (by simp) ?_
    refine AllReadyH.cons rfl (fun K hK => ?_) AllReadyH.nil
    go_simp
    go_wp2_with (first | (go_at_call 20; refine (HTo.out _ (acc_w10.out.trans ((hHeld.2.2.2.2).mono acc_w10.out.size))).mono ?_; rintro e w11 ⟨g3, h3, rfl, og3, oh3, gh3, hb11⟩; have b11 := (hHeld.2.2.2.2).trans (hb11.mono (hHeld.2.2.2.2).size)))
    refine hK.out _ _ ?_ (fun hHeld => ?_)
    · try dsimp only
      exact HSx.out _ b11
    clear hK K
    refine wpAnyH_ready (rs := [3]) (by kernel_rfl) (by simp) ?_
    refine AllReadyH.cons rfl (fun K hK => ?_) AllReadyH.nil
    go_simp
    go_wp2_with (first | (go_at_call 23; refine (HEq.out _ g2 h2 g3 h3 (oX_w10.out.row.later (hHeld.2.2.2.2)) og3.row (oY_w10.out.row.later (hHeld.2.2.2.2)) oh3.row).mono ?_; rintro e w12 ⟨rfl, hb12⟩; have b12 := (hHeld.2.2.2.2).trans (hb12.mono (hHeld.2.2.2.2).size)))
    refine hK.out _ _ ?_ (fun hHeld => ?_)
    · try dsimp only
      exact HSx.out _ b12
    clear hK K
    refine wpAnyH_take (i := 4) (oi := ⟨some 31, _, _, _, _, _⟩) (v := ?_) rfl (by kernel_rfl) (by kernel_rfl) (by kernel_rfl) (fun _ _ _ h => h) (Or.inl ⟨by rfl, ?_⟩) (by assumption) ?_
    rotate_left
    · intro w hSw
      try dsimp only at hSw
      go_simp
      try with_reducible rfl
    simp only [Act.put, List.setIfInBounds_toArray, List.set_cons_zero, List.set_cons_succ]
    have HE := hidP (hHeld.2.2.2.2)
    refine wpAnyH_done (by kernel_rfl) ?_ _
    clear hHeld
    have hb12 := HE.out
    clear og3 oh3 gh3 hb11 b11 b12 HSx HE
    have lb0_w12 := (hb12.cell lbL_w10).trans lb0_w10
    have lb1_w12 := (hb12.cell lbL_w10).trans lb1_w10
    have lbF_w12 : ∀ o, w12.frozen? ⟨w.heap.size, o, none⟩ = false := fun o => (hb12.frozen lbL_w10).trans (lbF_w10 o)
    have lbL_w12 : w.heap.size < w12.heap.size := Nat.lt_of_lt_of_le lbL_w10 hb12.size
    have sp0_w12 := (hb12.cell spL_w10).trans sp0_w10
    have sp1_w12 := (hb12.cell spL_w10).trans sp1_w10
    have sp2_w12 := (hb12.cell spL_w10).trans sp2_w10
    have sp3_w12 := (hb12.cell spL_w10).trans sp3_w10
    have sp4_w12 := (hb12.cell spL_w10).trans sp4_w10
    have sp5_w12 := (hb12.cell spL_w10).trans sp5_w10
    have sp6_w12 := (hb12.cell spL_w10).trans sp6_w10
    have sp7_w12 := (hb12.cell spL_w10).trans sp7_w10
    have spF_w12 : ∀ o, w12.frozen? ⟨w4.heap.size, o, none⟩ = false := fun o => (hb12.frozen spL_w10).trans (spF_w10 o)
    have spL_w12 : w4.heap.size < w12.heap.size := Nat.lt_of_lt_of_le spL_w10 hb12.size
    have xa0_w12 := (hb12.cell xaL_w10).trans xa0_w10
    have xa1_w12 := (hb12.cell xaL_w10).trans xa1_w10
    have xaF_w12 : ∀ o, w12.frozen? ⟨w6.heap.size, o, none⟩ = false := fun o => (hb12.frozen xaL_w10).trans (xaF_w10 o)
    have xaL_w12 : w6.heap.size < w12.heap.size := Nat.lt_of_lt_of_le xaL_w10 hb12.size
    have im0_w12 := (hb12.cell imL_w10).trans im0_w10
    have im1_w12 := (hb12.cell imL_w10).trans im1_w10
    have im2_w12 := (hb12.cell imL_w10).trans im2_w10
    have im3_w12 := (hb12.cell imL_w10).trans im3_w10
    have im4_w12 := (hb12.cell imL_w10).trans im4_w10
    have im5_w12 := (hb12.cell imL_w10).trans im5_w10
    have im6_w12 := (hb12.cell imL_w10).trans im6_w10
    have im7_w12 := (hb12.cell imL_w10).trans im7_w10
    have imF_w12 : ∀ o, w12.frozen? ⟨w8.heap.size, o, none⟩ = false := fun o => (hb12.frozen imL_w10).trans (imF_w10 o)
    have imL_w12 : w8.heap.size < w12.heap.size := Nat.lt_of_lt_of_le imL_w10 hb12.size
    have oS_w12 := hidP (OwnG.later oS_w10.out hb12)
    have oT_w12 := hidP (OwnG.later oT_w10.out hb12)
    have oX_w12 := hidP (OwnG.later oX_w10.out hb12)
    have oY_w12 := hidP (OwnG.later oY_w10.out hb12)
    have oI_w12 := hidP (OwnG.later oI_w10.out hb12)
    have oJ_w12 := hidP (OwnG.later oJ_w10.out hb12)
    have acc_w12 := hidP (acc_w10.out.trans (hb12.mono acc_w10.out.size))
    have sz_w12 : Hid (w10.heap.size ≤ w12.heap.size) := hidP hb12.size
    clear hb12 lb0_w10 lb1_w10 lbF_w10 lbL_w10 sp0_w10 sp1_w10 sp2_w10 sp3_w10 sp4_w10 sp5_w10 sp6_w10 sp7_w10 spF_w10 spL_w10 xa0_w10 xa1_w10 xaF_w10 xaL_w10 im0_w10 im1_w10 im2_w10 im3_w10 im4_w10 im5_w10 im6_w10 im7_w10 imF_w10 imL_w10 oS_w10 oT_w10 oX_w10 oY_w10 oI_w10 oJ_w10 acc_w10
    go_wp2_with fail
    refine (HMk.out w12 g2 h2 _ oX_w12.out oY_w12.out (fun j h1 h2' => by have := gg2.out; simp [Value.ownBlock] at h1 h2'; omega)).mono ?_
    rintro e w13 ⟨rfl, om1, om2, wm, hgm, hgn⟩
    clear om1 om2
    clear oX_w12
    clear oY_w12
    clear xa0_w12 xa1_w12 xaF_w12 xaL_w12
    have nelb : ∀ k, (Value.slice (some ⟨g2, 0, none⟩) np np).ownBlock = some k → k ≠ w.heap.size := fun k hk => by have h5 := lhX.out k hk; have := as_W1.out; have := sz_W1.out; have := sz_w2.out; have := sz_w3.out; have := sz_w4.out; have := as_W5.out; have := sz_W5.out; have := sz_w6.out; have := as_W7.out; have := sz_W7.out; have := sz_w8.out; have := as_W9.out; have := sz_W9.out; have := sz_w10.out; have := sz_w12.out; omega
    have lb0_wm := cell_grown hgm lb0_w12 nelb
    have lb1_wm := cell_grown hgm lb1_w12 nelb
    have lbF_wm : ∀ o, wm.frozen? ⟨w.heap.size, o, none⟩ = false := fun o => frz_grown hgm lbL_w12 (lbF_w12 o) nelb
    have lbL_wm : w.heap.size < wm.heap.size := Nat.lt_of_lt_of_le lbL_w12 hgm.size
    have nesp : ∀ k, (Value.slice (some ⟨g2, 0, none⟩) np np).ownBlock = some k → k ≠ w4.heap.size := fun k hk => by have h5 := lhX.out k hk; have := as_W1.out; have := sz_W1.out; have := sz_w2.out; have := sz_w3.out; have := sz_w4.out; have := as_W5.out; have := sz_W5.out; have := sz_w6.out; have := as_W7.out; have := sz_W7.out; have := sz_w8.out; have := as_W9.out; have := sz_W9.out; have := sz_w10.out; have := sz_w12.out; omega
    have sp0_wm := cell_grown hgm sp0_w12 nesp
    have sp1_wm := cell_grown hgm sp1_w12 nesp
    have sp2_wm := cell_grown hgm sp2_w12 nesp
    have sp3_wm := cell_grown hgm sp3_w12 nesp
    have sp4_wm := cell_grown hgm sp4_w12 nesp
    have sp5_wm := cell_grown hgm sp5_w12 nesp
    have sp6_wm := cell_grown hgm sp6_w12 nesp
    have sp7_wm := cell_grown hgm sp7_w12 nesp
    have spF_wm : ∀ o, wm.frozen? ⟨w4.heap.size, o, none⟩ = false := fun o => frz_grown hgm spL_w12 (spF_w12 o) nesp
    have spL_wm : w4.heap.size < wm.heap.size := Nat.lt_of_lt_of_le spL_w12 hgm.size
    have neim : ∀ k, (Value.slice (some ⟨g2, 0, none⟩) np np).ownBlock = some k → k ≠ w8.heap.size := fun k hk => by have h5 := lhX.out k hk; have := as_W1.out; have := sz_W1.out; have := sz_w2.out; have := sz_w3.out; have := sz_w4.out; have := as_W5.out; have := sz_W5.out; have := sz_w6.out; have := as_W7.out; have := sz_W7.out; have := sz_w8.out; have := as_W9.out; have := sz_W9.out; have := sz_w10.out; have := sz_w12.out; omega
    have im0_wm := cell_grown hgm im0_w12 neim
    have im1_wm := cell_grown hgm im1_w12 neim
    have im2_wm := cell_grown hgm im2_w12 neim
    have im3_wm := cell_grown hgm im3_w12 neim
    have im4_wm := cell_grown hgm im4_w12 neim
    have im5_wm := cell_grown hgm im5_w12 neim
    have im6_wm := cell_grown hgm im6_w12 neim
    have im7_wm := cell_grown hgm im7_w12 neim
    have imF_wm : ∀ o, wm.frozen? ⟨w8.heap.size, o, none⟩ = false := fun o => frz_grown hgm imL_w12 (imF_w12 o) neim
    have imL_wm : w8.heap.size < wm.heap.size := Nat.lt_of_lt_of_le imL_w12 hgm.size
    have oS_wm := hidP (OwnG.grown oS_w12.out hgm (fun j hj he => by have h5 := lhS.out j hj; have h6 := lhX.out j he; have := as_W1.out; have := sz_W1.out; have := sz_w2.out; have := sz_w3.out; have := sz_w4.out; have := as_W5.out; have := sz_W5.out; have := sz_w6.out; have := as_W7.out; have := sz_W7.out; have := sz_w8.out; have := as_W9.out; have := sz_W9.out; have := sz_w10.out; have := sz_w12.out; omega))
    have oT_wm := hidP (OwnG.grown oT_w12.out hgm (fun j hj he => by have h5 := lhT.out j hj; have h6 := lhX.out j he; have := as_W1.out; have := sz_W1.out; have := sz_w2.out; have := sz_w3.out; have := sz_w4.out; have := as_W5.out; have := sz_W5.out; have := sz_w6.out; have := as_W7.out; have := sz_W7.out; have := sz_w8.out; have := as_W9.out; have := sz_W9.out; have := sz_w10.out; have := sz_w12.out; omega))
    have oI_wm := hidP (OwnG.grown oI_w12.out hgm (fun j hj he => by have h5 := lhI.out j hj; have h6 := lhX.out j he; have := as_W1.out; have := sz_W1.out; have := sz_w2.out; have := sz_w3.out; have := sz_w4.out; have := as_W5.out; have := sz_W5.out; have := sz_w6.out; have := as_W7.out; have := sz_W7.out; have := sz_w8.out; have := as_W9.out; have := sz_W9.out; have := sz_w10.out; have := sz_w12.out; omega))
    have oJ_wm := hidP (OwnG.grown oJ_w12.out hgm (fun j hj he => by have h5 := lhJ.out j hj; have h6 := lhX.out j he; have := as_W1.out; have := sz_W1.out; have := sz_w2.out; have := sz_w3.out; have := sz_w4.out; have := as_W5.out; have := sz_W5.out; have := sz_w6.out; have := as_W7.out; have := sz_W7.out; have := sz_w8.out; have := as_W9.out; have := sz_W9.out; have := sz_w10.out; have := sz_w12.out; omega))
    have acc_wm := hidP (Below.grown acc_w12.out hgm acc_w12.out.size (fun k hk => by have h5 := lhX.out k hk; have := as_W1.out; have := sz_W1.out; have := sz_w2.out; have := sz_w3.out; have := sz_w4.out; have := as_W5.out; have := sz_W5.out; have := sz_w6.out; have := as_W7.out; have := sz_W7.out; have := sz_w8.out; have := as_W9.out; have := sz_W9.out; have := sz_w10.out; have := sz_w12.out; omega))
    have sz_wm : Hid (w12.heap.size ≤ wm.heap.size) := hidP hgm.size
    clear hgm lb0_w12 lb1_w12 lbF_w12 lbL_w12 nelb sp0_w12 sp1_w12 sp2_w12 sp3_w12 sp4_w12 sp5_w12 sp6_w12 sp7_w12 spF_w12 spL_w12 nesp im0_w12 im1_w12 im2_w12 im3_w12 im4_w12 im5_w12 im6_w12 im7_w12 imF_w12 imL_w12 neim oS_w12 oT_w12 oI_w12 oJ_w12 acc_w12
    have nelb : ∀ k, (Value.slice (some ⟨h2, 0, none⟩) nb nb).ownBlock = some k → k ≠ w.heap.size := fun k hk => by have h5 := lhY.out k hk; have := as_W1.out; have := sz_W1.out; have := sz_w2.out; have := sz_w3.out; have := sz_w4.out; have := as_W5.out; have := sz_W5.out; have := sz_w6.out; have := as_W7.out; have := sz_W7.out; have := sz_w8.out; have := as_W9.out; have := sz_W9.out; have := sz_w10.out; have := sz_w12.out; have := sz_wm.out; omega
    have lb0_w13 := cell_grown hgn lb0_wm nelb
    have lb1_w13 := cell_grown hgn lb1_wm nelb
    have lbF_w13 : ∀ o, w13.frozen? ⟨w.heap.size, o, none⟩ = false := fun o => frz_grown hgn lbL_wm (lbF_wm o) nelb
    have lbL_w13 : w.heap.size < w13.heap.size := Nat.lt_of_lt_of_le lbL_wm hgn.size
    have nesp : ∀ k, (Value.slice (some ⟨h2, 0, none⟩) nb nb).ownBlock = some k → k ≠ w4.heap.size := fun k hk => by have h5 := lhY.out k hk; have := as_W1.out; have := sz_W1.out; have := sz_w2.out; have := sz_w3.out; have := sz_w4.out; have := as_W5.out; have := sz_W5.out; have := sz_w6.out; have := as_W7.out; have := sz_W7.out; have := sz_w8.out; have := as_W9.out; have := sz_W9.out; have := sz_w10.out; have := sz_w12.out; have := sz_wm.out; omega
    have sp0_w13 := cell_grown hgn sp0_wm nesp
    have sp1_w13 := cell_grown hgn sp1_wm nesp
    have sp2_w13 := cell_grown hgn sp2_wm nesp
    have sp3_w13 := cell_grown hgn sp3_wm nesp
    have sp4_w13 := cell_grown hgn sp4_wm nesp
    have sp5_w13 := cell_grown hgn sp5_wm nesp
    have sp6_w13 := cell_grown hgn sp6_wm nesp
    have sp7_w13 := cell_grown hgn sp7_wm nesp
    have spF_w13 : ∀ o, w13.frozen? ⟨w4.heap.size, o, none⟩ = false := fun o => frz_grown hgn spL_wm (spF_wm o) nesp
    have spL_w13 : w4.heap.size < w13.heap.size := Nat.lt_of_lt_of_le spL_wm hgn.size
    have neim : ∀ k, (Value.slice (some ⟨h2, 0, none⟩) nb nb).ownBlock = some k → k ≠ w8.heap.size := fun k hk => by have h5 := lhY.out k hk; have := as_W1.out; have := sz_W1.out; have := sz_w2.out; have := sz_w3.out; have := sz_w4.out; have := as_W5.out; have := sz_W5.out; have := sz_w6.out; have := as_W7.out; have := sz_W7.out; have := sz_w8.out; have := as_W9.out; have := sz_W9.out; have := sz_w10.out; have := sz_w12.out; have := sz_wm.out; omega
    have im0_w13 := cell_grown hgn im0_wm neim
    have im1_w13 := cell_grown hgn im1_wm neim
    have im2_w13 := cell_grown hgn im2_wm neim
    have im3_w13 := cell_grown hgn im3_wm neim
    have im4_w13 := cell_grown hgn im4_wm neim
    have im5_w13 := cell_grown hgn im5_wm neim
    have im6_w13 := cell_grown hgn im6_wm neim
    have im7_w13 := cell_grown hgn im7_wm neim
    have imF_w13 : ∀ o, w13.frozen? ⟨w8.heap.size, o, none⟩ = false := fun o => frz_grown hgn imL_wm (imF_wm o) neim
    have imL_w13 : w8.heap.size < w13.heap.size := Nat.lt_of_lt_of_le imL_wm hgn.size
    have oS_w13 := hidP (OwnG.grown oS_wm.out hgn (fun j hj he => by have h5 := lhS.out j hj; have h6 := lhY.out j he; have := as_W1.out; have := sz_W1.out; have := sz_w2.out; have := sz_w3.out; have := sz_w4.out; have := as_W5.out; have := sz_W5.out; have := sz_w6.out; have := as_W7.out; have := sz_W7.out; have := sz_w8.out; have := as_W9.out; have := sz_W9.out; have := sz_w10.out; have := sz_w12.out; have := sz_wm.out; omega))
    have oT_w13 := hidP (OwnG.grown oT_wm.out hgn (fun j hj he => by have h5 := lhT.out j hj; have h6 := lhY.out j he; have := as_W1.out; have := sz_W1.out; have := sz_w2.out; have := sz_w3.out; have := sz_w4.out; have := as_W5.out; have := sz_W5.out; have := sz_w6.out; have := as_W7.out; have := sz_W7.out; have := sz_w8.out; have := as_W9.out; have := sz_W9.out; have := sz_w10.out; have := sz_w12.out; have := sz_wm.out; omega))
    have oI_w13 := hidP (OwnG.grown oI_wm.out hgn (fun j hj he => by have h5 := lhI.out j hj; have h6 := lhY.out j he; have := as_W1.out; have := sz_W1.out; have := sz_w2.out; have := sz_w3.out; have := sz_w4.out; have := as_W5.out; have := sz_W5.out; have := sz_w6.out; have := as_W7.out; have := sz_W7.out; have := sz_w8.out; have := as_W9.out; have := sz_W9.out; have := sz_w10.out; have := sz_w12.out; have := sz_wm.out; omega))
    have oJ_w13 := hidP (OwnG.grown oJ_wm.out hgn (fun j hj he => by have h5 := lhJ.out j hj; have h6 := lhY.out j he; have := as_W1.out; have := sz_W1.out; have := sz_w2.out; have := sz_w3.out; have := sz_w4.out; have := as_W5.out; have := sz_W5.out; have := sz_w6.out; have := as_W7.out; have := sz_W7.out; have := sz_w8.out; have := as_W9.out; have := sz_W9.out; have := sz_w10.out; have := sz_w12.out; have := sz_wm.out; omega))
    have acc_w13 := hidP (Below.grown acc_wm.out hgn acc_wm.out.size (fun k hk => by have h5 := lhY.out k hk; have := as_W1.out; have := sz_W1.out; have := sz_w2.out; have := sz_w3.out; have := sz_w4.out; have := as_W5.out; have := sz_W5.out; have := sz_w6.out; have := as_W7.out; have := sz_W7.out; have := sz_w8.out; have := as_W9.out; have := sz_W9.out; have := sz_w10.out; have := sz_w12.out; have := sz_wm.out; omega))
    have sz_w13 : Hid (wm.heap.size ≤ w13.heap.size) := hidP hgn.size
    clear hgn lb0_wm lb1_wm lbF_wm lbL_wm nelb sp0_wm sp1_wm sp2_wm sp3_wm sp4_wm sp5_wm sp6_wm sp7_wm spF_wm spL_wm nesp im0_wm im1_wm im2_wm im3_wm im4_wm im5_wm im6_wm im7_wm imF_wm imL_wm neim oS_wm oT_wm oI_wm oJ_wm acc_wm
    go_wp2_with fail
    refine (HEr.out _ a8 c8 b8 d8 a4 c4 b4 d4 oI_w13.out.row oS_w13.out.row oJ_w13.out.row oT_w13.out.row).mono ?_
    rintro e w14 ⟨rfl, hb_w14⟩
    have lb0_w14 := (hb_w14.cell lbL_w13).trans lb0_w13
    have lb1_w14 := (hb_w14.cell lbL_w13).trans lb1_w13
    have lbF_w14 : ∀ o, w14.frozen? ⟨w.heap.size, o, none⟩ = false := fun o => (hb_w14.frozen lbL_w13).trans (lbF_w13 o)
    have lbL_w14 : w.heap.size < w14.heap.size := Nat.lt_of_lt_of_le lbL_w13 hb_w14.size
    have sp0_w14 := (hb_w14.cell spL_w13).trans sp0_w13
    have sp1_w14 := (hb_w14.cell spL_w13).trans sp1_w13
    have sp2_w14 := (hb_w14.cell spL_w13).trans sp2_w13
    have sp3_w14 := (hb_w14.cell spL_w13).trans sp3_w13
    have sp4_w14 := (hb_w14.cell spL_w13).trans sp4_w13
    have sp5_w14 := (hb_w14.cell spL_w13).trans sp5_w13
    have sp6_w14 := (hb_w14.cell spL_w13).trans sp6_w13
    have sp7_w14 := (hb_w14.cell spL_w13).trans sp7_w13
    have spF_w14 : ∀ o, w14.frozen? ⟨w4.heap.size, o, none⟩ = false := fun o => (hb_w14.frozen spL_w13).trans (spF_w13 o)
    have spL_w14 : w4.heap.size < w14.heap.size := Nat.lt_of_lt_of_le spL_w13 hb_w14.size
    have im0_w14 := (hb_w14.cell imL_w13).trans im0_w13
    have im1_w14 := (hb_w14.cell imL_w13).trans im1_w13
    have im2_w14 := (hb_w14.cell imL_w13).trans im2_w13
    have im3_w14 := (hb_w14.cell imL_w13).trans im3_w13
    have im4_w14 := (hb_w14.cell imL_w13).trans im4_w13
    have im5_w14 := (hb_w14.cell imL_w13).trans im5_w13
    have im6_w14 := (hb_w14.cell imL_w13).trans im6_w13
    have im7_w14 := (hb_w14.cell imL_w13).trans im7_w13
    have imF_w14 : ∀ o, w14.frozen? ⟨w8.heap.size, o, none⟩ = false := fun o => (hb_w14.frozen imL_w13).trans (imF_w13 o)
    have imL_w14 : w8.heap.size < w14.heap.size := Nat.lt_of_lt_of_le imL_w13 hb_w14.size
    have oS_w14 := hidP (OwnG.later oS_w13.out hb_w14)
    have oT_w14 := hidP (OwnG.later oT_w13.out hb_w14)
    have oI_w14 := hidP (OwnG.later oI_w13.out hb_w14)
    have oJ_w14 := hidP (OwnG.later oJ_w13.out hb_w14)
    have acc_w14 := hidP (acc_w13.out.trans (hb_w14.mono acc_w13.out.size))
    have sz_w14 : Hid (w13.heap.size ≤ w14.heap.size) := hidP hb_w14.size
    clear hb_w14 lb0_w13 lb1_w13 lbF_w13 lbL_w13 sp0_w13 sp1_w13 sp2_w13 sp3_w13 sp4_w13 sp5_w13 sp6_w13 sp7_w13 spF_w13 spL_w13 im0_w13 im1_w13 im2_w13 im3_w13 im4_w13 im5_w13 im6_w13 im7_w13 imF_w13 imL_w13 oS_w13 oT_w13 oI_w13 oJ_w13 acc_w13
    go_wp2_with fail
    refine (HMr.out w14 a8 c8 b8 d8 _ oI_w14.out oJ_w14.out ne8.out).mono ?_
    rintro e w15 ⟨rfl, om3, om4, wn, hgi, hgj⟩
    have OM := hidP (And.intro om3 om4)
    clear om3 om4
    clear oI_w14
    clear oJ_w14
    have nelb : ∀ k, (Value.slice a8 NP c8).ownBlock = some k → k ≠ w.heap.size := fun k hk => by have h5 := lhI.out k hk; have := as_W1.out; have := sz_W1.out; have := sz_w2.out; have := sz_w3.out; have := sz_w4.out; have := as_W5.out; have := sz_W5.out; have := sz_w6.out; have := as_W7.out; have := sz_W7.out; have := sz_w8.out; have := as_W9.out; have := sz_W9.out; have := sz_w10.out; have := sz_w12.out; have := sz_wm.out; have := sz_w13.out; have := sz_w14.out; omega
    have lb0_wn := cell_grown hgi lb0_w14 nelb
    have lb1_wn := cell_grown hgi lb1_w14 nelb
    have lbF_wn : ∀ o, wn.frozen? ⟨w.heap.size, o, none⟩ = false := fun o => frz_grown hgi lbL_w14 (lbF_w14 o) nelb
    have lbL_wn : w.heap.size < wn.heap.size := Nat.lt_of_lt_of_le lbL_w14 hgi.size
    have nesp : ∀ k, (Value.slice a8 NP c8).ownBlock = some k → k ≠ w4.heap.size := fun k hk => by have h5 := lhI.out k hk; have := as_W1.out; have := sz_W1.out; have := sz_w2.out; have := sz_w3.out; have := sz_w4.out; have := as_W5.out; have := sz_W5.out; have := sz_w6.out; have := as_W7.out; have := sz_W7.out; have := sz_w8.out; have := as_W9.out; have := sz_W9.out; have := sz_w10.out; have := sz_w12.out; have := sz_wm.out; have := sz_w13.out; have := sz_w14.out; omega
    have sp0_wn := cell_grown hgi sp0_w14 nesp
    have sp1_wn := cell_grown hgi sp1_w14 nesp
    have sp2_wn := cell_grown hgi sp2_w14 nesp
    have sp3_wn := cell_grown hgi sp3_w14 nesp
    have sp4_wn := cell_grown hgi sp4_w14 nesp
    have sp5_wn := cell_grown hgi sp5_w14 nesp
    have sp6_wn := cell_grown hgi sp6_w14 nesp
    have sp7_wn := cell_grown hgi sp7_w14 nesp
    have spF_wn : ∀ o, wn.frozen? ⟨w4.heap.size, o, none⟩ = false := fun o => frz_grown hgi spL_w14 (spF_w14 o) nesp
    have spL_wn : w4.heap.size < wn.heap.size := Nat.lt_of_lt_of_le spL_w14 hgi.size
    have neim : ∀ k, (Value.slice a8 NP c8).ownBlock = some k → k ≠ w8.heap.size := fun k hk => by have h5 := lhI.out k hk; have := as_W1.out; have := sz_W1.out; have := sz_w2.out; have := sz_w3.out; have := sz_w4.out; have := as_W5.out; have := sz_W5.out; have := sz_w6.out; have := as_W7.out; have := sz_W7.out; have := sz_w8.out; have := as_W9.out; have := sz_W9.out; have := sz_w10.out; have := sz_w12.out; have := sz_wm.out; have := sz_w13.out; have := sz_w14.out; omega
    have im0_wn := cell_grown hgi im0_w14 neim
    have im1_wn := cell_grown hgi im1_w14 neim
    have im2_wn := cell_grown hgi im2_w14 neim
    have im3_wn := cell_grown hgi im3_w14 neim
    have im4_wn := cell_grown hgi im4_w14 neim
    have im5_wn := cell_grown hgi im5_w14 neim
    have im6_wn := cell_grown hgi im6_w14 neim
    have im7_wn := cell_grown hgi im7_w14 neim
    have imF_wn : ∀ o, wn.frozen? ⟨w8.heap.size, o, none⟩ = false := fun o => frz_grown hgi imL_w14 (imF_w14 o) neim
    have imL_wn : w8.heap.size < wn.heap.size := Nat.lt_of_lt_of_le imL_w14 hgi.size
    have oS_wn := hidP (OwnG.grown oS_w14.out hgi (fun j hj he => by have h5 := lhS.out j hj; have h6 := lhI.out j he; have := as_W1.out; have := sz_W1.out; have := sz_w2.out; have := sz_w3.out; have := sz_w4.out; have := as_W5.out; have := sz_W5.out; have := sz_w6.out; have := as_W7.out; have := sz_W7.out; have := sz_w8.out; have := as_W9.out; have := sz_W9.out; have := sz_w10.out; have := sz_w12.out; have := sz_wm.out; have := sz_w13.out; have := sz_w14.out; omega))
    have oT_wn := hidP (OwnG.grown oT_w14.out hgi (fun j hj he => by have h5 := lhT.out j hj; have h6 := lhI.out j he; have := as_W1.out; have := sz_W1.out; have := sz_w2.out; have := sz_w3.out; have := sz_w4.out; have := as_W5.out; have := sz_W5.out; have := sz_w6.out; have := as_W7.out; have := sz_W7.out; have := sz_w8.out; have := as_W9.out; have := sz_W9.out; have := sz_w10.out; have := sz_w12.out; have := sz_wm.out; have := sz_w13.out; have := sz_w14.out; omega))
    have acc_wn := hidP (Below.grown acc_w14.out hgi acc_w14.out.size (fun k hk => by have h5 := lhI.out k hk; have := as_W1.out; have := sz_W1.out; have := sz_w2.out; have := sz_w3.out; have := sz_w4.out; have := as_W5.out; have := sz_W5.out; have := sz_w6.out; have := as_W7.out; have := sz_W7.out; have := sz_w8.out; have := as_W9.out; have := sz_W9.out; have := sz_w10.out; have := sz_w12.out; have := sz_wm.out; have := sz_w13.out; have := sz_w14.out; omega))
    have sz_wn : Hid (w14.heap.size ≤ wn.heap.size) := hidP hgi.size
    clear hgi lb0_w14 lb1_w14 lbF_w14 lbL_w14 nelb sp0_w14 sp1_w14 sp2_w14 sp3_w14 sp4_w14 sp5_w14 sp6_w14 sp7_w14 spF_w14 spL_w14 nesp im0_w14 im1_w14 im2_w14 im3_w14 im4_w14 im5_w14 im6_w14 im7_w14 imF_w14 imL_w14 neim oS_w14 oT_w14 acc_w14
    have nelb : ∀ k, (Value.slice b8 NB d8).ownBlock = some k → k ≠ w.heap.size := fun k hk => by have h5 := lhJ.out k hk; have := as_W1.out; have := sz_W1.out; have := sz_w2.out; have := sz_w3.out; have := sz_w4.out; have := as_W5.out; have := sz_W5.out; have := sz_w6.out; have := as_W7.out; have := sz_W7.out; have := sz_w8.out; have := as_W9.out; have := sz_W9.out; have := sz_w10.out; have := sz_w12.out; have := sz_wm.out; have := sz_w13.out; have := sz_w14.out; have := sz_wn.out; omega
    have lb0_w15 := cell_grown hgj lb0_wn nelb
    have lb1_w15 := cell_grown hgj lb1_wn nelb
    have lbF_w15 : ∀ o, w15.frozen? ⟨w.heap.size, o, none⟩ = false := fun o => frz_grown hgj lbL_wn (lbF_wn o) nelb
    have lbL_w15 : w.heap.size < w15.heap.size := Nat.lt_of_lt_of_le lbL_wn hgj.size
    have nesp : ∀ k, (Value.slice b8 NB d8).ownBlock = some k → k ≠ w4.heap.size := fun k hk => by have h5 := lhJ.out k hk; have := as_W1.out; have := sz_W1.out; have := sz_w2.out; have := sz_w3.out; have := sz_w4.out; have := as_W5.out; have := sz_W5.out; have := sz_w6.out; have := as_W7.out; have := sz_W7.out; have := sz_w8.out; have := as_W9.out; have := sz_W9.out; have := sz_w10.out; have := sz_w12.out; have := sz_wm.out; have := sz_w13.out; have := sz_w14.out; have := sz_wn.out; omega
    have sp0_w15 := cell_grown hgj sp0_wn nesp
    have sp1_w15 := cell_grown hgj sp1_wn nesp
    have sp2_w15 := cell_grown hgj sp2_wn nesp
    have sp3_w15 := cell_grown hgj sp3_wn nesp
    have sp4_w15 := cell_grown hgj sp4_wn nesp
    have sp5_w15 := cell_grown hgj sp5_wn nesp
    have sp6_w15 := cell_grown hgj sp6_wn nesp
    have sp7_w15 := cell_grown hgj sp7_wn nesp
    have spF_w15 : ∀ o, w15.frozen? ⟨w4.heap.size, o, none⟩ = false := fun o => frz_grown hgj spL_wn (spF_wn o) nesp
    have spL_w15 : w4.heap.size < w15.heap.size := Nat.lt_of_lt_of_le spL_wn hgj.size
    have neim : ∀ k, (Value.slice b8 NB d8).ownBlock = some k → k ≠ w8.heap.size := fun k hk => by have h5 := lhJ.out k hk; have := as_W1.out; have := sz_W1.out; have := sz_w2.out; have := sz_w3.out; have := sz_w4.out; have := as_W5.out; have := sz_W5.out; have := sz_w6.out; have := as_W7.out; have := sz_W7.out; have := sz_w8.out; have := as_W9.out; have := sz_W9.out; have := sz_w10.out; have := sz_w12.out; have := sz_wm.out; have := sz_w13.out; have := sz_w14.out; have := sz_wn.out; omega
    have im0_w15 := cell_grown hgj im0_wn neim
    have im1_w15 := cell_grown hgj im1_wn neim
    have im2_w15 := cell_grown hgj im2_wn neim
    have im3_w15 := cell_grown hgj im3_wn neim
    have im4_w15 := cell_grown hgj im4_wn neim
    have im5_w15 := cell_grown hgj im5_wn neim
    have im6_w15 := cell_grown hgj im6_wn neim
    have im7_w15 := cell_grown hgj im7_wn neim
    have imF_w15 : ∀ o, w15.frozen? ⟨w8.heap.size, o, none⟩ = false := fun o => frz_grown hgj imL_wn (imF_wn o) neim
    have imL_w15 : w8.heap.size < w15.heap.size := Nat.lt_of_lt_of_le imL_wn hgj.size
    have oS_w15 := hidP (OwnG.grown oS_wn.out hgj (fun j hj he => by have h5 := lhS.out j hj; have h6 := lhJ.out j he; have := as_W1.out; have := sz_W1.out; have := sz_w2.out; have := sz_w3.out; have := sz_w4.out; have := as_W5.out; have := sz_W5.out; have := sz_w6.out; have := as_W7.out; have := sz_W7.out; have := sz_w8.out; have := as_W9.out; have := sz_W9.out; have := sz_w10.out; have := sz_w12.out; have := sz_wm.out; have := sz_w13.out; have := sz_w14.out; have := sz_wn.out; omega))
    have oT_w15 := hidP (OwnG.grown oT_wn.out hgj (fun j hj he => by have h5 := lhT.out j hj; have h6 := lhJ.out j he; have := as_W1.out; have := sz_W1.out; have := sz_w2.out; have := sz_w3.out; have := sz_w4.out; have := as_W5.out; have := sz_W5.out; have := sz_w6.out; have := as_W7.out; have := sz_W7.out; have := sz_w8.out; have := as_W9.out; have := sz_W9.out; have := sz_w10.out; have := sz_w12.out; have := sz_wm.out; have := sz_w13.out; have := sz_w14.out; have := sz_wn.out; omega))
    have acc_w15 := hidP (Below.grown acc_wn.out hgj acc_wn.out.size (fun k hk => by have h5 := lhJ.out k hk; have := as_W1.out; have := sz_W1.out; have := sz_w2.out; have := sz_w3.out; have := sz_w4.out; have := as_W5.out; have := sz_W5.out; have := sz_w6.out; have := as_W7.out; have := sz_W7.out; have := sz_w8.out; have := as_W9.out; have := sz_W9.out; have := sz_w10.out; have := sz_w12.out; have := sz_wm.out; have := sz_w13.out; have := sz_w14.out; have := sz_wn.out; omega))
    have sz_w15 : Hid (wn.heap.size ≤ w15.heap.size) := hidP hgj.size
    clear hgj lb0_wn lb1_wn lbF_wn lbL_wn nelb sp0_wn sp1_wn sp2_wn sp3_wn sp4_wn sp5_wn sp6_wn sp7_wn spF_wn spL_wn nesp im0_wn im1_wn im2_wn im3_wn im4_wn im5_wn im6_wn im7_wn imF_wn imL_wn neim oS_wn oT_wn acc_wn
    have oI_w15 := hidP (OM.out.1)
    have oJ_w15 := hidP (OM.out.2)
    clear OM
    go_wp2_with fail
    refine (HHd.out _ a8 c8 b8 d8 oI_w15.out.row oJ_w15.out.row).mono ?_
    rintro e w16 ⟨rfl, hb_w16⟩
    have lb0_w16 := (hb_w16.cell lbL_w15).trans lb0_w15
    have lb1_w16 := (hb_w16.cell lbL_w15).trans lb1_w15
    have lbF_w16 : ∀ o, w16.frozen? ⟨w.heap.size, o, none⟩ = false := fun o => (hb_w16.frozen lbL_w15).trans (lbF_w15 o)
    have lbL_w16 : w.heap.size < w16.heap.size := Nat.lt_of_lt_of_le lbL_w15 hb_w16.size
    have sp0_w16 := (hb_w16.cell spL_w15).trans sp0_w15
    have sp1_w16 := (hb_w16.cell spL_w15).trans sp1_w15
    have sp2_w16 := (hb_w16.cell spL_w15).trans sp2_w15
    have sp3_w16 := (hb_w16.cell spL_w15).trans sp3_w15
    have sp4_w16 := (hb_w16.cell spL_w15).trans sp4_w15
    have sp5_w16 := (hb_w16.cell spL_w15).trans sp5_w15
    have sp6_w16 := (hb_w16.cell spL_w15).trans sp6_w15
    have sp7_w16 := (hb_w16.cell spL_w15).trans sp7_w15
    have spF_w16 : ∀ o, w16.frozen? ⟨w4.heap.size, o, none⟩ = false := fun o => (hb_w16.frozen spL_w15).trans (spF_w15 o)
    have spL_w16 : w4.heap.size < w16.heap.size := Nat.lt_of_lt_of_le spL_w15 hb_w16.size
    have im0_w16 := (hb_w16.cell imL_w15).trans im0_w15
    have im1_w16 := (hb_w16.cell imL_w15).trans im1_w15
    have im2_w16 := (hb_w16.cell imL_w15).trans im2_w15
    have im3_w16 := (hb_w16.cell imL_w15).trans im3_w15
    have im4_w16 := (hb_w16.cell imL_w15).trans im4_w15
    have im5_w16 := (hb_w16.cell imL_w15).trans im5_w15
    have im6_w16 := (hb_w16.cell imL_w15).trans im6_w15
    have im7_w16 := (hb_w16.cell imL_w15).trans im7_w15
    have imF_w16 : ∀ o, w16.frozen? ⟨w8.heap.size, o, none⟩ = false := fun o => (hb_w16.frozen imL_w15).trans (imF_w15 o)
    have imL_w16 : w8.heap.size < w16.heap.size := Nat.lt_of_lt_of_le imL_w15 hb_w16.size
    have oS_w16 := hidP (OwnG.later oS_w15.out hb_w16)
    have oT_w16 := hidP (OwnG.later oT_w15.out hb_w16)
    have oI_w16 := hidP (OwnG.later oI_w15.out hb_w16)
    have oJ_w16 := hidP (OwnG.later oJ_w15.out hb_w16)
    have acc_w16 := hidP (acc_w15.out.trans (hb_w16.mono acc_w15.out.size))
    have sz_w16 : Hid (w15.heap.size ≤ w16.heap.size) := hidP hb_w16.size
    clear hb_w16 lb0_w15 lb1_w15 lbF_w15 lbL_w15 sp0_w15 sp1_w15 sp2_w15 sp3_w15 sp4_w15 sp5_w15 sp6_w15 sp7_w15 spF_w15 spL_w15 im0_w15 im1_w15 im2_w15 im3_w15 im4_w15 im5_w15 im6_w15 im7_w15 imF_w15 imL_w15 oS_w15 oT_w15 oI_w15 oJ_w15 acc_w15
    go_wp2_with fail
    refine (HTo.out _ acc_w16.out).mono ?_
    rintro e w17 ⟨g4, h4, rfl, og4, oh4, gh4, hb_w17⟩
    have OX := hidP (And.intro og4 (And.intro oh4 gh4))
    clear og4 oh4 gh4
    have lb0_w17 := (hb_w17.cell lbL_w16).trans lb0_w16
    have lb1_w17 := (hb_w17.cell lbL_w16).trans lb1_w16
    have lbF_w17 : ∀ o, w17.frozen? ⟨w.heap.size, o, none⟩ = false := fun o => (hb_w17.frozen lbL_w16).trans (lbF_w16 o)
    have lbL_w17 : w.heap.size < w17.heap.size := Nat.lt_of_lt_of_le lbL_w16 hb_w17.size
    have sp0_w17 := (hb_w17.cell spL_w16).trans sp0_w16
    have sp1_w17 := (hb_w17.cell spL_w16).trans sp1_w16
    have sp2_w17 := (hb_w17.cell spL_w16).trans sp2_w16
    have sp3_w17 := (hb_w17.cell spL_w16).trans sp3_w16
    have sp4_w17 := (hb_w17.cell spL_w16).trans sp4_w16
    have sp5_w17 := (hb_w17.cell spL_w16).trans sp5_w16
    have sp6_w17 := (hb_w17.cell spL_w16).trans sp6_w16
    have sp7_w17 := (hb_w17.cell spL_w16).trans sp7_w16
    have spF_w17 : ∀ o, w17.frozen? ⟨w4.heap.size, o, none⟩ = false := fun o => (hb_w17.frozen spL_w16).trans (spF_w16 o)
    have spL_w17 : w4.heap.size < w17.heap.size := Nat.lt_of_lt_of_le spL_w16 hb_w17.size
    have im0_w17 := (hb_w17.cell imL_w16).trans im0_w16
    have im1_w17 := (hb_w17.cell imL_w16).trans im1_w16
    have im2_w17 := (hb_w17.cell imL_w16).trans im2_w16
    have im3_w17 := (hb_w17.cell imL_w16).trans im3_w16
    have im4_w17 := (hb_w17.cell imL_w16).trans im4_w16
    have im5_w17 := (hb_w17.cell imL_w16).trans im5_w16
    have im6_w17 := (hb_w17.cell imL_w16).trans im6_w16
    have im7_w17 := (hb_w17.cell imL_w16).trans im7_w16
    have imF_w17 : ∀ o, w17.frozen? ⟨w8.heap.size, o, none⟩ = false := fun o => (hb_w17.frozen imL_w16).trans (imF_w16 o)
    have imL_w17 : w8.heap.size < w17.heap.size := Nat.lt_of_lt_of_le imL_w16 hb_w17.size
    have oS_w17 := hidP (OwnG.later oS_w16.out hb_w17)
    have oT_w17 := hidP (OwnG.later oT_w16.out hb_w17)
    have oI_w17 := hidP (OwnG.later oI_w16.out hb_w17)
    have oJ_w17 := hidP (OwnG.later oJ_w16.out hb_w17)
    have acc_w17 := hidP (acc_w16.out.trans (hb_w17.mono acc_w16.out.size))
    have sz_w17 : Hid (w16.heap.size ≤ w17.heap.size) := hidP hb_w17.size
    clear hb_w17 lb0_w16 lb1_w16 lbF_w16 lbL_w16 sp0_w16 sp1_w16 sp2_w16 sp3_w16 sp4_w16 sp5_w16 sp6_w16 sp7_w16 spF_w16 spL_w16 im0_w16 im1_w16 im2_w16 im3_w16 im4_w16 im5_w16 im6_w16 im7_w16 imF_w16 imL_w16 oS_w16 oT_w16 oI_w16 oJ_w16 acc_w16
    have oX_w17 := hidP (OX.out.1)
    have lhX : Hid (∀ k, (Value.slice (some ⟨g4, 0, none⟩) np np).ownBlock = some k → w16.heap.size ≤ k ∧ k < w17.heap.size) := hidP (fun k hk => OwnG.lt oX_w17.out k hk)
    have oY_w17 := hidP (OX.out.2.1)
    have lhY : Hid (∀ k, (Value.slice (some ⟨h4, 0, none⟩) nb nb).ownBlock = some k → w16.heap.size ≤ k ∧ k < w17.heap.size) := hidP (fun k hk => OwnG.lt oY_w17.out k hk)
    have gg4 := hidP OX.out.2.2
    clear OX
    go_wp2_with fail
    refine (HIm.out g4 h4 _ oX_w17.out.row oY_w17.out.row).mono ?_
    rintro e w18 ⟨a18, c18, b18, d18, rfl, og18, oh18, nq18, hb18⟩
    have OX := hidP (And.intro og18 (And.intro oh18 nq18))
    clear og18 oh18 nq18
    have lb0_w18 := (hb18.cell lbL_w17).trans lb0_w17
    have lb1_w18 := (hb18.cell lbL_w17).trans lb1_w17
    have lbF_w18 : ∀ o, w18.frozen? ⟨w.heap.size, o, none⟩ = false := fun o => (hb18.frozen lbL_w17).trans (lbF_w17 o)
    have lbL_w18 : w.heap.size < w18.heap.size := Nat.lt_of_lt_of_le lbL_w17 hb18.size
    have sp0_w18 := (hb18.cell spL_w17).trans sp0_w17
    have sp1_w18 := (hb18.cell spL_w17).trans sp1_w17
    have sp2_w18 := (hb18.cell spL_w17).trans sp2_w17
    have sp3_w18 := (hb18.cell spL_w17).trans sp3_w17
    have sp4_w18 := (hb18.cell spL_w17).trans sp4_w17
    have sp5_w18 := (hb18.cell spL_w17).trans sp5_w17
    have sp6_w18 := (hb18.cell spL_w17).trans sp6_w17
    have sp7_w18 := (hb18.cell spL_w17).trans sp7_w17
    have spF_w18 : ∀ o, w18.frozen? ⟨w4.heap.size, o, none⟩ = false := fun o => (hb18.frozen spL_w17).trans (spF_w17 o)
    have spL_w18 : w4.heap.size < w18.heap.size := Nat.lt_of_lt_of_le spL_w17 hb18.size
    have im0_w18 := (hb18.cell imL_w17).trans im0_w17
    have im1_w18 := (hb18.cell imL_w17).trans im1_w17
    have im2_w18 := (hb18.cell imL_w17).trans im2_w17
    have im3_w18 := (hb18.cell imL_w17).trans im3_w17
    have im4_w18 := (hb18.cell imL_w17).trans im4_w17
    have im5_w18 := (hb18.cell imL_w17).trans im5_w17
    have im6_w18 := (hb18.cell imL_w17).trans im6_w17
    have im7_w18 := (hb18.cell imL_w17).trans im7_w17
    have imF_w18 : ∀ o, w18.frozen? ⟨w8.heap.size, o, none⟩ = false := fun o => (hb18.frozen imL_w17).trans (imF_w17 o)
    have imL_w18 : w8.heap.size < w18.heap.size := Nat.lt_of_lt_of_le imL_w17 hb18.size
    have oS_w18 := hidP (OwnG.later oS_w17.out hb18)
    have oT_w18 := hidP (OwnG.later oT_w17.out hb18)
    have oI_w18 := hidP (OwnG.later oI_w17.out hb18)
    have oJ_w18 := hidP (OwnG.later oJ_w17.out hb18)
    have oX_w18 := hidP (OwnG.later oX_w17.out hb18)
    have oY_w18 := hidP (OwnG.later oY_w17.out hb18)
    have acc_w18 := hidP (acc_w17.out.trans (hb18.mono acc_w17.out.size))
    have sz_w18 : Hid (w17.heap.size ≤ w18.heap.size) := hidP hb18.size
    clear hb18 lb0_w17 lb1_w17 lbF_w17 lbL_w17 sp0_w17 sp1_w17 sp2_w17 sp3_w17 sp4_w17 sp5_w17 sp6_w17 sp7_w17 spF_w17 spL_w17 im0_w17 im1_w17 im2_w17 im3_w17 im4_w17 im5_w17 im6_w17 im7_w17 imF_w17 imL_w17 oS_w17 oT_w17 oI_w17 oJ_w17 oX_w17 oY_w17 acc_w17
    have oU_w18 := hidP (OX.out.1)
    have lhU : Hid (∀ k, (Value.slice a18 NP c18).ownBlock = some k → w17.heap.size ≤ k ∧ k < w18.heap.size) := hidP (fun k hk => OwnG.lt oU_w18.out k hk)
    have oV_w18 := hidP (OX.out.2.1)
    have lhV : Hid (∀ k, (Value.slice b18 NB d18).ownBlock = some k → w17.heap.size ≤ k ∧ k < w18.heap.size) := hidP (fun k hk => OwnG.lt oV_w18.out k hk)
    have ne18 := hidP OX.out.2.2
    clear OX
    go_wp2_with fail
    obtain ⟨hh0_W19, hh1_W19, hh2_W19, hh3_W19, hh4_W19, hh5_W19, hh6_W19, hh7_W19⟩ := box8K w18 29 (.int .i64 0) (.int .i64 0) (.int .i64 0) (.int .i64 0) (.slice a18 NP c18) (.slice b18 NB d18) (.slice none 0 0) (.slice none 0 0)
    have hhF_W19 : ∀ o, (w18.alloc (.cells #[.int .i64 0, .int .i64 0, .int .i64 0, .int .i64 0, .slice a18 NP c18, .slice b18 NB d18, .slice none 0 0, .slice none 0 0] 29)).frozen? ⟨w18.heap.size, o, none⟩ = false := fun o => by simp [go_sem]
    have hhL_W19 : w18.heap.size < (w18.alloc (.cells #[.int .i64 0, .int .i64 0, .int .i64 0, .int .i64 0, .slice a18 NP c18, .slice b18 NB d18, .slice none 0 0, .slice none 0 0] 29)).heap.size := by simp
    have ab_W19 := alloc_below w18 (.cells #[.int .i64 0, .int .i64 0, .int .i64 0, .int .i64 0, .slice a18 NP c18, .slice b18 NB d18, .slice none 0 0, .slice none 0 0] 29)
    have as_W19 : Hid ((w18.alloc (.cells #[.int .i64 0, .int .i64 0, .int .i64 0, .int .i64 0, .slice a18 NP c18, .slice b18 NB d18, .slice none 0 0, .slice none 0 0] 29)).heap.size = w18.heap.size + 1) := hidP (by simp)
    generalize w18.alloc (.cells #[.int .i64 0, .int .i64 0, .int .i64 0, .int .i64 0, .slice a18 NP c18, .slice b18 NB d18, .slice none 0 0, .slice none 0 0] 29) = W19 at *
    have lb0_W19 := (ab_W19.cell lbL_w18).trans lb0_w18
    have lb1_W19 := (ab_W19.cell lbL_w18).trans lb1_w18
    have lbF_W19 : ∀ o, W19.frozen? ⟨w.heap.size, o, none⟩ = false := fun o => (ab_W19.frozen lbL_w18).trans (lbF_w18 o)
    have lbL_W19 : w.heap.size < W19.heap.size := Nat.lt_of_lt_of_le lbL_w18 ab_W19.size
    have sp0_W19 := (ab_W19.cell spL_w18).trans sp0_w18
    have sp1_W19 := (ab_W19.cell spL_w18).trans sp1_w18
    have sp2_W19 := (ab_W19.cell spL_w18).trans sp2_w18
    have sp3_W19 := (ab_W19.cell spL_w18).trans sp3_w18
    have sp4_W19 := (ab_W19.cell spL_w18).trans sp4_w18
    have sp5_W19 := (ab_W19.cell spL_w18).trans sp5_w18
    have sp6_W19 := (ab_W19.cell spL_w18).trans sp6_w18
    have sp7_W19 := (ab_W19.cell spL_w18).trans sp7_w18
    have spF_W19 : ∀ o, W19.frozen? ⟨w4.heap.size, o, none⟩ = false := fun o => (ab_W19.frozen spL_w18).trans (spF_w18 o)
    have spL_W19 : w4.heap.size < W19.heap.size := Nat.lt_of_lt_of_le spL_w18 ab_W19.size
    have im0_W19 := (ab_W19.cell imL_w18).trans im0_w18
    have im1_W19 := (ab_W19.cell imL_w18).trans im1_w18
    have im2_W19 := (ab_W19.cell imL_w18).trans im2_w18
    have im3_W19 := (ab_W19.cell imL_w18).trans im3_w18
    have im4_W19 := (ab_W19.cell imL_w18).trans im4_w18
    have im5_W19 := (ab_W19.cell imL_w18).trans im5_w18
    have im6_W19 := (ab_W19.cell imL_w18).trans im6_w18
    have im7_W19 := (ab_W19.cell imL_w18).trans im7_w18
    have imF_W19 : ∀ o, W19.frozen? ⟨w8.heap.size, o, none⟩ = false := fun o => (ab_W19.frozen imL_w18).trans (imF_w18 o)
    have imL_W19 : w8.heap.size < W19.heap.size := Nat.lt_of_lt_of_le imL_w18 ab_W19.size
    have oS_W19 := hidP (OwnG.later oS_w18.out ab_W19)
    have oT_W19 := hidP (OwnG.later oT_w18.out ab_W19)
    have oI_W19 := hidP (OwnG.later oI_w18.out ab_W19)
    have oJ_W19 := hidP (OwnG.later oJ_w18.out ab_W19)
    have oX_W19 := hidP (OwnG.later oX_w18.out ab_W19)
    have oY_W19 := hidP (OwnG.later oY_w18.out ab_W19)
    have oU_W19 := hidP (OwnG.later oU_w18.out ab_W19)
    have oV_W19 := hidP (OwnG.later oV_w18.out ab_W19)
    have acc_W19 := hidP (acc_w18.out.trans (ab_W19.mono acc_w18.out.size))
    have sz_W19 : Hid (w18.heap.size ≤ W19.heap.size) := hidP ab_W19.size
    clear ab_W19 lb0_w18 lb1_w18 lbF_w18 lbL_w18 sp0_w18 sp1_w18 sp2_w18 sp3_w18 sp4_w18 sp5_w18 sp6_w18 sp7_w18 spF_w18 spL_w18 im0_w18 im1_w18 im2_w18 im3_w18 im4_w18 im5_w18 im6_w18 im7_w18 imF_w18 imL_w18 oS_w18 oT_w18 oI_w18 oJ_w18 oX_w18 oY_w18 oU_w18 oV_w18 acc_w18
    clear oX_W19
    clear oY_W19
    refine (HEr.out _ a18 c18 b18 d18 a4 c4 b4 d4 oU_W19.out.row oS_W19.out.row oV_W19.out.row oT_W19.out.row).mono ?_
    rintro e w20 ⟨rfl, hb_w20⟩
    have lb0_w20 := (hb_w20.cell lbL_W19).trans lb0_W19
    have lb1_w20 := (hb_w20.cell lbL_W19).trans lb1_W19
    have lbF_w20 : ∀ o, w20.frozen? ⟨w.heap.size, o, none⟩ = false := fun o => (hb_w20.frozen lbL_W19).trans (lbF_W19 o)
    have lbL_w20 : w.heap.size < w20.heap.size := Nat.lt_of_lt_of_le lbL_W19 hb_w20.size
    have sp0_w20 := (hb_w20.cell spL_W19).trans sp0_W19
    have sp1_w20 := (hb_w20.cell spL_W19).trans sp1_W19
    have sp2_w20 := (hb_w20.cell spL_W19).trans sp2_W19
    have sp3_w20 := (hb_w20.cell spL_W19).trans sp3_W19
    have sp4_w20 := (hb_w20.cell spL_W19).trans sp4_W19
    have sp5_w20 := (hb_w20.cell spL_W19).trans sp5_W19
    have sp6_w20 := (hb_w20.cell spL_W19).trans sp6_W19
    have sp7_w20 := (hb_w20.cell spL_W19).trans sp7_W19
    have spF_w20 : ∀ o, w20.frozen? ⟨w4.heap.size, o, none⟩ = false := fun o => (hb_w20.frozen spL_W19).trans (spF_W19 o)
    have spL_w20 : w4.heap.size < w20.heap.size := Nat.lt_of_lt_of_le spL_W19 hb_w20.size
    have im0_w20 := (hb_w20.cell imL_W19).trans im0_W19
    have im1_w20 := (hb_w20.cell imL_W19).trans im1_W19
    have im2_w20 := (hb_w20.cell imL_W19).trans im2_W19
    have im3_w20 := (hb_w20.cell imL_W19).trans im3_W19
    have im4_w20 := (hb_w20.cell imL_W19).trans im4_W19
    have im5_w20 := (hb_w20.cell imL_W19).trans im5_W19
    have im6_w20 := (hb_w20.cell imL_W19).trans im6_W19
    have im7_w20 := (hb_w20.cell imL_W19).trans im7_W19
    have imF_w20 : ∀ o, w20.frozen? ⟨w8.heap.size, o, none⟩ = false := fun o => (hb_w20.frozen imL_W19).trans (imF_W19 o)
    have imL_w20 : w8.heap.size < w20.heap.size := Nat.lt_of_lt_of_le imL_W19 hb_w20.size
    have hh0_w20 := (hb_w20.cell hhL_W19).trans hh0_W19
    have hh1_w20 := (hb_w20.cell hhL_W19).trans hh1_W19
    have hh2_w20 := (hb_w20.cell hhL_W19).trans hh2_W19
    have hh3_w20 := (hb_w20.cell hhL_W19).trans hh3_W19
    have hh4_w20 := (hb_w20.cell hhL_W19).trans hh4_W19
    have hh5_w20 := (hb_w20.cell hhL_W19).trans hh5_W19
    have hh6_w20 := (hb_w20.cell hhL_W19).trans hh6_W19
    have hh7_w20 := (hb_w20.cell hhL_W19).trans hh7_W19
    have hhF_w20 : ∀ o, w20.frozen? ⟨w18.heap.size, o, none⟩ = false := fun o => (hb_w20.frozen hhL_W19).trans (hhF_W19 o)
    have hhL_w20 : w18.heap.size < w20.heap.size := Nat.lt_of_lt_of_le hhL_W19 hb_w20.size
    have oS_w20 := hidP (OwnG.later oS_W19.out hb_w20)
    have oT_w20 := hidP (OwnG.later oT_W19.out hb_w20)
    have oI_w20 := hidP (OwnG.later oI_W19.out hb_w20)
    have oJ_w20 := hidP (OwnG.later oJ_W19.out hb_w20)
    have oU_w20 := hidP (OwnG.later oU_W19.out hb_w20)
    have oV_w20 := hidP (OwnG.later oV_W19.out hb_w20)
    have acc_w20 := hidP (acc_W19.out.trans (hb_w20.mono acc_W19.out.size))
    have sz_w20 : Hid (W19.heap.size ≤ w20.heap.size) := hidP hb_w20.size
    clear hb_w20 lb0_W19 lb1_W19 lbF_W19 lbL_W19 sp0_W19 sp1_W19 sp2_W19 sp3_W19 sp4_W19 sp5_W19 sp6_W19 sp7_W19 spF_W19 spL_W19 im0_W19 im1_W19 im2_W19 im3_W19 im4_W19 im5_W19 im6_W19 im7_W19 imF_W19 imL_W19 hh0_W19 hh1_W19 hh2_W19 hh3_W19 hh4_W19 hh5_W19 hh6_W19 hh7_W19 hhF_W19 hhL_W19 oS_W19 oT_W19 oI_W19 oJ_W19 oU_W19 oV_W19 acc_W19
    go_wp2_with fail
    refine (HHd.out _ a8 c8 b8 d8 oI_w20.out.row oJ_w20.out.row).mono ?_
    rintro e w21 ⟨rfl, hb_w21⟩
    have lb0_w21 := (hb_w21.cell lbL_w20).trans lb0_w20
    have lb1_w21 := (hb_w21.cell lbL_w20).trans lb1_w20
    have lbF_w21 : ∀ o, w21.frozen? ⟨w.heap.size, o, none⟩ = false := fun o => (hb_w21.frozen lbL_w20).trans (lbF_w20 o)
    have lbL_w21 : w.heap.size < w21.heap.size := Nat.lt_of_lt_of_le lbL_w20 hb_w21.size
    have sp0_w21 := (hb_w21.cell spL_w20).trans sp0_w20
    have sp1_w21 := (hb_w21.cell spL_w20).trans sp1_w20
    have sp2_w21 := (hb_w21.cell spL_w20).trans sp2_w20
    have sp3_w21 := (hb_w21.cell spL_w20).trans sp3_w20
    have sp4_w21 := (hb_w21.cell spL_w20).trans sp4_w20
    have sp5_w21 := (hb_w21.cell spL_w20).trans sp5_w20
    have sp6_w21 := (hb_w21.cell spL_w20).trans sp6_w20
    have sp7_w21 := (hb_w21.cell spL_w20).trans sp7_w20
    have spF_w21 : ∀ o, w21.frozen? ⟨w4.heap.size, o, none⟩ = false := fun o => (hb_w21.frozen spL_w20).trans (spF_w20 o)
    have spL_w21 : w4.heap.size < w21.heap.size := Nat.lt_of_lt_of_le spL_w20 hb_w21.size
    have im0_w21 := (hb_w21.cell imL_w20).trans im0_w20
    have im1_w21 := (hb_w21.cell imL_w20).trans im1_w20
    have im2_w21 := (hb_w21.cell imL_w20).trans im2_w20
    have im3_w21 := (hb_w21.cell imL_w20).trans im3_w20
    have im4_w21 := (hb_w21.cell imL_w20).trans im4_w20
    have im5_w21 := (hb_w21.cell imL_w20).trans im5_w20
    have im6_w21 := (hb_w21.cell imL_w20).trans im6_w20
    have im7_w21 := (hb_w21.cell imL_w20).trans im7_w20
    have imF_w21 : ∀ o, w21.frozen? ⟨w8.heap.size, o, none⟩ = false := fun o => (hb_w21.frozen imL_w20).trans (imF_w20 o)
    have imL_w21 : w8.heap.size < w21.heap.size := Nat.lt_of_lt_of_le imL_w20 hb_w21.size
    have hh0_w21 := (hb_w21.cell hhL_w20).trans hh0_w20
    have hh1_w21 := (hb_w21.cell hhL_w20).trans hh1_w20
    have hh2_w21 := (hb_w21.cell hhL_w20).trans hh2_w20
    have hh3_w21 := (hb_w21.cell hhL_w20).trans hh3_w20
    have hh4_w21 := (hb_w21.cell hhL_w20).trans hh4_w20
    have hh5_w21 := (hb_w21.cell hhL_w20).trans hh5_w20
    have hh6_w21 := (hb_w21.cell hhL_w20).trans hh6_w20
    have hh7_w21 := (hb_w21.cell hhL_w20).trans hh7_w20
    have hhF_w21 : ∀ o, w21.frozen? ⟨w18.heap.size, o, none⟩ = false := fun o => (hb_w21.frozen hhL_w20).trans (hhF_w20 o)
    have hhL_w21 : w18.heap.size < w21.heap.size := Nat.lt_of_lt_of_le hhL_w20 hb_w21.size
    have oS_w21 := hidP (OwnG.later oS_w20.out hb_w21)
    have oT_w21 := hidP (OwnG.later oT_w20.out hb_w21)
    have oI_w21 := hidP (OwnG.later oI_w20.out hb_w21)
    have oJ_w21 := hidP (OwnG.later oJ_w20.out hb_w21)
    have oU_w21 := hidP (OwnG.later oU_w20.out hb_w21)
    have oV_w21 := hidP (OwnG.later oV_w20.out hb_w21)
    have acc_w21 := hidP (acc_w20.out.trans (hb_w21.mono acc_w20.out.size))
    have sz_w21 : Hid (w20.heap.size ≤ w21.heap.size) := hidP hb_w21.size
    clear hb_w21 lb0_w20 lb1_w20 lbF_w20 lbL_w20 sp0_w20 sp1_w20 sp2_w20 sp3_w20 sp4_w20 sp5_w20 sp6_w20 sp7_w20 spF_w20 spL_w20 im0_w20 im1_w20 im2_w20 im3_w20 im4_w20 im5_w20 im6_w20 im7_w20 imF_w20 imL_w20 hh0_w20 hh1_w20 hh2_w20 hh3_w20 hh4_w20 hh5_w20 hh6_w20 hh7_w20 hhF_w20 hhL_w20 oS_w20 oT_w20 oI_w20 oJ_w20 oU_w20 oV_w20 acc_w20
    go_wp2_with fail
    go_ret
    exact ⟨rfl, acc_w21.out⟩
  · rw [szT_no ht] at HSz
    clear hP hK hnp hnb ht
    go_enter Try.func5, Try.ntmps5
    go_wp2_with fail
    refine (HSz.out _).mono ?_
    rintro e w2 ⟨rfl, hb2⟩
    go_wp2_with fail
    go_ret
    exact ⟨rfl, (alloc_below w _).trans (hb2.mono (alloc_below w _).size)⟩

set_option maxRecDepth 100000 in
theorem keepNew_lifted (os : Os) (started : os.Started) (H : Type) (enc : TypeId × Value → H) :
    ReturnsInHanded {} Try.checked os 5 .any (Rows.fnExactKeepNewSpec.pre6 enc Try.prog Try.f5 Rows.fnExactKeepNewRow.domain false) (Rows.fnExactKeepNewSpec.post enc Try.prog Try.f5 false true false false) := by
  refine returnsInHanded_of_change (C := Try.checked) Try.ownG12 started (by kernel_rfl) Try.func5
    (ChangeSpec.witness6 (enc := enc) (C := Try.checked) false ⟨#[], #[.agg #[.slice none 0 0, .slice none 0 0]], []⟩ 8 (by kernel_rfl) (by kernel_rfl) (by kernel_rfl) (by kernel_rfl)) ?_
  intro W base args ds gs before hval0 hW _ _
  have hval : ∀ (j : Nat) t v, Try.f5.params[j]? = some t → args[j]? = some v → Value.okWide Try.prog W .any base t v := hval0
  have hW' := hW
  obtain ⟨p, q, hA0, hV, rfl, _, _⟩ := hW
  have hA : DataW.TrodAll enc Try.prog W 0 (fun _ => true) true Try.f5.params.toList args.toList ds p := hA0
  rw [Try.params5] at hA hval
  obtain ⟨v0, d0, rfl, rfl, h0⟩ := trodAll_one hA
  obtain ⟨rfl, rfl⟩ := trodVars_none hV
  obtain ⟨ap, np, cp, ab, nb, cb, ps, bs, rfl, hnp, hnb, hP, hK, h9, h9'⟩ := openGroup (hval 0 47 v0 rfl rfl) h0
  clear hA0 hval0
  simp only [List.append_nil] at hW'
  have hlt0 : ∀ x ∈ p, x.block < W.heap.size := fun x hx => by simpa using hW'.lt x hx
  refine (lawKeepNew ap np cp ab nb cb ps bs W hnp hnb hP hK h9 h9').mono fun e W' ⟨he, hb⟩ => ?_
  subst he
  exact ⟨_, rfl, ⟨_, _, _, [], p, [], hW', trodAll_mk1 (shut_bool Try.underlying4 true), trodAll_mk1 (Below.trod Try.laidOutG (by kernel_rfl) (of_decide_eq_true (by kernel_rfl)) h0 hb hlt0), rfl, hb.frame _, fun h => by cases h⟩⟩

theorem keepNew_holds : Rows.FnExactKeepNewSaid :=
  OpenClaim.holds_of_wide 5 Try.f5 rfl rfl rfl rfl rfl rfl rfl ⟨rfl, rfl, rfl, rfl, rfl⟩ rfl rfl rfl rfl rfl (by kernel_rfl) Try.func5 (by kernel_rfl)
    (of_decide_eq_true (by kernel_rfl)) (by unfold Func.isWrapper; rw [if_neg (of_decide_eq_false (by kernel_rfl))]; exact ⟨rfl, rfl⟩)
    (fun os started H enc _ => keepNew_lifted os started H enc)

end Go.Proofs.Ytdddbnlbbheiiaa
