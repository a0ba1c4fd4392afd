/-
  For every row of bytes the two GetGroup answer alike, in rows of their own, and leave the bytes as they were, so the exact law of GetGroup returns true; no condition.
-/
import Derived.Test.YtnngbeoeocbofaaV12GB
import Derived.Test.YtnngbeoeocbofaaCLift
import Derived.ProofKit
import Derived.Lib.SmallJoins
import Derived.Carry
import Derived.Deep.Slices
import Derived.ChangeMaps5
namespace Go.Proofs.Ytnngbeoeocbofaa
open Go.ChangeShapes Go.WideShapes Go.ChangeAt Go.RowKit Go.Joins Go.Deep

set_option maxRecDepth 10000 in
set_option maxHeartbeats 8000000 in
theorem lawGetGroup (aj : Option Addr) (m cj : Nat) (zs : List Int) (w : World) (hm : m = zs.length) (hQ : RowG KBy w aj zs) (ho : Oct zs) :
    Calls Try.prog 8 #[.slice aj m cj] w fun e w' => e = .returned (.bool true) ∧ Below w.heap.size w w' := by
  by_cases h3 : (m : Int) ≤ 1048576
  · have hl3 : m ≤ 1048576 := by omega
    have e0 : decide ((1048576 : Int) < (m : Int)) = false := decide_eq_false (by omega)
    have e0' : ¬ ((1048576 : Int) < (m : Int)) := by omega
    have HTi := hidP (fun W h => toByteG aj m cj zs W hm (hQ.later h) hl3)
    have HEi := hidP (fun W j j' e1 e2 => eqByteG (some ⟨j, 0, none⟩) (some ⟨j', 0, none⟩) m m m zs W hm e1 e2 (by omega))
    have HMi := hidP (fun W j B o1 => markByteG (some ⟨j, 0, none⟩) m m B zs 1 W hm o1 (by omega) (by omega) (by omega))
    obtain ⟨PS, NP, BS, NB, C, hNP, hNB, hL1, hL2, hSpec, hImpl⟩ := getg_both m zs hm ho
    have HSp := hidP hSpec
    have HIm := hidP hImpl
    have HEr := hidP (fun W a c b d a' c' b' d' e1 e2 e3 e4 => eqGroup_same a a' NP c c' b b' NB d d' PS BS W hNP hNB e1 e2 e3 e4 (by omega) (by omega))
    have HMr := hidP (fun W a c b d B o1 o2 ne => markGroup_any a NP c b NB d PS BS B 1 W hNP hNB o1 o2 ne (by omega) (by omega) (by omega) (by omega))
    have HHd := hidP (fun W a c b d e1 e2 => heldGroup_any a NP c b NB d 1 W e1 e2 (by omega) (by omega) (by omega) (by omega))
    have d3 : decide ((1 : Int) + (m : Int) < 0) = false := decide_eq_false (by omega)
    have d4 : ¬ ((1 : Int) + (m : Int) < 0) := by omega
    have d5 : decide ((1 : Int) + (NP : Int) + (NB : Int) < 0) = false := decide_eq_false (by omega)
    have d6 : ¬ ((1 : Int) + (NP : Int) + (NB : Int) < 0) := by omega
    have hacc : Hid (Below w.heap.size w w) := hidP (Below.refl _ _)
    clear hQ hm hNP hNB hSpec hImpl ho
    go_enter Try.func8, Try.ntmps8
    go_wp2_with fail
    refine (HTi.out _ hacc.out).mono ?_
    rintro e w3 ⟨j1, rfl, oj1, hb_w3⟩
    have OX := hidP oj1
    clear oj1
    have acc_w3 := hidP (hb_w3)
    have sz_w3 : Hid (w.heap.size ≤ w3.heap.size) := hidP hb_w3.size
    clear hb_w3 
    have oZ_w3 := hidP (OX.out)
    have lhZ : Hid (∀ k, (Value.slice (some ⟨j1, 0, none⟩) m m).ownBlock = some k → w.heap.size ≤ k ∧ k < w3.heap.size) := hidP (fun k hk => OwnG.lt oZ_w3.out k hk)
    clear OX
    go_wp2_with fail
    refine (HSp.out j1 _ oZ_w3.out.row).mono ?_
    rintro e w4 ⟨a4, c4, b4, d4, rfl, og4, oh4, nq4, hb4⟩
    have OX := hidP (And.intro og4 (And.intro oh4 nq4))
    clear og4 oh4 nq4
    have oZ_w4 := hidP (OwnG.later oZ_w3.out hb4)
    have acc_w4 := hidP (acc_w3.out.trans (hb4.mono acc_w3.out.size))
    have sz_w4 : Hid (w3.heap.size ≤ w4.heap.size) := hidP hb4.size
    clear hb4 oZ_w3 acc_w3
    have oS_w4 := hidP (OX.out.1)
    have lhS : Hid (∀ k, (Value.slice a4 NP c4).ownBlock = some k → w3.heap.size ≤ k ∧ k < w4.heap.size) := hidP (fun k hk => OwnG.lt oS_w4.out k hk)
    have oT_w4 := hidP (OX.out.2.1)
    have lhT : Hid (∀ k, (Value.slice b4 NB d4).ownBlock = some k → w3.heap.size ≤ k ∧ k < w4.heap.size) := hidP (fun k hk => OwnG.lt oT_w4.out k hk)
    have ne4 := hidP OX.out.2.2
    clear OX
    go_wp2_with fail
    obtain ⟨sp0_W5, sp1_W5⟩ := box2D w4 26 (.slice a4 NP c4) (.slice b4 NB d4)
    have spF_W5 : ∀ o, (w4.alloc (.cells #[.slice a4 NP c4, .slice b4 NB d4] 26)).frozen? ⟨w4.heap.size, o, none⟩ = false := fun o => by simp [go_sem]
    have spL_W5 : w4.heap.size < (w4.alloc (.cells #[.slice a4 NP c4, .slice b4 NB d4] 26)).heap.size := by simp
    have ab_W5 := alloc_below w4 (.cells #[.slice a4 NP c4, .slice b4 NB d4] 26)
    have as_W5 : Hid ((w4.alloc (.cells #[.slice a4 NP c4, .slice b4 NB d4] 26)).heap.size = w4.heap.size + 1) := hidP (by simp)
    generalize w4.alloc (.cells #[.slice a4 NP c4, .slice b4 NB d4] 26) = W5 at *
    have oZ_W5 := hidP (OwnG.later oZ_w4.out ab_W5)
    have oS_W5 := hidP (OwnG.later oS_w4.out ab_W5)
    have oT_W5 := hidP (OwnG.later oT_w4.out ab_W5)
    have acc_W5 := hidP (acc_w4.out.trans (ab_W5.mono acc_w4.out.size))
    have sz_W5 : Hid (w4.heap.size ≤ W5.heap.size) := hidP ab_W5.size
    clear ab_W5 oZ_w4 oS_w4 oT_w4 acc_w4
    clear oZ_W5
    clear lhZ ne4
    refine (HTi.out _ acc_W5.out).mono ?_
    rintro e w6 ⟨j2, rfl, oj2, hb_w6⟩
    have OX := hidP oj2
    clear oj2
    have sp0_w6 := (hb_w6.cell spL_W5).trans sp0_W5
    have sp1_w6 := (hb_w6.cell spL_W5).trans sp1_W5
    have spF_w6 : ∀ o, w6.frozen? ⟨w4.heap.size, o, none⟩ = false := fun o => (hb_w6.frozen spL_W5).trans (spF_W5 o)
    have spL_w6 : w4.heap.size < w6.heap.size := Nat.lt_of_lt_of_le spL_W5 hb_w6.size
    have oS_w6 := hidP (OwnG.later oS_W5.out hb_w6)
    have oT_w6 := hidP (OwnG.later oT_W5.out hb_w6)
    have acc_w6 := hidP (acc_W5.out.trans (hb_w6.mono acc_W5.out.size))
    have sz_w6 : Hid (W5.heap.size ≤ w6.heap.size) := hidP hb_w6.size
    clear hb_w6 sp0_W5 sp1_W5 spF_W5 spL_W5 oS_W5 oT_W5 acc_W5
    have oZ_w6 := hidP (OX.out)
    have lhZ : Hid (∀ k, (Value.slice (some ⟨j2, 0, none⟩) m m).ownBlock = some k → W5.heap.size ≤ k ∧ k < w6.heap.size) := hidP (fun k hk => OwnG.lt oZ_w6.out k hk)
    clear OX
    go_wp2_with fail
    refine (HIm.out j2 _ oZ_w6.out.row).mono ?_
    rintro e w8 ⟨a8, c8, b8, d8, rfl, og8, oh8, nq8, hb8⟩
    have OX := hidP (And.intro og8 (And.intro oh8 nq8))
    clear og8 oh8 nq8
    have sp0_w8 := (hb8.cell spL_w6).trans sp0_w6
    have sp1_w8 := (hb8.cell spL_w6).trans sp1_w6
    have spF_w8 : ∀ o, w8.frozen? ⟨w4.heap.size, o, none⟩ = false := fun o => (hb8.frozen spL_w6).trans (spF_w6 o)
    have spL_w8 : w4.heap.size < w8.heap.size := Nat.lt_of_lt_of_le spL_w6 hb8.size
    have oS_w8 := hidP (OwnG.later oS_w6.out hb8)
    have oT_w8 := hidP (OwnG.later oT_w6.out hb8)
    have oZ_w8 := hidP (OwnG.later oZ_w6.out hb8)
    have acc_w8 := hidP (acc_w6.out.trans (hb8.mono acc_w6.out.size))
    have sz_w8 : Hid (w6.heap.size ≤ w8.heap.size) := hidP hb8.size
    clear hb8 sp0_w6 sp1_w6 spF_w6 spL_w6 oS_w6 oT_w6 oZ_w6 acc_w6
    have oI_w8 := hidP (OX.out.1)
    have lhI : Hid (∀ k, (Value.slice a8 NP c8).ownBlock = some k → w6.heap.size ≤ k ∧ k < w8.heap.size) := hidP (fun k hk => OwnG.lt oI_w8.out k hk)
    have oJ_w8 := hidP (OX.out.2.1)
    have lhJ : Hid (∀ k, (Value.slice b8 NB d8).ownBlock = some k → w6.heap.size ≤ k ∧ k < w8.heap.size) := hidP (fun k hk => OwnG.lt oJ_w8.out k hk)
    have ne8 := hidP OX.out.2.2
    clear OX
    go_wp2_with fail
    obtain ⟨im0_W9, im1_W9⟩ := box2D w8 26 (.slice a8 NP c8) (.slice b8 NB d8)
    have imF_W9 : ∀ o, (w8.alloc (.cells #[.slice a8 NP c8, .slice b8 NB d8] 26)).frozen? ⟨w8.heap.size, o, none⟩ = false := fun o => by simp [go_sem]
    have imL_W9 : w8.heap.size < (w8.alloc (.cells #[.slice a8 NP c8, .slice b8 NB d8] 26)).heap.size := by simp
    have ab_W9 := alloc_below w8 (.cells #[.slice a8 NP c8, .slice b8 NB d8] 26)
    have as_W9 : Hid ((w8.alloc (.cells #[.slice a8 NP c8, .slice b8 NB d8] 26)).heap.size = w8.heap.size + 1) := hidP (by simp)
    generalize w8.alloc (.cells #[.slice a8 NP c8, .slice b8 NB d8] 26) = W9 at *
    have sp0_W9 := (ab_W9.cell spL_w8).trans sp0_w8
    have sp1_W9 := (ab_W9.cell spL_w8).trans sp1_w8
    have spF_W9 : ∀ o, W9.frozen? ⟨w4.heap.size, o, none⟩ = false := fun o => (ab_W9.frozen spL_w8).trans (spF_w8 o)
    have spL_W9 : w4.heap.size < W9.heap.size := Nat.lt_of_lt_of_le spL_w8 ab_W9.size
    have oS_W9 := hidP (OwnG.later oS_w8.out ab_W9)
    have oT_W9 := hidP (OwnG.later oT_w8.out ab_W9)
    have oZ_W9 := hidP (OwnG.later oZ_w8.out ab_W9)
    have oI_W9 := hidP (OwnG.later oI_w8.out ab_W9)
    have oJ_W9 := hidP (OwnG.later oJ_w8.out ab_W9)
    have acc_W9 := hidP (acc_w8.out.trans (ab_W9.mono acc_w8.out.size))
    have sz_W9 : Hid (w8.heap.size ≤ W9.heap.size) := hidP ab_W9.size
    clear ab_W9 sp0_w8 sp1_w8 spF_w8 spL_w8 oS_w8 oT_w8 oZ_w8 oI_w8 oJ_w8 acc_w8
    refine (HEr.out _ a8 c8 b8 d8 a4 c4 b4 d4 oI_W9.out.row oS_W9.out.row oJ_W9.out.row oT_W9.out.row).mono ?_
    rintro e w10 ⟨rfl, hb_w10⟩
    have sp0_w10 := (hb_w10.cell spL_W9).trans sp0_W9
    have sp1_w10 := (hb_w10.cell spL_W9).trans sp1_W9
    have spF_w10 : ∀ o, w10.frozen? ⟨w4.heap.size, o, none⟩ = false := fun o => (hb_w10.frozen spL_W9).trans (spF_W9 o)
    have spL_w10 : w4.heap.size < w10.heap.size := Nat.lt_of_lt_of_le spL_W9 hb_w10.size
    have im0_w10 := (hb_w10.cell imL_W9).trans im0_W9
    have im1_w10 := (hb_w10.cell imL_W9).trans im1_W9
    have imF_w10 : ∀ o, w10.frozen? ⟨w8.heap.size, o, none⟩ = false := fun o => (hb_w10.frozen imL_W9).trans (imF_W9 o)
    have imL_w10 : w8.heap.size < w10.heap.size := Nat.lt_of_lt_of_le imL_W9 hb_w10.size
    have oS_w10 := hidP (OwnG.later oS_W9.out hb_w10)
    have oT_w10 := hidP (OwnG.later oT_W9.out hb_w10)
    have oZ_w10 := hidP (OwnG.later oZ_W9.out hb_w10)
    have oI_w10 := hidP (OwnG.later oI_W9.out hb_w10)
    have oJ_w10 := hidP (OwnG.later oJ_W9.out hb_w10)
    have acc_w10 := hidP (acc_W9.out.trans (hb_w10.mono acc_W9.out.size))
    have sz_w10 : Hid (W9.heap.size ≤ w10.heap.size) := hidP hb_w10.size
    clear hb_w10 sp0_W9 sp1_W9 spF_W9 spL_W9 im0_W9 im1_W9 imF_W9 imL_W9 oS_W9 oT_W9 oZ_W9 oI_W9 oJ_W9 acc_W9
    go_wp2_with fail
    refine (HTi.out _ acc_w10.out).mono ?_
    rintro e w12b ⟨j3, rfl, oj3, hb_w12b⟩
    have OX := hidP oj3
    clear oj3
    have sp0_w12b := (hb_w12b.cell spL_w10).trans sp0_w10
    have sp1_w12b := (hb_w12b.cell spL_w10).trans sp1_w10
    have spF_w12b : ∀ o, w12b.frozen? ⟨w4.heap.size, o, none⟩ = false := fun o => (hb_w12b.frozen spL_w10).trans (spF_w10 o)
    have spL_w12b : w4.heap.size < w12b.heap.size := Nat.lt_of_lt_of_le spL_w10 hb_w12b.size
    have im0_w12b := (hb_w12b.cell imL_w10).trans im0_w10
    have im1_w12b := (hb_w12b.cell imL_w10).trans im1_w10
    have imF_w12b : ∀ o, w12b.frozen? ⟨w8.heap.size, o, none⟩ = false := fun o => (hb_w12b.frozen imL_w10).trans (imF_w10 o)
    have imL_w12b : w8.heap.size < w12b.heap.size := Nat.lt_of_lt_of_le imL_w10 hb_w12b.size
    have oS_w12b := hidP (OwnG.later oS_w10.out hb_w12b)
    have oT_w12b := hidP (OwnG.later oT_w10.out hb_w12b)
    have oZ_w12b := hidP (OwnG.later oZ_w10.out hb_w12b)
    have oI_w12b := hidP (OwnG.later oI_w10.out hb_w12b)
    have oJ_w12b := hidP (OwnG.later oJ_w10.out hb_w12b)
    have acc_w12b := hidP (acc_w10.out.trans (hb_w12b.mono acc_w10.out.size))
    have sz_w12b : Hid (w10.heap.size ≤ w12b.heap.size) := hidP hb_w12b.size
    clear hb_w12b sp0_w10 sp1_w10 spF_w10 spL_w10 im0_w10 im1_w10 imF_w10 imL_w10 oS_w10 oT_w10 oZ_w10 oI_w10 oJ_w10 acc_w10
    have oN_w12b := hidP (OX.out)
    have lhN : Hid (∀ k, (Value.slice (some ⟨j3, 0, none⟩) m m).ownBlock = some k → w10.heap.size ≤ k ∧ k < w12b.heap.size) := hidP (fun k hk => OwnG.lt oN_w12b.out k hk)
    clear OX
    go_wp2_with fail
    refine (HEi.out _ j2 j3 oZ_w12b.out.row oN_w12b.out.row).mono ?_
    rintro e w12c ⟨rfl, hb_w12c⟩
    clear oN_w12b
    have sp0_w12c := (hb_w12c.cell spL_w12b).trans sp0_w12b
    have sp1_w12c := (hb_w12c.cell spL_w12b).trans sp1_w12b
    have spF_w12c : ∀ o, w12c.frozen? ⟨w4.heap.size, o, none⟩ = false := fun o => (hb_w12c.frozen spL_w12b).trans (spF_w12b o)
    have spL_w12c : w4.heap.size < w12c.heap.size := Nat.lt_of_lt_of_le spL_w12b hb_w12c.size
    have im0_w12c := (hb_w12c.cell imL_w12b).trans im0_w12b
    have im1_w12c := (hb_w12c.cell imL_w12b).trans im1_w12b
    have imF_w12c : ∀ o, w12c.frozen? ⟨w8.heap.size, o, none⟩ = false := fun o => (hb_w12c.frozen imL_w12b).trans (imF_w12b o)
    have imL_w12c : w8.heap.size < w12c.heap.size := Nat.lt_of_lt_of_le imL_w12b hb_w12c.size
    have oS_w12c := hidP (OwnG.later oS_w12b.out hb_w12c)
    have oT_w12c := hidP (OwnG.later oT_w12b.out hb_w12c)
    have oZ_w12c := hidP (OwnG.later oZ_w12b.out hb_w12c)
    have oI_w12c := hidP (OwnG.later oI_w12b.out hb_w12c)
    have oJ_w12c := hidP (OwnG.later oJ_w12b.out hb_w12c)
    have acc_w12c := hidP (acc_w12b.out.trans (hb_w12c.mono acc_w12b.out.size))
    have sz_w12c : Hid (w12b.heap.size ≤ w12c.heap.size) := hidP hb_w12c.size
    clear hb_w12c sp0_w12b sp1_w12b spF_w12b spL_w12b im0_w12b im1_w12b imF_w12b imL_w12b oS_w12b oT_w12b oZ_w12b oI_w12b oJ_w12b acc_w12b
    go_wp2_with fail
    refine (HMi.out w12c j2 _ oZ_w12c.out).mono ?_
    rintro e w13b ⟨rfl, om5, hgz⟩
    clear om5
    clear oZ_w12c
    have nesp : ∀ k, (Value.slice (some ⟨j2, 0, none⟩) m m).ownBlock = some k → k ≠ w4.heap.size := fun k hk => by have h5 := lhZ.out k hk; have := sz_w3.out; have := sz_w4.out; have := as_W5.out; have := sz_W5.out; have := sz_w6.out; have := sz_w8.out; have := as_W9.out; have := sz_W9.out; have := sz_w10.out; have := sz_w12b.out; have := sz_w12c.out; omega
    have sp0_w13b := cell_grown hgz sp0_w12c nesp
    have sp1_w13b := cell_grown hgz sp1_w12c nesp
    have spF_w13b : ∀ o, w13b.frozen? ⟨w4.heap.size, o, none⟩ = false := fun o => frz_grown hgz spL_w12c (spF_w12c o) nesp
    have spL_w13b : w4.heap.size < w13b.heap.size := Nat.lt_of_lt_of_le spL_w12c hgz.size
    have neim : ∀ k, (Value.slice (some ⟨j2, 0, none⟩) m m).ownBlock = some k → k ≠ w8.heap.size := fun k hk => by have h5 := lhZ.out k hk; have := sz_w3.out; have := sz_w4.out; have := as_W5.out; have := sz_W5.out; have := sz_w6.out; have := sz_w8.out; have := as_W9.out; have := sz_W9.out; have := sz_w10.out; have := sz_w12b.out; have := sz_w12c.out; omega
    have im0_w13b := cell_grown hgz im0_w12c neim
    have im1_w13b := cell_grown hgz im1_w12c neim
    have imF_w13b : ∀ o, w13b.frozen? ⟨w8.heap.size, o, none⟩ = false := fun o => frz_grown hgz imL_w12c (imF_w12c o) neim
    have imL_w13b : w8.heap.size < w13b.heap.size := Nat.lt_of_lt_of_le imL_w12c hgz.size
    have oS_w13b := hidP (OwnG.grown oS_w12c.out hgz (fun j hj he => by have h5 := lhS.out j hj; have h6 := lhZ.out j he; have := sz_w3.out; have := sz_w4.out; have := as_W5.out; have := sz_W5.out; have := sz_w6.out; have := sz_w8.out; have := as_W9.out; have := sz_W9.out; have := sz_w10.out; have := sz_w12b.out; have := sz_w12c.out; omega))
    have oT_w13b := hidP (OwnG.grown oT_w12c.out hgz (fun j hj he => by have h5 := lhT.out j hj; have h6 := lhZ.out j he; have := sz_w3.out; have := sz_w4.out; have := as_W5.out; have := sz_W5.out; have := sz_w6.out; have := sz_w8.out; have := as_W9.out; have := sz_W9.out; have := sz_w10.out; have := sz_w12b.out; have := sz_w12c.out; omega))
    have oI_w13b := hidP (OwnG.grown oI_w12c.out hgz (fun j hj he => by have h5 := lhI.out j hj; have h6 := lhZ.out j he; have := sz_w3.out; have := sz_w4.out; have := as_W5.out; have := sz_W5.out; have := sz_w6.out; have := sz_w8.out; have := as_W9.out; have := sz_W9.out; have := sz_w10.out; have := sz_w12b.out; have := sz_w12c.out; omega))
    have oJ_w13b := hidP (OwnG.grown oJ_w12c.out hgz (fun j hj he => by have h5 := lhJ.out j hj; have h6 := lhZ.out j he; have := sz_w3.out; have := sz_w4.out; have := as_W5.out; have := sz_W5.out; have := sz_w6.out; have := sz_w8.out; have := as_W9.out; have := sz_W9.out; have := sz_w10.out; have := sz_w12b.out; have := sz_w12c.out; omega))
    have acc_w13b := hidP (Below.grown acc_w12c.out hgz acc_w12c.out.size (fun k hk => by have h5 := lhZ.out k hk; have := sz_w3.out; have := sz_w4.out; have := as_W5.out; have := sz_W5.out; have := sz_w6.out; have := sz_w8.out; have := as_W9.out; have := sz_W9.out; have := sz_w10.out; have := sz_w12b.out; have := sz_w12c.out; omega))
    have sz_w13b : Hid (w12c.heap.size ≤ w13b.heap.size) := hidP hgz.size
    clear hgz sp0_w12c sp1_w12c spF_w12c spL_w12c nesp im0_w12c im1_w12c imF_w12c imL_w12c neim oS_w12c oT_w12c oI_w12c oJ_w12c acc_w12c
    go_wp2_with fail
    refine (HEr.out _ a8 c8 b8 d8 a4 c4 b4 d4 oI_w13b.out.row oS_w13b.out.row oJ_w13b.out.row oT_w13b.out.row).mono ?_
    rintro e w14 ⟨rfl, hb_w14⟩
    have sp0_w14 := (hb_w14.cell spL_w13b).trans sp0_w13b
    have sp1_w14 := (hb_w14.cell spL_w13b).trans sp1_w13b
    have spF_w14 : ∀ o, w14.frozen? ⟨w4.heap.size, o, none⟩ = false := fun o => (hb_w14.frozen spL_w13b).trans (spF_w13b o)
    have spL_w14 : w4.heap.size < w14.heap.size := Nat.lt_of_lt_of_le spL_w13b hb_w14.size
    have im0_w14 := (hb_w14.cell imL_w13b).trans im0_w13b
    have im1_w14 := (hb_w14.cell imL_w13b).trans im1_w13b
    have imF_w14 : ∀ o, w14.frozen? ⟨w8.heap.size, o, none⟩ = false := fun o => (hb_w14.frozen imL_w13b).trans (imF_w13b o)
    have imL_w14 : w8.heap.size < w14.heap.size := Nat.lt_of_lt_of_le imL_w13b hb_w14.size
    have oS_w14 := hidP (OwnG.later oS_w13b.out hb_w14)
    have oT_w14 := hidP (OwnG.later oT_w13b.out hb_w14)
    have oI_w14 := hidP (OwnG.later oI_w13b.out hb_w14)
    have oJ_w14 := hidP (OwnG.later oJ_w13b.out hb_w14)
    have acc_w14 := hidP (acc_w13b.out.trans (hb_w14.mono acc_w13b.out.size))
    have sz_w14 : Hid (w13b.heap.size ≤ w14.heap.size) := hidP hb_w14.size
    clear hb_w14 sp0_w13b sp1_w13b spF_w13b spL_w13b im0_w13b im1_w13b imF_w13b imL_w13b oS_w13b oT_w13b oI_w13b oJ_w13b acc_w13b
    go_wp2_with fail
    refine (HMr.out w14 a8 c8 b8 d8 _ oI_w14.out oJ_w14.out ne8.out).mono ?_
    rintro e w15 ⟨rfl, om3, om4, wn, hgi, hgj⟩
    have OM := hidP (And.intro om3 om4)
    clear om3 om4
    clear oI_w14
    clear oJ_w14
    have nesp : ∀ k, (Value.slice a8 NP c8).ownBlock = some k → k ≠ w4.heap.size := fun k hk => by have h5 := lhI.out k hk; have := sz_w3.out; have := sz_w4.out; have := as_W5.out; have := sz_W5.out; have := sz_w6.out; have := sz_w8.out; have := as_W9.out; have := sz_W9.out; have := sz_w10.out; have := sz_w12b.out; have := sz_w12c.out; have := sz_w13b.out; have := sz_w14.out; omega
    have sp0_wn := cell_grown hgi sp0_w14 nesp
    have sp1_wn := cell_grown hgi sp1_w14 nesp
    have spF_wn : ∀ o, wn.frozen? ⟨w4.heap.size, o, none⟩ = false := fun o => frz_grown hgi spL_w14 (spF_w14 o) nesp
    have spL_wn : w4.heap.size < wn.heap.size := Nat.lt_of_lt_of_le spL_w14 hgi.size
    have neim : ∀ k, (Value.slice a8 NP c8).ownBlock = some k → k ≠ w8.heap.size := fun k hk => by have h5 := lhI.out k hk; have := sz_w3.out; have := sz_w4.out; have := as_W5.out; have := sz_W5.out; have := sz_w6.out; have := sz_w8.out; have := as_W9.out; have := sz_W9.out; have := sz_w10.out; have := sz_w12b.out; have := sz_w12c.out; have := sz_w13b.out; have := sz_w14.out; omega
    have im0_wn := cell_grown hgi im0_w14 neim
    have im1_wn := cell_grown hgi im1_w14 neim
    have imF_wn : ∀ o, wn.frozen? ⟨w8.heap.size, o, none⟩ = false := fun o => frz_grown hgi imL_w14 (imF_w14 o) neim
    have imL_wn : w8.heap.size < wn.heap.size := Nat.lt_of_lt_of_le imL_w14 hgi.size
    have oS_wn := hidP (OwnG.grown oS_w14.out hgi (fun j hj he => by have h5 := lhS.out j hj; have h6 := lhI.out j he; have := sz_w3.out; have := sz_w4.out; have := as_W5.out; have := sz_W5.out; have := sz_w6.out; have := sz_w8.out; have := as_W9.out; have := sz_W9.out; have := sz_w10.out; have := sz_w12b.out; have := sz_w12c.out; have := sz_w13b.out; have := sz_w14.out; omega))
    have oT_wn := hidP (OwnG.grown oT_w14.out hgi (fun j hj he => by have h5 := lhT.out j hj; have h6 := lhI.out j he; have := sz_w3.out; have := sz_w4.out; have := as_W5.out; have := sz_W5.out; have := sz_w6.out; have := sz_w8.out; have := as_W9.out; have := sz_W9.out; have := sz_w10.out; have := sz_w12b.out; have := sz_w12c.out; have := sz_w13b.out; have := sz_w14.out; omega))
    have acc_wn := hidP (Below.grown acc_w14.out hgi acc_w14.out.size (fun k hk => by have h5 := lhI.out k hk; have := sz_w3.out; have := sz_w4.out; have := as_W5.out; have := sz_W5.out; have := sz_w6.out; have := sz_w8.out; have := as_W9.out; have := sz_W9.out; have := sz_w10.out; have := sz_w12b.out; have := sz_w12c.out; have := sz_w13b.out; have := sz_w14.out; omega))
    have sz_wn : Hid (w14.heap.size ≤ wn.heap.size) := hidP hgi.size
    clear hgi sp0_w14 sp1_w14 spF_w14 spL_w14 nesp im0_w14 im1_w14 imF_w14 imL_w14 neim oS_w14 oT_w14 acc_w14
    have nesp : ∀ k, (Value.slice b8 NB d8).ownBlock = some k → k ≠ w4.heap.size := fun k hk => by have h5 := lhJ.out k hk; have := sz_w3.out; have := sz_w4.out; have := as_W5.out; have := sz_W5.out; have := sz_w6.out; have := sz_w8.out; have := as_W9.out; have := sz_W9.out; have := sz_w10.out; have := sz_w12b.out; have := sz_w12c.out; have := sz_w13b.out; have := sz_w14.out; have := sz_wn.out; omega
    have sp0_w15 := cell_grown hgj sp0_wn nesp
    have sp1_w15 := cell_grown hgj sp1_wn nesp
    have spF_w15 : ∀ o, w15.frozen? ⟨w4.heap.size, o, none⟩ = false := fun o => frz_grown hgj spL_wn (spF_wn o) nesp
    have spL_w15 : w4.heap.size < w15.heap.size := Nat.lt_of_lt_of_le spL_wn hgj.size
    have neim : ∀ k, (Value.slice b8 NB d8).ownBlock = some k → k ≠ w8.heap.size := fun k hk => by have h5 := lhJ.out k hk; have := sz_w3.out; have := sz_w4.out; have := as_W5.out; have := sz_W5.out; have := sz_w6.out; have := sz_w8.out; have := as_W9.out; have := sz_W9.out; have := sz_w10.out; have := sz_w12b.out; have := sz_w12c.out; have := sz_w13b.out; have := sz_w14.out; have := sz_wn.out; omega
    have im0_w15 := cell_grown hgj im0_wn neim
    have im1_w15 := cell_grown hgj im1_wn neim
    have imF_w15 : ∀ o, w15.frozen? ⟨w8.heap.size, o, none⟩ = false := fun o => frz_grown hgj imL_wn (imF_wn o) neim
    have imL_w15 : w8.heap.size < w15.heap.size := Nat.lt_of_lt_of_le imL_wn hgj.size
    have oS_w15 := hidP (OwnG.grown oS_wn.out hgj (fun j hj he => by have h5 := lhS.out j hj; have h6 := lhJ.out j he; have := sz_w3.out; have := sz_w4.out; have := as_W5.out; have := sz_W5.out; have := sz_w6.out; have := sz_w8.out; have := as_W9.out; have := sz_W9.out; have := sz_w10.out; have := sz_w12b.out; have := sz_w12c.out; have := sz_w13b.out; have := sz_w14.out; have := sz_wn.out; omega))
    have oT_w15 := hidP (OwnG.grown oT_wn.out hgj (fun j hj he => by have h5 := lhT.out j hj; have h6 := lhJ.out j he; have := sz_w3.out; have := sz_w4.out; have := as_W5.out; have := sz_W5.out; have := sz_w6.out; have := sz_w8.out; have := as_W9.out; have := sz_W9.out; have := sz_w10.out; have := sz_w12b.out; have := sz_w12c.out; have := sz_w13b.out; have := sz_w14.out; have := sz_wn.out; omega))
    have acc_w15 := hidP (Below.grown acc_wn.out hgj acc_wn.out.size (fun k hk => by have h5 := lhJ.out k hk; have := sz_w3.out; have := sz_w4.out; have := as_W5.out; have := sz_W5.out; have := sz_w6.out; have := sz_w8.out; have := as_W9.out; have := sz_W9.out; have := sz_w10.out; have := sz_w12b.out; have := sz_w12c.out; have := sz_w13b.out; have := sz_w14.out; have := sz_wn.out; omega))
    have sz_w15 : Hid (wn.heap.size ≤ w15.heap.size) := hidP hgj.size
    clear hgj sp0_wn sp1_wn spF_wn spL_wn nesp im0_wn im1_wn imF_wn imL_wn neim oS_wn oT_wn acc_wn
    have oI_w15 := hidP (OM.out.1)
    have oJ_w15 := hidP (OM.out.2)
    clear OM
    go_wp2_with fail
    refine (HHd.out _ a8 c8 b8 d8 oI_w15.out.row oJ_w15.out.row).mono ?_
    rintro e w16 ⟨rfl, hb_w16⟩
    have sp0_w16 := (hb_w16.cell spL_w15).trans sp0_w15
    have sp1_w16 := (hb_w16.cell spL_w15).trans sp1_w15
    have spF_w16 : ∀ o, w16.frozen? ⟨w4.heap.size, o, none⟩ = false := fun o => (hb_w16.frozen spL_w15).trans (spF_w15 o)
    have spL_w16 : w4.heap.size < w16.heap.size := Nat.lt_of_lt_of_le spL_w15 hb_w16.size
    have im0_w16 := (hb_w16.cell imL_w15).trans im0_w15
    have im1_w16 := (hb_w16.cell imL_w15).trans im1_w15
    have imF_w16 : ∀ o, w16.frozen? ⟨w8.heap.size, o, none⟩ = false := fun o => (hb_w16.frozen imL_w15).trans (imF_w15 o)
    have imL_w16 : w8.heap.size < w16.heap.size := Nat.lt_of_lt_of_le imL_w15 hb_w16.size
    have oS_w16 := hidP (OwnG.later oS_w15.out hb_w16)
    have oT_w16 := hidP (OwnG.later oT_w15.out hb_w16)
    have oI_w16 := hidP (OwnG.later oI_w15.out hb_w16)
    have oJ_w16 := hidP (OwnG.later oJ_w15.out hb_w16)
    have acc_w16 := hidP (acc_w15.out.trans (hb_w16.mono acc_w15.out.size))
    have sz_w16 : Hid (w15.heap.size ≤ w16.heap.size) := hidP hb_w16.size
    clear hb_w16 sp0_w15 sp1_w15 spF_w15 spL_w15 im0_w15 im1_w15 imF_w15 imL_w15 oS_w15 oT_w15 oI_w15 oJ_w15 acc_w15
    go_wp2_with fail
    refine (HTi.out _ acc_w16.out).mono ?_
    rintro e w17b ⟨j4, rfl, oj4, hb_w17b⟩
    have OX := hidP oj4
    clear oj4
    have sp0_w17b := (hb_w17b.cell spL_w16).trans sp0_w16
    have sp1_w17b := (hb_w17b.cell spL_w16).trans sp1_w16
    have spF_w17b : ∀ o, w17b.frozen? ⟨w4.heap.size, o, none⟩ = false := fun o => (hb_w17b.frozen spL_w16).trans (spF_w16 o)
    have spL_w17b : w4.heap.size < w17b.heap.size := Nat.lt_of_lt_of_le spL_w16 hb_w17b.size
    have im0_w17b := (hb_w17b.cell imL_w16).trans im0_w16
    have im1_w17b := (hb_w17b.cell imL_w16).trans im1_w16
    have imF_w17b : ∀ o, w17b.frozen? ⟨w8.heap.size, o, none⟩ = false := fun o => (hb_w17b.frozen imL_w16).trans (imF_w16 o)
    have imL_w17b : w8.heap.size < w17b.heap.size := Nat.lt_of_lt_of_le imL_w16 hb_w17b.size
    have oS_w17b := hidP (OwnG.later oS_w16.out hb_w17b)
    have oT_w17b := hidP (OwnG.later oT_w16.out hb_w17b)
    have oI_w17b := hidP (OwnG.later oI_w16.out hb_w17b)
    have oJ_w17b := hidP (OwnG.later oJ_w16.out hb_w17b)
    have acc_w17b := hidP (acc_w16.out.trans (hb_w17b.mono acc_w16.out.size))
    have sz_w17b : Hid (w16.heap.size ≤ w17b.heap.size) := hidP hb_w17b.size
    clear hb_w17b sp0_w16 sp1_w16 spF_w16 spL_w16 im0_w16 im1_w16 imF_w16 imL_w16 oS_w16 oT_w16 oI_w16 oJ_w16 acc_w16
    have oZ_w17b := hidP (OX.out)
    have lhZ : Hid (∀ k, (Value.slice (some ⟨j4, 0, none⟩) m m).ownBlock = some k → w16.heap.size ≤ k ∧ k < w17b.heap.size) := hidP (fun k hk => OwnG.lt oZ_w17b.out k hk)
    clear OX
    go_wp2_with fail
    refine (HIm.out j4 _ oZ_w17b.out.row).mono ?_
    rintro e w18 ⟨a18, c18, b18, d18, rfl, og18, oh18, nq18, hb18⟩
    have OX := hidP (And.intro og18 (And.intro oh18 nq18))
    clear og18 oh18 nq18
    have sp0_w18 := (hb18.cell spL_w17b).trans sp0_w17b
    have sp1_w18 := (hb18.cell spL_w17b).trans sp1_w17b
    have spF_w18 : ∀ o, w18.frozen? ⟨w4.heap.size, o, none⟩ = false := fun o => (hb18.frozen spL_w17b).trans (spF_w17b o)
    have spL_w18 : w4.heap.size < w18.heap.size := Nat.lt_of_lt_of_le spL_w17b hb18.size
    have im0_w18 := (hb18.cell imL_w17b).trans im0_w17b
    have im1_w18 := (hb18.cell imL_w17b).trans im1_w17b
    have imF_w18 : ∀ o, w18.frozen? ⟨w8.heap.size, o, none⟩ = false := fun o => (hb18.frozen imL_w17b).trans (imF_w17b o)
    have imL_w18 : w8.heap.size < w18.heap.size := Nat.lt_of_lt_of_le imL_w17b hb18.size
    have oS_w18 := hidP (OwnG.later oS_w17b.out hb18)
    have oT_w18 := hidP (OwnG.later oT_w17b.out hb18)
    have oI_w18 := hidP (OwnG.later oI_w17b.out hb18)
    have oJ_w18 := hidP (OwnG.later oJ_w17b.out hb18)
    have oZ_w18 := hidP (OwnG.later oZ_w17b.out hb18)
    have acc_w18 := hidP (acc_w17b.out.trans (hb18.mono acc_w17b.out.size))
    have sz_w18 : Hid (w17b.heap.size ≤ w18.heap.size) := hidP hb18.size
    clear hb18 sp0_w17b sp1_w17b spF_w17b spL_w17b im0_w17b im1_w17b imF_w17b imL_w17b oS_w17b oT_w17b oI_w17b oJ_w17b oZ_w17b acc_w17b
    have oU_w18 := hidP (OX.out.1)
    have lhU : Hid (∀ k, (Value.slice a18 NP c18).ownBlock = some k → w17b.heap.size ≤ k ∧ k < w18.heap.size) := hidP (fun k hk => OwnG.lt oU_w18.out k hk)
    have oV_w18 := hidP (OX.out.2.1)
    have lhV : Hid (∀ k, (Value.slice b18 NB d18).ownBlock = some k → w17b.heap.size ≤ k ∧ k < w18.heap.size) := hidP (fun k hk => OwnG.lt oV_w18.out k hk)
    have ne18 := hidP OX.out.2.2
    clear OX
    go_wp2_with fail
    obtain ⟨hh0_W19, hh1_W19⟩ := box2D w18 26 (.slice a18 NP c18) (.slice b18 NB d18)
    have hhF_W19 : ∀ o, (w18.alloc (.cells #[.slice a18 NP c18, .slice b18 NB d18] 26)).frozen? ⟨w18.heap.size, o, none⟩ = false := fun o => by simp [go_sem]
    have hhL_W19 : w18.heap.size < (w18.alloc (.cells #[.slice a18 NP c18, .slice b18 NB d18] 26)).heap.size := by simp
    have ab_W19 := alloc_below w18 (.cells #[.slice a18 NP c18, .slice b18 NB d18] 26)
    have as_W19 : Hid ((w18.alloc (.cells #[.slice a18 NP c18, .slice b18 NB d18] 26)).heap.size = w18.heap.size + 1) := hidP (by simp)
    generalize w18.alloc (.cells #[.slice a18 NP c18, .slice b18 NB d18] 26) = W19 at *
    have sp0_W19 := (ab_W19.cell spL_w18).trans sp0_w18
    have sp1_W19 := (ab_W19.cell spL_w18).trans sp1_w18
    have spF_W19 : ∀ o, W19.frozen? ⟨w4.heap.size, o, none⟩ = false := fun o => (ab_W19.frozen spL_w18).trans (spF_w18 o)
    have spL_W19 : w4.heap.size < W19.heap.size := Nat.lt_of_lt_of_le spL_w18 ab_W19.size
    have im0_W19 := (ab_W19.cell imL_w18).trans im0_w18
    have im1_W19 := (ab_W19.cell imL_w18).trans im1_w18
    have imF_W19 : ∀ o, W19.frozen? ⟨w8.heap.size, o, none⟩ = false := fun o => (ab_W19.frozen imL_w18).trans (imF_w18 o)
    have imL_W19 : w8.heap.size < W19.heap.size := Nat.lt_of_lt_of_le imL_w18 ab_W19.size
    have oS_W19 := hidP (OwnG.later oS_w18.out ab_W19)
    have oT_W19 := hidP (OwnG.later oT_w18.out ab_W19)
    have oI_W19 := hidP (OwnG.later oI_w18.out ab_W19)
    have oJ_W19 := hidP (OwnG.later oJ_w18.out ab_W19)
    have oZ_W19 := hidP (OwnG.later oZ_w18.out ab_W19)
    have oU_W19 := hidP (OwnG.later oU_w18.out ab_W19)
    have oV_W19 := hidP (OwnG.later oV_w18.out ab_W19)
    have acc_W19 := hidP (acc_w18.out.trans (ab_W19.mono acc_w18.out.size))
    have sz_W19 : Hid (w18.heap.size ≤ W19.heap.size) := hidP ab_W19.size
    clear ab_W19 sp0_w18 sp1_w18 spF_w18 spL_w18 im0_w18 im1_w18 imF_w18 imL_w18 oS_w18 oT_w18 oI_w18 oJ_w18 oZ_w18 oU_w18 oV_w18 acc_w18
    clear oZ_W19
    refine (HEr.out _ a18 c18 b18 d18 a4 c4 b4 d4 oU_W19.out.row oS_W19.out.row oV_W19.out.row oT_W19.out.row).mono ?_
    rintro e w20 ⟨rfl, hb_w20⟩
    have sp0_w20 := (hb_w20.cell spL_W19).trans sp0_W19
    have sp1_w20 := (hb_w20.cell spL_W19).trans sp1_W19
    have spF_w20 : ∀ o, w20.frozen? ⟨w4.heap.size, o, none⟩ = false := fun o => (hb_w20.frozen spL_W19).trans (spF_W19 o)
    have spL_w20 : w4.heap.size < w20.heap.size := Nat.lt_of_lt_of_le spL_W19 hb_w20.size
    have im0_w20 := (hb_w20.cell imL_W19).trans im0_W19
    have im1_w20 := (hb_w20.cell imL_W19).trans im1_W19
    have imF_w20 : ∀ o, w20.frozen? ⟨w8.heap.size, o, none⟩ = false := fun o => (hb_w20.frozen imL_W19).trans (imF_W19 o)
    have imL_w20 : w8.heap.size < w20.heap.size := Nat.lt_of_lt_of_le imL_W19 hb_w20.size
    have hh0_w20 := (hb_w20.cell hhL_W19).trans hh0_W19
    have hh1_w20 := (hb_w20.cell hhL_W19).trans hh1_W19
    have hhF_w20 : ∀ o, w20.frozen? ⟨w18.heap.size, o, none⟩ = false := fun o => (hb_w20.frozen hhL_W19).trans (hhF_W19 o)
    have hhL_w20 : w18.heap.size < w20.heap.size := Nat.lt_of_lt_of_le hhL_W19 hb_w20.size
    have oS_w20 := hidP (OwnG.later oS_W19.out hb_w20)
    have oT_w20 := hidP (OwnG.later oT_W19.out hb_w20)
    have oI_w20 := hidP (OwnG.later oI_W19.out hb_w20)
    have oJ_w20 := hidP (OwnG.later oJ_W19.out hb_w20)
    have oU_w20 := hidP (OwnG.later oU_W19.out hb_w20)
    have oV_w20 := hidP (OwnG.later oV_W19.out hb_w20)
    have acc_w20 := hidP (acc_W19.out.trans (hb_w20.mono acc_W19.out.size))
    have sz_w20 : Hid (W19.heap.size ≤ w20.heap.size) := hidP hb_w20.size
    clear hb_w20 sp0_W19 sp1_W19 spF_W19 spL_W19 im0_W19 im1_W19 imF_W19 imL_W19 hh0_W19 hh1_W19 hhF_W19 hhL_W19 oS_W19 oT_W19 oI_W19 oJ_W19 oU_W19 oV_W19 acc_W19
    go_wp2_with fail
    refine (HHd.out _ a8 c8 b8 d8 oI_w20.out.row oJ_w20.out.row).mono ?_
    rintro e w21 ⟨rfl, hb_w21⟩
    have sp0_w21 := (hb_w21.cell spL_w20).trans sp0_w20
    have sp1_w21 := (hb_w21.cell spL_w20).trans sp1_w20
    have spF_w21 : ∀ o, w21.frozen? ⟨w4.heap.size, o, none⟩ = false := fun o => (hb_w21.frozen spL_w20).trans (spF_w20 o)
    have spL_w21 : w4.heap.size < w21.heap.size := Nat.lt_of_lt_of_le spL_w20 hb_w21.size
    have im0_w21 := (hb_w21.cell imL_w20).trans im0_w20
    have im1_w21 := (hb_w21.cell imL_w20).trans im1_w20
    have imF_w21 : ∀ o, w21.frozen? ⟨w8.heap.size, o, none⟩ = false := fun o => (hb_w21.frozen imL_w20).trans (imF_w20 o)
    have imL_w21 : w8.heap.size < w21.heap.size := Nat.lt_of_lt_of_le imL_w20 hb_w21.size
    have hh0_w21 := (hb_w21.cell hhL_w20).trans hh0_w20
    have hh1_w21 := (hb_w21.cell hhL_w20).trans hh1_w20
    have hhF_w21 : ∀ o, w21.frozen? ⟨w18.heap.size, o, none⟩ = false := fun o => (hb_w21.frozen hhL_w20).trans (hhF_w20 o)
    have hhL_w21 : w18.heap.size < w21.heap.size := Nat.lt_of_lt_of_le hhL_w20 hb_w21.size
    have oS_w21 := hidP (OwnG.later oS_w20.out hb_w21)
    have oT_w21 := hidP (OwnG.later oT_w20.out hb_w21)
    have oI_w21 := hidP (OwnG.later oI_w20.out hb_w21)
    have oJ_w21 := hidP (OwnG.later oJ_w20.out hb_w21)
    have oU_w21 := hidP (OwnG.later oU_w20.out hb_w21)
    have oV_w21 := hidP (OwnG.later oV_w20.out hb_w21)
    have acc_w21 := hidP (acc_w20.out.trans (hb_w21.mono acc_w20.out.size))
    have sz_w21 : Hid (w20.heap.size ≤ w21.heap.size) := hidP hb_w21.size
    clear hb_w21 sp0_w20 sp1_w20 spF_w20 spL_w20 im0_w20 im1_w20 imF_w20 imL_w20 hh0_w20 hh1_w20 hhF_w20 hhL_w20 oS_w20 oT_w20 oI_w20 oJ_w20 oU_w20 oV_w20 acc_w20
    go_wp2_with fail
    go_ret
    exact ⟨rfl, acc_w21.out⟩
  · have e0 : decide ((1048576 : Int) < (m : Int)) = true := decide_eq_true (by omega)
    have e0' : (1048576 : Int) < (m : Int) := by omega
    clear hQ hm ho
    go_enter Try.func8, Try.ntmps8
    go_wp2_with fail
    go_ret
    exact ⟨rfl, Below.refl _ _⟩

set_option maxRecDepth 100000 in
theorem getGroup_lifted (os : Os) (started : os.Started) (H : Type) (enc : TypeId × Value → H) :
    ReturnsInHanded {} Try.checked os 8 .any (Rows.fnExactGetGroupSpec.pre6 enc Try.prog Try.f8 Rows.fnExactGetGroupRow.domain false) (Rows.fnExactGetGroupSpec.post enc Try.prog Try.f8 false true false false) := by
  refine returnsInHanded_of_change (C := Try.checked) Try.ownG12 started (by kernel_rfl) Try.func8
    (ChangeSpec.witness6 (enc := enc) (C := Try.checked) false ⟨#[], #[.slice none 0 0], []⟩ 8 (by kernel_rfl) (by kernel_rfl) (by kernel_rfl) (by kernel_rfl)) ?_
  intro W base args ds gs before hval0 hW _ _
  have hval : ∀ (j : Nat) t v, Try.f8.params[j]? = some t → args[j]? = some v → Value.okWide Try.prog W .any base t v := hval0
  have hW' := hW
  obtain ⟨p, q, hA0, hV, rfl, _, _⟩ := hW
  have hA : DataW.TrodAll enc Try.prog W 0 (fun _ => true) true Try.f8.params.toList args.toList ds p := hA0
  rw [Try.params8] at hA hval
  obtain ⟨v0, d0, rfl, rfl, h0⟩ := trodAll_one hA
  obtain ⟨rfl, rfl⟩ := trodVars_none hV
  obtain ⟨aj, m, cj, rfl⟩ := okWide_slice Try.underlying22 (hval 0 22 v0 rfl rfl)
  obtain ⟨zs, hm, ho, hQ⟩ := byt_open (enc := enc) (W := W) (a := aj) (len := m) (cap := cj) h0
  clear hA0 hval0
  simp only [List.append_nil] at hW'
  have hlt0 : ∀ x ∈ p, x.block < W.heap.size := fun x hx => by simpa using hW'.lt x hx
  refine (lawGetGroup aj m cj zs W hm.symm (row_by.2 hQ) ho).mono fun e W' ⟨he, hb⟩ => ?_
  subst he
  exact ⟨_, rfl, ⟨_, _, _, [], p, [], hW', trodAll_mk1 (shut_bool Try.underlying4 true), trodAll_mk1 (Below.trod Try.laidOutG (by kernel_rfl) (of_decide_eq_true (by kernel_rfl)) h0 hb hlt0), rfl, hb.frame _, fun h => by cases h⟩⟩

theorem getGroup_holds : Rows.FnExactGetGroupSaid :=
  OpenClaim.holds_of_wide 8 Try.f8 rfl rfl rfl rfl rfl rfl rfl ⟨rfl, rfl, rfl, rfl, rfl⟩ rfl rfl rfl rfl rfl (by kernel_rfl) Try.func8 (by kernel_rfl)
    (of_decide_eq_true (by kernel_rfl)) (by unfold Func.isWrapper; rw [if_neg (of_decide_eq_false (by kernel_rfl))]; exact ⟨rfl, rfl⟩)
    (fun os started H enc _ => getGroup_lifted os started H enc)

end Go.Proofs.Ytnngbeoeocbofaa
