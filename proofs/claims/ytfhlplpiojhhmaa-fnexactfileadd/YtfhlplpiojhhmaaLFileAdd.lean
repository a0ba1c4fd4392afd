/-
  For every file and every row of bytes the two FileAdd answer alike, in rows of their own, and leave both as they were, so the exact law of FileAdd returns true; no condition.
-/
import Derived.Test.YtfhlplpiojhhmaaV11A
import Derived.Test.YtfhlplpiojhhmaaCLift
import Derived.Test.YtfhlplpiojhhmaaLFileOk
import Derived.ProofKit
import Derived.Lib.SmallJoins
import Derived.Carry
import Derived.Deep.Slices
import Derived.ChangeMaps5
namespace Go.Proofs.Ytfhlplpiojhhmaa
open Go.ChangeShapes Go.WideShapes Go.ChangeAt Go.RowKit Go.Joins Go.Deep

set_option maxRecDepth 10000 in
set_option maxHeartbeats 8000000 in
theorem lawFileAdd (a : Option Addr) (n c : Nat) (N : Int) (zs : List Int) (b : Option Addr) (m d : Nat) (bs : List Int) (w : World) (hn : n = zs.length) (hP : RowG KBy w a zs) (h9 : n ≤ 9223372036854775807) (hm : m = bs.length) (hQ : RowG KBy w b bs) :
    Calls Try.prog 5 #[.agg #[.slice a n c, .int .i64 N], .slice b m d] w fun e w' => e = .returned (.bool true) ∧ Below w.heap.size w w' := by
  by_cases hk : m ≤ 1048576
  · have dk : decide (1048576 < (m : Int)) = false := decide_eq_false (by omega)
    have dk2 : ¬ (1048576 < (m : Int)) := by omega
    have HSz := hidP (fun W => szFile_any a n c N W h9)
    by_cases ht : (n : Int) ≤ 1048576
    · rw [szT_yes ht] at HSz
      have hl : n ≤ 1048576 := by omega
      have HTo := hidP (fun W h => toFile_any a n c N zs W hn (hP.later h) hl)
      have HTb := hidP (fun W h => toByteG b m d bs W hm (hQ.later h) hk)
      obtain ⟨LS, nL, x, hnL, hlL, hSpec, hImpl⟩ := ad_both n N zs hn hl m bs hm hk
      have HSp := hidP hSpec
      have HIm := hidP hImpl
      have bx : (x != x) = false := by cases x <;> rfl
      have HEx := hidP (fun W g g' e1 e2 => eqFile_same (some ⟨g, 0, none⟩) (some ⟨g', 0, none⟩) n n n N zs W hn e1 e2 (by omega))
      have HEy := hidP (fun W g g' e1 e2 => eqByteG (some ⟨g, 0, none⟩) (some ⟨g', 0, none⟩) m m m bs W hm e1 e2 (by omega))
      have HEq := hidP (fun W a c a' c' e1 e2 => eqFile_same a a' nL c c' N LS W hnL e1 e2 (by omega))
      have HMx := hidP (fun W g B e1 => markFile_any (some ⟨g, 0, none⟩) n n B N zs 1 W hn e1 (by omega) (by omega) (by omega))
      have HMy := hidP (fun W g B e1 => markByteG (some ⟨g, 0, none⟩) m m B bs (1 + (n : Int)) W hm e1 (by omega) (by omega) (by omega))
      have HMg := hidP (fun W a c B e1 => markFile_any a nL c B N LS 1 W hnL e1 (by omega) (by omega) (by omega))
      have HHg := hidP (fun W a c e1 => heldFile_any a nL c N 1 W e1 (by omega) (by omega) (by omega))
      have d1 : decide (1048576 - (n : Int) < 0) = false := decide_eq_false (by omega)
      have d2 : ¬ (1048576 - (n : Int) < 0) := by omega
      generalize 1048576 - (n : Int) = z at *
      have m1 : decide (1 + (n : Int) + (m : Int) < 0) = false := decide_eq_false (by omega)
      have m2 : decide (1 + (nL : Int) < 0) = false := decide_eq_false (by omega)
      clear hP hQ hn hm ht hSpec hImpl hnL
      go_enter Try.func5, Try.ntmps5
      go_wp2_with fail
      obtain ⟨lb0_W1, lb1_W1⟩ := box2D w 34 (.slice a n c) (.int .i64 N)
      have lbF_W1 : ∀ o, (w.alloc (.cells #[.slice a n c, .int .i64 N] 34)).frozen? ⟨w.heap.size, o, none⟩ = false := fun o => by simp [go_sem]
      have lbL_W1 : w.heap.size < (w.alloc (.cells #[.slice a n c, .int .i64 N] 34)).heap.size := by simp
      have ab_W1 := alloc_below w (.cells #[.slice a n c, .int .i64 N] 34)
      have as_W1 : Hid ((w.alloc (.cells #[.slice a n c, .int .i64 N] 34)).heap.size = w.heap.size + 1) := hidP (by simp)
      generalize w.alloc (.cells #[.slice a n c, .int .i64 N] 34) = W1 at *
      have acc_W1 := hidP (ab_W1)
      have sz_W1 : Hid (w.heap.size ≤ W1.heap.size) := hidP ab_W1.size
      clear ab_W1 
      refine (HSz.out _).mono ?_
      rintro e w2 ⟨rfl, hb2⟩
      have lb0_w2 := (hb2.cell lbL_W1).trans lb0_W1
      have lb1_w2 := (hb2.cell lbL_W1).trans lb1_W1
      have lbF_w2 : ∀ o, w2.frozen? ⟨w.heap.size, o, none⟩ = false := fun o => (hb2.frozen lbL_W1).trans (lbF_W1 o)
      have lbL_w2 : w.heap.size < w2.heap.size := Nat.lt_of_lt_of_le lbL_W1 hb2.size
      have acc_w2 := hidP (acc_W1.out.trans (hb2.mono acc_W1.out.size))
      have sz_w2 : Hid (W1.heap.size ≤ w2.heap.size) := hidP hb2.size
      clear hb2 lb0_W1 lb1_W1 lbF_W1 lbL_W1 acc_W1
      go_wp2_with fail
      refine (HTo.out _ acc_w2.out).mono ?_
      rintro e w3 ⟨g1, rfl, og1, hb3⟩
      have Og1 := hidP og1
      clear og1
      have lb0_w3 := (hb3.cell lbL_w2).trans lb0_w2
      have lb1_w3 := (hb3.cell lbL_w2).trans lb1_w2
      have lbF_w3 : ∀ o, w3.frozen? ⟨w.heap.size, o, none⟩ = false := fun o => (hb3.frozen lbL_w2).trans (lbF_w2 o)
      have lbL_w3 : w.heap.size < w3.heap.size := Nat.lt_of_lt_of_le lbL_w2 hb3.size
      have acc_w3 := hidP (acc_w2.out.trans (hb3.mono acc_w2.out.size))
      have sz_w3 : Hid (w2.heap.size ≤ w3.heap.size) := hidP hb3.size
      clear hb3 lb0_w2 lb1_w2 lbF_w2 lbL_w2 acc_w2
      have og1_w3 := hidP (Og1.out)
      have lhg1 : Hid (∀ k, (Value.slice (some ⟨g1, 0, none⟩) n n).ownBlock = some k → w2.heap.size ≤ k ∧ k < w3.heap.size) := hidP (fun k hk => OwnG.lt og1_w3.out k hk)
      clear Og1
      go_wp2_with fail
      refine (HTb.out _ acc_w3.out).mono ?_
      rintro e w30 ⟨h1, rfl, oh1, hb30⟩
      have Oh1 := hidP oh1
      clear oh1
      have lb0_w30 := (hb30.cell lbL_w3).trans lb0_w3
      have lb1_w30 := (hb30.cell lbL_w3).trans lb1_w3
      have lbF_w30 : ∀ o, w30.frozen? ⟨w.heap.size, o, none⟩ = false := fun o => (hb30.frozen lbL_w3).trans (lbF_w3 o)
      have lbL_w30 : w.heap.size < w30.heap.size := Nat.lt_of_lt_of_le lbL_w3 hb30.size
      have og1_w30 := hidP (OwnG.later og1_w3.out hb30)
      have acc_w30 := hidP (acc_w3.out.trans (hb30.mono acc_w3.out.size))
      have sz_w30 : Hid (w3.heap.size ≤ w30.heap.size) := hidP hb30.size
      clear hb30 lb0_w3 lb1_w3 lbF_w3 lbL_w3 og1_w3 acc_w3
      have oh1_w30 := hidP (Oh1.out)
      have lhh1 : Hid (∀ k, (Value.slice (some ⟨h1, 0, none⟩) m m).ownBlock = some k → w3.heap.size ≤ k ∧ k < w30.heap.size) := hidP (fun k hk => OwnG.lt oh1_w30.out k hk)
      clear Oh1
      go_wp2_with fail
      refine (HSp.out g1 h1 _ og1_w30.out.row oh1_w30.out.row).mono ?_
      rintro e w4 ⟨A4, C4, rfl, oR, hb4⟩
      have OR := hidP oR
      clear oR
      have lb0_w4 := (hb4.cell lbL_w30).trans lb0_w30
      have lb1_w4 := (hb4.cell lbL_w30).trans lb1_w30
      have lbF_w4 : ∀ o, w4.frozen? ⟨w.heap.size, o, none⟩ = false := fun o => (hb4.frozen lbL_w30).trans (lbF_w30 o)
      have lbL_w4 : w.heap.size < w4.heap.size := Nat.lt_of_lt_of_le lbL_w30 hb4.size
      have og1_w4 := hidP (OwnG.later og1_w30.out hb4)
      have oh1_w4 := hidP (OwnG.later oh1_w30.out hb4)
      have acc_w4 := hidP (acc_w30.out.trans (hb4.mono acc_w30.out.size))
      have sz_w4 : Hid (w30.heap.size ≤ w4.heap.size) := hidP hb4.size
      clear hb4 lb0_w30 lb1_w30 lbF_w30 lbL_w30 og1_w30 oh1_w30 acc_w30
      have oW_w4 := hidP (OR.out)
      have lhW : Hid (∀ k, (Value.slice A4 nL C4).ownBlock = some k → w30.heap.size ≤ k ∧ k < w4.heap.size) := hidP (fun k hk => OwnG.lt oW_w4.out k hk)
      clear OR
      go_wp2_with fail
      clear og1_w4 lhg1
      clear oh1_w4 lhh1
      obtain ⟨wa0_W5, wa1_W5⟩ := box2D w4 25 (.slice A4 nL C4) (.int .i64 N)
      have waF_W5 : ∀ o, (w4.alloc (.cells #[.slice A4 nL C4, .int .i64 N] 25)).frozen? ⟨w4.heap.size, o, none⟩ = false := fun o => by simp [go_sem]
      have waL_W5 : w4.heap.size < (w4.alloc (.cells #[.slice A4 nL C4, .int .i64 N] 25)).heap.size := by simp
      have ab_W5 := alloc_below w4 (.cells #[.slice A4 nL C4, .int .i64 N] 25)
      have as_W5 : Hid ((w4.alloc (.cells #[.slice A4 nL C4, .int .i64 N] 25)).heap.size = w4.heap.size + 1) := hidP (by simp)
      generalize w4.alloc (.cells #[.slice A4 nL C4, .int .i64 N] 25) = W5 at *
      have lb0_W5 := (ab_W5.cell lbL_w4).trans lb0_w4
      have lb1_W5 := (ab_W5.cell lbL_w4).trans lb1_w4
      have lbF_W5 : ∀ o, W5.frozen? ⟨w.heap.size, o, none⟩ = false := fun o => (ab_W5.frozen lbL_w4).trans (lbF_w4 o)
      have lbL_W5 : w.heap.size < W5.heap.size := Nat.lt_of_lt_of_le lbL_w4 ab_W5.size
      have oW_W5 := hidP (OwnG.later oW_w4.out ab_W5)
      have acc_W5 := hidP (acc_w4.out.trans (ab_W5.mono acc_w4.out.size))
      have sz_W5 : Hid (w4.heap.size ≤ W5.heap.size) := hidP ab_W5.size
      clear ab_W5 lb0_w4 lb1_w4 lbF_w4 lbL_w4 oW_w4 acc_w4
      refine (HTo.out _ acc_W5.out).mono ?_
      rintro e w6 ⟨g2, rfl, og2, hb6⟩
      have Og2 := hidP og2
      clear og2
      have lb0_w6 := (hb6.cell lbL_W5).trans lb0_W5
      have lb1_w6 := (hb6.cell lbL_W5).trans lb1_W5
      have lbF_w6 : ∀ o, w6.frozen? ⟨w.heap.size, o, none⟩ = false := fun o => (hb6.frozen lbL_W5).trans (lbF_W5 o)
      have lbL_w6 : w.heap.size < w6.heap.size := Nat.lt_of_lt_of_le lbL_W5 hb6.size
      have wa0_w6 := (hb6.cell waL_W5).trans wa0_W5
      have wa1_w6 := (hb6.cell waL_W5).trans wa1_W5
      have waF_w6 : ∀ o, w6.frozen? ⟨w4.heap.size, o, none⟩ = false := fun o => (hb6.frozen waL_W5).trans (waF_W5 o)
      have waL_w6 : w4.heap.size < w6.heap.size := Nat.lt_of_lt_of_le waL_W5 hb6.size
      have oW_w6 := hidP (OwnG.later oW_W5.out hb6)
      have acc_w6 := hidP (acc_W5.out.trans (hb6.mono acc_W5.out.size))
      have sz_w6 : Hid (W5.heap.size ≤ w6.heap.size) := hidP hb6.size
      clear hb6 lb0_W5 lb1_W5 lbF_W5 lbL_W5 wa0_W5 wa1_W5 waF_W5 waL_W5 oW_W5 acc_W5
      have oX_w6 := hidP (Og2.out)
      have lhX : Hid (∀ k, (Value.slice (some ⟨g2, 0, none⟩) n n).ownBlock = some k → W5.heap.size ≤ k ∧ k < w6.heap.size) := hidP (fun k hk => OwnG.lt oX_w6.out k hk)
      clear Og2
      go_wp2_with fail
      obtain ⟨xa0_W7, xa1_W7⟩ := box2D w6 25 (.slice (some ⟨g2, 0, none⟩) n n) (.int .i64 N)
      have xaF_W7 : ∀ o, (w6.alloc (.cells #[.slice (some ⟨g2, 0, none⟩) n n, .int .i64 N] 25)).frozen? ⟨w6.heap.size, o, none⟩ = false := fun o => by simp [go_sem]
      have xaL_W7 : w6.heap.size < (w6.alloc (.cells #[.slice (some ⟨g2, 0, none⟩) n n, .int .i64 N] 25)).heap.size := by simp
      have ab_W7 := alloc_below w6 (.cells #[.slice (some ⟨g2, 0, none⟩) n n, .int .i64 N] 25)
      have as_W7 : Hid ((w6.alloc (.cells #[.slice (some ⟨g2, 0, none⟩) n n, .int .i64 N] 25)).heap.size = w6.heap.size + 1) := hidP (by simp)
      generalize w6.alloc (.cells #[.slice (some ⟨g2, 0, none⟩) n n, .int .i64 N] 25) = W7 at *
      have lb0_W7 := (ab_W7.cell lbL_w6).trans lb0_w6
      have lb1_W7 := (ab_W7.cell lbL_w6).trans lb1_w6
      have lbF_W7 : ∀ o, W7.frozen? ⟨w.heap.size, o, none⟩ = false := fun o => (ab_W7.frozen lbL_w6).trans (lbF_w6 o)
      have lbL_W7 : w.heap.size < W7.heap.size := Nat.lt_of_lt_of_le lbL_w6 ab_W7.size
      have wa0_W7 := (ab_W7.cell waL_w6).trans wa0_w6
      have wa1_W7 := (ab_W7.cell waL_w6).trans wa1_w6
      have waF_W7 : ∀ o, W7.frozen? ⟨w4.heap.size, o, none⟩ = false := fun o => (ab_W7.frozen waL_w6).trans (waF_w6 o)
      have waL_W7 : w4.heap.size < W7.heap.size := Nat.lt_of_lt_of_le waL_w6 ab_W7.size
      have oW_W7 := hidP (OwnG.later oW_w6.out ab_W7)
      have oX_W7 := hidP (OwnG.later oX_w6.out ab_W7)
      have acc_W7 := hidP (acc_w6.out.trans (ab_W7.mono acc_w6.out.size))
      have sz_W7 : Hid (w6.heap.size ≤ W7.heap.size) := hidP ab_W7.size
      clear ab_W7 lb0_w6 lb1_w6 lbF_w6 lbL_w6 wa0_w6 wa1_w6 waF_w6 waL_w6 oW_w6 oX_w6 acc_w6
      refine (HTb.out _ acc_W7.out).mono ?_
      rintro e w70 ⟨h2, rfl, oh2, hb70⟩
      have Oh2 := hidP oh2
      clear oh2
      have lb0_w70 := (hb70.cell lbL_W7).trans lb0_W7
      have lb1_w70 := (hb70.cell lbL_W7).trans lb1_W7
      have lbF_w70 : ∀ o, w70.frozen? ⟨w.heap.size, o, none⟩ = false := fun o => (hb70.frozen lbL_W7).trans (lbF_W7 o)
      have lbL_w70 : w.heap.size < w70.heap.size := Nat.lt_of_lt_of_le lbL_W7 hb70.size
      have wa0_w70 := (hb70.cell waL_W7).trans wa0_W7
      have wa1_w70 := (hb70.cell waL_W7).trans wa1_W7
      have waF_w70 : ∀ o, w70.frozen? ⟨w4.heap.size, o, none⟩ = false := fun o => (hb70.frozen waL_W7).trans (waF_W7 o)
      have waL_w70 : w4.heap.size < w70.heap.size := Nat.lt_of_lt_of_le waL_W7 hb70.size
      have xa0_w70 := (hb70.cell xaL_W7).trans xa0_W7
      have xa1_w70 := (hb70.cell xaL_W7).trans xa1_W7
      have xaF_w70 : ∀ o, w70.frozen? ⟨w6.heap.size, o, none⟩ = false := fun o => (hb70.frozen xaL_W7).trans (xaF_W7 o)
      have xaL_w70 : w6.heap.size < w70.heap.size := Nat.lt_of_lt_of_le xaL_W7 hb70.size
      have oW_w70 := hidP (OwnG.later oW_W7.out hb70)
      have oX_w70 := hidP (OwnG.later oX_W7.out hb70)
      have acc_w70 := hidP (acc_W7.out.trans (hb70.mono acc_W7.out.size))
      have sz_w70 : Hid (W7.heap.size ≤ w70.heap.size) := hidP hb70.size
      clear hb70 lb0_W7 lb1_W7 lbF_W7 lbL_W7 wa0_W7 wa1_W7 waF_W7 waL_W7 xa0_W7 xa1_W7 xaF_W7 xaL_W7 oW_W7 oX_W7 acc_W7
      have oY_w70 := hidP (Oh2.out)
      have lhY : Hid (∀ k, (Value.slice (some ⟨h2, 0, none⟩) m m).ownBlock = some k → W7.heap.size ≤ k ∧ k < w70.heap.size) := hidP (fun k hk => OwnG.lt oY_w70.out k hk)
      clear Oh2
      go_wp2_with fail
      refine (HIm.out g2 h2 _ oX_w70.out.row oY_w70.out.row).mono ?_
      rintro e w8 ⟨A8, C8, rfl, oR, hb8⟩
      have OR := hidP oR
      clear oR
      have lb0_w8 := (hb8.cell lbL_w70).trans lb0_w70
      have lb1_w8 := (hb8.cell lbL_w70).trans lb1_w70
      have lbF_w8 : ∀ o, w8.frozen? ⟨w.heap.size, o, none⟩ = false := fun o => (hb8.frozen lbL_w70).trans (lbF_w70 o)
      have lbL_w8 : w.heap.size < w8.heap.size := Nat.lt_of_lt_of_le lbL_w70 hb8.size
      have wa0_w8 := (hb8.cell waL_w70).trans wa0_w70
      have wa1_w8 := (hb8.cell waL_w70).trans wa1_w70
      have waF_w8 : ∀ o, w8.frozen? ⟨w4.heap.size, o, none⟩ = false := fun o => (hb8.frozen waL_w70).trans (waF_w70 o)
      have waL_w8 : w4.heap.size < w8.heap.size := Nat.lt_of_lt_of_le waL_w70 hb8.size
      have xa0_w8 := (hb8.cell xaL_w70).trans xa0_w70
      have xa1_w8 := (hb8.cell xaL_w70).trans xa1_w70
      have xaF_w8 : ∀ o, w8.frozen? ⟨w6.heap.size, o, none⟩ = false := fun o => (hb8.frozen xaL_w70).trans (xaF_w70 o)
      have xaL_w8 : w6.heap.size < w8.heap.size := Nat.lt_of_lt_of_le xaL_w70 hb8.size
      have oW_w8 := hidP (OwnG.later oW_w70.out hb8)
      have oX_w8 := hidP (OwnG.later oX_w70.out hb8)
      have oY_w8 := hidP (OwnG.later oY_w70.out hb8)
      have acc_w8 := hidP (acc_w70.out.trans (hb8.mono acc_w70.out.size))
      have sz_w8 : Hid (w70.heap.size ≤ w8.heap.size) := hidP hb8.size
      clear hb8 lb0_w70 lb1_w70 lbF_w70 lbL_w70 wa0_w70 wa1_w70 waF_w70 waL_w70 xa0_w70 xa1_w70 xaF_w70 xaL_w70 oW_w70 oX_w70 oY_w70 acc_w70
      have oG_w8 := hidP (OR.out)
      have lhG : Hid (∀ k, (Value.slice A8 nL C8).ownBlock = some k → w70.heap.size ≤ k ∧ k < w8.heap.size) := hidP (fun k hk => OwnG.lt oG_w8.out k hk)
      clear OR
      go_wp2_with fail
      obtain ⟨ga0_W9, ga1_W9⟩ := box2D w8 25 (.slice A8 nL C8) (.int .i64 N)
      have gaF_W9 : ∀ o, (w8.alloc (.cells #[.slice A8 nL C8, .int .i64 N] 25)).frozen? ⟨w8.heap.size, o, none⟩ = false := fun o => by simp [go_sem]
      have gaL_W9 : w8.heap.size < (w8.alloc (.cells #[.slice A8 nL C8, .int .i64 N] 25)).heap.size := by simp
      have ab_W9 := alloc_below w8 (.cells #[.slice A8 nL C8, .int .i64 N] 25)
      have as_W9 : Hid ((w8.alloc (.cells #[.slice A8 nL C8, .int .i64 N] 25)).heap.size = w8.heap.size + 1) := hidP (by simp)
      generalize w8.alloc (.cells #[.slice A8 nL C8, .int .i64 N] 25) = W9 at *
      have lb0_W9 := (ab_W9.cell lbL_w8).trans lb0_w8
      have lb1_W9 := (ab_W9.cell lbL_w8).trans lb1_w8
      have lbF_W9 : ∀ o, W9.frozen? ⟨w.heap.size, o, none⟩ = false := fun o => (ab_W9.frozen lbL_w8).trans (lbF_w8 o)
      have lbL_W9 : w.heap.size < W9.heap.size := Nat.lt_of_lt_of_le lbL_w8 ab_W9.size
      have wa0_W9 := (ab_W9.cell waL_w8).trans wa0_w8
      have wa1_W9 := (ab_W9.cell waL_w8).trans wa1_w8
      have waF_W9 : ∀ o, W9.frozen? ⟨w4.heap.size, o, none⟩ = false := fun o => (ab_W9.frozen waL_w8).trans (waF_w8 o)
      have waL_W9 : w4.heap.size < W9.heap.size := Nat.lt_of_lt_of_le waL_w8 ab_W9.size
      have xa0_W9 := (ab_W9.cell xaL_w8).trans xa0_w8
      have xa1_W9 := (ab_W9.cell xaL_w8).trans xa1_w8
      have xaF_W9 : ∀ o, W9.frozen? ⟨w6.heap.size, o, none⟩ = false := fun o => (ab_W9.frozen xaL_w8).trans (xaF_w8 o)
      have xaL_W9 : w6.heap.size < W9.heap.size := Nat.lt_of_lt_of_le xaL_w8 ab_W9.size
      have oW_W9 := hidP (OwnG.later oW_w8.out ab_W9)
      have oX_W9 := hidP (OwnG.later oX_w8.out ab_W9)
      have oY_W9 := hidP (OwnG.later oY_w8.out ab_W9)
      have oG_W9 := hidP (OwnG.later oG_w8.out ab_W9)
      have acc_W9 := hidP (acc_w8.out.trans (ab_W9.mono acc_w8.out.size))
      have sz_W9 : Hid (w8.heap.size ≤ W9.heap.size) := hidP ab_W9.size
      clear ab_W9 lb0_w8 lb1_w8 lbF_w8 lbL_w8 wa0_w8 wa1_w8 waF_w8 waL_w8 xa0_w8 xa1_w8 xaF_w8 xaL_w8 oW_w8 oX_w8 oY_w8 oG_w8 acc_w8
      refine (HEq.out _ A8 C8 A4 C4 oG_W9.out.row oW_W9.out.row).mono ?_
      rintro e w10 ⟨rfl, hb10⟩
      have lb0_w10 := (hb10.cell lbL_W9).trans lb0_W9
      have lb1_w10 := (hb10.cell lbL_W9).trans lb1_W9
      have lbF_w10 : ∀ o, w10.frozen? ⟨w.heap.size, o, none⟩ = false := fun o => (hb10.frozen lbL_W9).trans (lbF_W9 o)
      have lbL_w10 : w.heap.size < w10.heap.size := Nat.lt_of_lt_of_le lbL_W9 hb10.size
      have wa0_w10 := (hb10.cell waL_W9).trans wa0_W9
      have wa1_w10 := (hb10.cell waL_W9).trans wa1_W9
      have waF_w10 : ∀ o, w10.frozen? ⟨w4.heap.size, o, none⟩ = false := fun o => (hb10.frozen waL_W9).trans (waF_W9 o)
      have waL_w10 : w4.heap.size < w10.heap.size := Nat.lt_of_lt_of_le waL_W9 hb10.size
      have xa0_w10 := (hb10.cell xaL_W9).trans xa0_W9
      have xa1_w10 := (hb10.cell xaL_W9).trans xa1_W9
      have xaF_w10 : ∀ o, w10.frozen? ⟨w6.heap.size, o, none⟩ = false := fun o => (hb10.frozen xaL_W9).trans (xaF_W9 o)
      have xaL_w10 : w6.heap.size < w10.heap.size := Nat.lt_of_lt_of_le xaL_W9 hb10.size
      have ga0_w10 := (hb10.cell gaL_W9).trans ga0_W9
      have ga1_w10 := (hb10.cell gaL_W9).trans ga1_W9
      have gaF_w10 : ∀ o, w10.frozen? ⟨w8.heap.size, o, none⟩ = false := fun o => (hb10.frozen gaL_W9).trans (gaF_W9 o)
      have gaL_w10 : w8.heap.size < w10.heap.size := Nat.lt_of_lt_of_le gaL_W9 hb10.size
      have oW_w10 := hidP (OwnG.later oW_W9.out hb10)
      have oX_w10 := hidP (OwnG.later oX_W9.out hb10)
      have oY_w10 := hidP (OwnG.later oY_W9.out hb10)
      have oG_w10 := hidP (OwnG.later oG_W9.out hb10)
      have acc_w10 := hidP (acc_W9.out.trans (hb10.mono acc_W9.out.size))
      have sz_w10 : Hid (W9.heap.size ≤ w10.heap.size) := hidP hb10.size
      clear hb10 lb0_W9 lb1_W9 lbF_W9 lbL_W9 wa0_W9 wa1_W9 waF_W9 waL_W9 xa0_W9 xa1_W9 xaF_W9 xaL_W9 ga0_W9 ga1_W9 gaF_W9 gaL_W9 oW_W9 oX_W9 oY_W9 oG_W9 acc_W9
      go_wp2_with fail
      have HSx : Hid (∀ x, Below w10.heap.size w10 x → (x.cell? ⟨w.heap.size, 0, none⟩ = some (.slice a n c) ∧ x.cell? ⟨w.heap.size, 1, none⟩ = some (.int .i64 N) ∧ x.cell? ⟨w6.heap.size, 0, none⟩ = some (.slice (some ⟨g2, 0, none⟩) n n) ∧ x.cell? ⟨w6.heap.size, 1, none⟩ = some (.int .i64 N) ∧ Below w10.heap.size w10 x)) := hidP fun x h =>
        ⟨(h.cell lbL_w10).trans lb0_w10, (h.cell lbL_w10).trans lb1_w10, (h.cell xaL_w10).trans xa0_w10, (h.cell xaL_w10).trans xa1_w10, h⟩
      refine wp_region_held_drew (S := (fun x => x.cell? ⟨w.heap.size, 0, none⟩ = some (.slice a n c) ∧ x.cell? ⟨w.heap.size, 1, none⟩ = some (.int .i64 N) ∧ x.cell? ⟨w6.heap.size, 0, none⟩ = some (.slice (some ⟨g2, 0, none⟩) n n) ∧ x.cell? ⟨w6.heap.size, 1, none⟩ = some (.int .i64 N) ∧ Below w10.heap.size w10 x)) (by kernel_rfl) ?_ (fun hHeld => ?_)
      · try dsimp only
        exact HSx.out _ ((Below.refl _ _).drew)
      refine wpAnyH_take (i := 0) (oi := ⟨some 52, _, _, _, _, _⟩) (v := ?_) rfl (by kernel_rfl) (by kernel_rfl) (by kernel_rfl) (fun _ _ _ h => h) (Or.inl ⟨by rfl, ?_⟩) (by assumption) ?_
      rotate_left
      · intro w hSw
        try dsimp only at hSw
        go_simp
        try with_reducible rfl
      simp only [Act.put, List.setIfInBounds_toArray, List.set_cons_zero, List.set_cons_succ]
      refine wpAnyH_take (i := 1) (oi := ⟨some 53, _, _, _, _, _⟩) (v := ?_) rfl (by kernel_rfl) (by kernel_rfl) (by kernel_rfl) (fun _ _ _ h => h) (Or.inl ⟨by rfl, ?_⟩) (by assumption) ?_
      rotate_left
      · intro w hSw
        try dsimp only at hSw
        go_simp
        try with_reducible rfl
      simp only [Act.put, List.setIfInBounds_toArray, List.set_cons_zero, List.set_cons_succ]
      refine wpAnyH_ready (rs := [2]) (by kernel_rfl) (by simp) ?_
      refine AllReadyH.cons rfl (fun K hK => ?_) AllReadyH.nil
      go_simp
      go_wp2_with (first | (go_at_call 16; refine (HTo.out _ (acc_w10.out.trans ((hHeld.2.2.2.2).mono acc_w10.out.size))).mono ?_; rintro e w11 ⟨g3, rfl, og3, hb11⟩; have b11 := (hHeld.2.2.2.2).trans (hb11.mono (hHeld.2.2.2.2).size)))
      refine hK.out _ _ ?_ (fun hHeld => ?_)
      · try dsimp only
        exact HSx.out _ b11
      clear hK K
      refine wpAnyH_ready (rs := [3]) (by kernel_rfl) (by simp) ?_
      refine AllReadyH.cons rfl (fun K hK => ?_) AllReadyH.nil
      go_simp
      go_wp2_with (first | (go_at_call 17; refine (HEx.out _ g2 g3 (oX_w10.out.row.later (hHeld.2.2.2.2)) og3.row).mono ?_; rintro e w12 ⟨rfl, hb12⟩; have b12 := (hHeld.2.2.2.2).trans (hb12.mono (hHeld.2.2.2.2).size)))
      refine hK.out _ _ ?_ (fun hHeld => ?_)
      · try dsimp only
        exact HSx.out _ b12
      clear hK K
      refine wpAnyH_take (i := 4) (oi := ⟨some 56, _, _, _, _, _⟩) (v := ?_) rfl (by kernel_rfl) (by kernel_rfl) (by kernel_rfl) (fun _ _ _ h => h) (Or.inl ⟨by rfl, ?_⟩) (by assumption) ?_
      rotate_left
      · intro w hSw
        try dsimp only at hSw
        go_simp
        try with_reducible rfl
      simp only [Act.put, List.setIfInBounds_toArray, List.set_cons_zero, List.set_cons_succ]
      have HE := hidP (hHeld.2.2.2.2)
      refine wpAnyH_done (by kernel_rfl) ?_ _
      clear hHeld
      have hb12' := HE.out
      clear HE hb11 hb12 b11 b12 og3 HSx
      have lb0_w12 := (hb12'.cell lbL_w10).trans lb0_w10
      have lb1_w12 := (hb12'.cell lbL_w10).trans lb1_w10
      have lbF_w12 : ∀ o, w12.frozen? ⟨w.heap.size, o, none⟩ = false := fun o => (hb12'.frozen lbL_w10).trans (lbF_w10 o)
      have lbL_w12 : w.heap.size < w12.heap.size := Nat.lt_of_lt_of_le lbL_w10 hb12'.size
      have wa0_w12 := (hb12'.cell waL_w10).trans wa0_w10
      have wa1_w12 := (hb12'.cell waL_w10).trans wa1_w10
      have waF_w12 : ∀ o, w12.frozen? ⟨w4.heap.size, o, none⟩ = false := fun o => (hb12'.frozen waL_w10).trans (waF_w10 o)
      have waL_w12 : w4.heap.size < w12.heap.size := Nat.lt_of_lt_of_le waL_w10 hb12'.size
      have xa0_w12 := (hb12'.cell xaL_w10).trans xa0_w10
      have xa1_w12 := (hb12'.cell xaL_w10).trans xa1_w10
      have xaF_w12 : ∀ o, w12.frozen? ⟨w6.heap.size, o, none⟩ = false := fun o => (hb12'.frozen xaL_w10).trans (xaF_w10 o)
      have xaL_w12 : w6.heap.size < w12.heap.size := Nat.lt_of_lt_of_le xaL_w10 hb12'.size
      have ga0_w12 := (hb12'.cell gaL_w10).trans ga0_w10
      have ga1_w12 := (hb12'.cell gaL_w10).trans ga1_w10
      have gaF_w12 : ∀ o, w12.frozen? ⟨w8.heap.size, o, none⟩ = false := fun o => (hb12'.frozen gaL_w10).trans (gaF_w10 o)
      have gaL_w12 : w8.heap.size < w12.heap.size := Nat.lt_of_lt_of_le gaL_w10 hb12'.size
      have oW_w12 := hidP (OwnG.later oW_w10.out hb12')
      have oX_w12 := hidP (OwnG.later oX_w10.out hb12')
      have oY_w12 := hidP (OwnG.later oY_w10.out hb12')
      have oG_w12 := hidP (OwnG.later oG_w10.out hb12')
      have acc_w12 := hidP (acc_w10.out.trans (hb12'.mono acc_w10.out.size))
      have sz_w12 : Hid (w10.heap.size ≤ w12.heap.size) := hidP hb12'.size
      clear hb12' lb0_w10 lb1_w10 lbF_w10 lbL_w10 wa0_w10 wa1_w10 waF_w10 waL_w10 xa0_w10 xa1_w10 xaF_w10 xaL_w10 ga0_w10 ga1_w10 gaF_w10 gaL_w10 oW_w10 oX_w10 oY_w10 oG_w10 acc_w10
      go_wp2_with fail
      refine (HTb.out _ acc_w12.out).mono ?_
      rintro e w31 ⟨h3, rfl, oh3, hb31⟩
      have Oh3 := hidP oh3
      clear oh3
      have lb0_w31 := (hb31.cell lbL_w12).trans lb0_w12
      have lb1_w31 := (hb31.cell lbL_w12).trans lb1_w12
      have lbF_w31 : ∀ o, w31.frozen? ⟨w.heap.size, o, none⟩ = false := fun o => (hb31.frozen lbL_w12).trans (lbF_w12 o)
      have lbL_w31 : w.heap.size < w31.heap.size := Nat.lt_of_lt_of_le lbL_w12 hb31.size
      have wa0_w31 := (hb31.cell waL_w12).trans wa0_w12
      have wa1_w31 := (hb31.cell waL_w12).trans wa1_w12
      have waF_w31 : ∀ o, w31.frozen? ⟨w4.heap.size, o, none⟩ = false := fun o => (hb31.frozen waL_w12).trans (waF_w12 o)
      have waL_w31 : w4.heap.size < w31.heap.size := Nat.lt_of_lt_of_le waL_w12 hb31.size
      have xa0_w31 := (hb31.cell xaL_w12).trans xa0_w12
      have xa1_w31 := (hb31.cell xaL_w12).trans xa1_w12
      have xaF_w31 : ∀ o, w31.frozen? ⟨w6.heap.size, o, none⟩ = false := fun o => (hb31.frozen xaL_w12).trans (xaF_w12 o)
      have xaL_w31 : w6.heap.size < w31.heap.size := Nat.lt_of_lt_of_le xaL_w12 hb31.size
      have ga0_w31 := (hb31.cell gaL_w12).trans ga0_w12
      have ga1_w31 := (hb31.cell gaL_w12).trans ga1_w12
      have gaF_w31 : ∀ o, w31.frozen? ⟨w8.heap.size, o, none⟩ = false := fun o => (hb31.frozen gaL_w12).trans (gaF_w12 o)
      have gaL_w31 : w8.heap.size < w31.heap.size := Nat.lt_of_lt_of_le gaL_w12 hb31.size
      have oW_w31 := hidP (OwnG.later oW_w12.out hb31)
      have oX_w31 := hidP (OwnG.later oX_w12.out hb31)
      have oY_w31 := hidP (OwnG.later oY_w12.out hb31)
      have oG_w31 := hidP (OwnG.later oG_w12.out hb31)
      have acc_w31 := hidP (acc_w12.out.trans (hb31.mono acc_w12.out.size))
      have sz_w31 : Hid (w12.heap.size ≤ w31.heap.size) := hidP hb31.size
      clear hb31 lb0_w12 lb1_w12 lbF_w12 lbL_w12 wa0_w12 wa1_w12 waF_w12 waL_w12 xa0_w12 xa1_w12 xaF_w12 xaL_w12 ga0_w12 ga1_w12 gaF_w12 gaL_w12 oW_w12 oX_w12 oY_w12 oG_w12 acc_w12
      have oh3_w31 := hidP (Oh3.out)
      have lhh3 : Hid (∀ k, (Value.slice (some ⟨h3, 0, none⟩) m m).ownBlock = some k → w12.heap.size ≤ k ∧ k < w31.heap.size) := hidP (fun k hk => OwnG.lt oh3_w31.out k hk)
      clear Oh3
      go_wp2_with fail
      refine (HEy.out _ h2 h3 oY_w31.out.row oh3_w31.out.row).mono ?_
      rintro e w32 ⟨rfl, hb32⟩
      have lb0_w32 := (hb32.cell lbL_w31).trans lb0_w31
      have lb1_w32 := (hb32.cell lbL_w31).trans lb1_w31
      have lbF_w32 : ∀ o, w32.frozen? ⟨w.heap.size, o, none⟩ = false := fun o => (hb32.frozen lbL_w31).trans (lbF_w31 o)
      have lbL_w32 : w.heap.size < w32.heap.size := Nat.lt_of_lt_of_le lbL_w31 hb32.size
      have wa0_w32 := (hb32.cell waL_w31).trans wa0_w31
      have wa1_w32 := (hb32.cell waL_w31).trans wa1_w31
      have waF_w32 : ∀ o, w32.frozen? ⟨w4.heap.size, o, none⟩ = false := fun o => (hb32.frozen waL_w31).trans (waF_w31 o)
      have waL_w32 : w4.heap.size < w32.heap.size := Nat.lt_of_lt_of_le waL_w31 hb32.size
      have xa0_w32 := (hb32.cell xaL_w31).trans xa0_w31
      have xa1_w32 := (hb32.cell xaL_w31).trans xa1_w31
      have xaF_w32 : ∀ o, w32.frozen? ⟨w6.heap.size, o, none⟩ = false := fun o => (hb32.frozen xaL_w31).trans (xaF_w31 o)
      have xaL_w32 : w6.heap.size < w32.heap.size := Nat.lt_of_lt_of_le xaL_w31 hb32.size
      have ga0_w32 := (hb32.cell gaL_w31).trans ga0_w31
      have ga1_w32 := (hb32.cell gaL_w31).trans ga1_w31
      have gaF_w32 : ∀ o, w32.frozen? ⟨w8.heap.size, o, none⟩ = false := fun o => (hb32.frozen gaL_w31).trans (gaF_w31 o)
      have gaL_w32 : w8.heap.size < w32.heap.size := Nat.lt_of_lt_of_le gaL_w31 hb32.size
      have oW_w32 := hidP (OwnG.later oW_w31.out hb32)
      have oX_w32 := hidP (OwnG.later oX_w31.out hb32)
      have oY_w32 := hidP (OwnG.later oY_w31.out hb32)
      have oG_w32 := hidP (OwnG.later oG_w31.out hb32)
      have oh3_w32 := hidP (OwnG.later oh3_w31.out hb32)
      have acc_w32 := hidP (acc_w31.out.trans (hb32.mono acc_w31.out.size))
      have sz_w32 : Hid (w31.heap.size ≤ w32.heap.size) := hidP hb32.size
      clear hb32 lb0_w31 lb1_w31 lbF_w31 lbL_w31 wa0_w31 wa1_w31 waF_w31 waL_w31 xa0_w31 xa1_w31 xaF_w31 xaL_w31 ga0_w31 ga1_w31 gaF_w31 gaL_w31 oW_w31 oX_w31 oY_w31 oG_w31 oh3_w31 acc_w31
      clear oh3_w32 lhh3
      go_wp2_with fail
      refine (HMx.out _ g2 _ oX_w32.out).mono ?_
      rintro e w13 ⟨rfl, om, hg⟩
      have OM := hidP om
      clear om
      have nelb : ∀ k, (Value.slice (some ⟨g2, 0, none⟩) n n).ownBlock = some k → k ≠ w.heap.size := fun k hk => by have h5 := lhX.out k hk; have := as_W1.out; have := sz_W1.out; have := sz_w2.out; have := sz_w3.out; have := sz_w30.out; have := sz_w4.out; have := as_W5.out; have := sz_W5.out; have := sz_w6.out; have := as_W7.out; have := sz_W7.out; have := sz_w70.out; have := sz_w8.out; have := as_W9.out; have := sz_W9.out; have := sz_w10.out; have := sz_w12.out; have := sz_w31.out; have := sz_w32.out; omega
      have lb0_w13 := cell_grown hg lb0_w32 nelb
      have lb1_w13 := cell_grown hg lb1_w32 nelb
      have lbF_w13 : ∀ o, w13.frozen? ⟨w.heap.size, o, none⟩ = false := fun o => frz_grown hg lbL_w32 (lbF_w32 o) nelb
      have lbL_w13 : w.heap.size < w13.heap.size := Nat.lt_of_lt_of_le lbL_w32 hg.size
      have newa : ∀ k, (Value.slice (some ⟨g2, 0, none⟩) n n).ownBlock = some k → k ≠ w4.heap.size := fun k hk => by have h5 := lhX.out k hk; have := as_W1.out; have := sz_W1.out; have := sz_w2.out; have := sz_w3.out; have := sz_w30.out; have := sz_w4.out; have := as_W5.out; have := sz_W5.out; have := sz_w6.out; have := as_W7.out; have := sz_W7.out; have := sz_w70.out; have := sz_w8.out; have := as_W9.out; have := sz_W9.out; have := sz_w10.out; have := sz_w12.out; have := sz_w31.out; have := sz_w32.out; omega
      have wa0_w13 := cell_grown hg wa0_w32 newa
      have wa1_w13 := cell_grown hg wa1_w32 newa
      have waF_w13 : ∀ o, w13.frozen? ⟨w4.heap.size, o, none⟩ = false := fun o => frz_grown hg waL_w32 (waF_w32 o) newa
      have waL_w13 : w4.heap.size < w13.heap.size := Nat.lt_of_lt_of_le waL_w32 hg.size
      have nexa : ∀ k, (Value.slice (some ⟨g2, 0, none⟩) n n).ownBlock = some k → k ≠ w6.heap.size := fun k hk => by have h5 := lhX.out k hk; have := as_W1.out; have := sz_W1.out; have := sz_w2.out; have := sz_w3.out; have := sz_w30.out; have := sz_w4.out; have := as_W5.out; have := sz_W5.out; have := sz_w6.out; have := as_W7.out; have := sz_W7.out; have := sz_w70.out; have := sz_w8.out; have := as_W9.out; have := sz_W9.out; have := sz_w10.out; have := sz_w12.out; have := sz_w31.out; have := sz_w32.out; omega
      have xa0_w13 := cell_grown hg xa0_w32 nexa
      have xa1_w13 := cell_grown hg xa1_w32 nexa
      have xaF_w13 : ∀ o, w13.frozen? ⟨w6.heap.size, o, none⟩ = false := fun o => frz_grown hg xaL_w32 (xaF_w32 o) nexa
      have xaL_w13 : w6.heap.size < w13.heap.size := Nat.lt_of_lt_of_le xaL_w32 hg.size
      have nega : ∀ k, (Value.slice (some ⟨g2, 0, none⟩) n n).ownBlock = some k → k ≠ w8.heap.size := fun k hk => by have h5 := lhX.out k hk; have := as_W1.out; have := sz_W1.out; have := sz_w2.out; have := sz_w3.out; have := sz_w30.out; have := sz_w4.out; have := as_W5.out; have := sz_W5.out; have := sz_w6.out; have := as_W7.out; have := sz_W7.out; have := sz_w70.out; have := sz_w8.out; have := as_W9.out; have := sz_W9.out; have := sz_w10.out; have := sz_w12.out; have := sz_w31.out; have := sz_w32.out; omega
      have ga0_w13 := cell_grown hg ga0_w32 nega
      have ga1_w13 := cell_grown hg ga1_w32 nega
      have gaF_w13 : ∀ o, w13.frozen? ⟨w8.heap.size, o, none⟩ = false := fun o => frz_grown hg gaL_w32 (gaF_w32 o) nega
      have gaL_w13 : w8.heap.size < w13.heap.size := Nat.lt_of_lt_of_le gaL_w32 hg.size
      have oW_w13 := hidP (OwnG.grown oW_w32.out hg (fun j hj he => by have h5 := lhW.out j hj; have h6 := lhX.out j he; have := as_W1.out; have := sz_W1.out; have := sz_w2.out; have := sz_w3.out; have := sz_w30.out; have := sz_w4.out; have := as_W5.out; have := sz_W5.out; have := sz_w6.out; have := as_W7.out; have := sz_W7.out; have := sz_w70.out; have := sz_w8.out; have := as_W9.out; have := sz_W9.out; have := sz_w10.out; have := sz_w12.out; have := sz_w31.out; have := sz_w32.out; omega))
      have oX_w13 := hidP (OM.out)
      have oY_w13 := hidP (OwnG.grown oY_w32.out hg (fun j hj he => by have h5 := lhY.out j hj; have h6 := lhX.out j he; have := as_W1.out; have := sz_W1.out; have := sz_w2.out; have := sz_w3.out; have := sz_w30.out; have := sz_w4.out; have := as_W5.out; have := sz_W5.out; have := sz_w6.out; have := as_W7.out; have := sz_W7.out; have := sz_w70.out; have := sz_w8.out; have := as_W9.out; have := sz_W9.out; have := sz_w10.out; have := sz_w12.out; have := sz_w31.out; have := sz_w32.out; omega))
      have oG_w13 := hidP (OwnG.grown oG_w32.out hg (fun j hj he => by have h5 := lhG.out j hj; have h6 := lhX.out j he; have := as_W1.out; have := sz_W1.out; have := sz_w2.out; have := sz_w3.out; have := sz_w30.out; have := sz_w4.out; have := as_W5.out; have := sz_W5.out; have := sz_w6.out; have := as_W7.out; have := sz_W7.out; have := sz_w70.out; have := sz_w8.out; have := as_W9.out; have := sz_W9.out; have := sz_w10.out; have := sz_w12.out; have := sz_w31.out; have := sz_w32.out; omega))
      have acc_w13 := hidP (Below.grown acc_w32.out hg acc_w32.out.size (fun k hk => by have h5 := lhX.out k hk; have := as_W1.out; have := sz_W1.out; have := sz_w2.out; have := sz_w3.out; have := sz_w30.out; have := sz_w4.out; have := as_W5.out; have := sz_W5.out; have := sz_w6.out; have := as_W7.out; have := sz_W7.out; have := sz_w70.out; have := sz_w8.out; have := as_W9.out; have := sz_W9.out; have := sz_w10.out; have := sz_w12.out; have := sz_w31.out; have := sz_w32.out; omega))
      have sz_w13 : Hid (w32.heap.size ≤ w13.heap.size) := hidP hg.size
      clear hg lb0_w32 lb1_w32 lbF_w32 lbL_w32 nelb wa0_w32 wa1_w32 waF_w32 waL_w32 newa xa0_w32 xa1_w32 xaF_w32 xaL_w32 nexa ga0_w32 ga1_w32 gaF_w32 gaL_w32 nega oW_w32 oX_w32 oY_w32 oG_w32 acc_w32
      clear OM
      go_wp2_with fail
      refine (HMy.out _ h2 _ oY_w13.out).mono ?_
      rintro e w33 ⟨rfl, om, hg⟩
      have OM := hidP om
      clear om
      have nelb : ∀ k, (Value.slice (some ⟨h2, 0, none⟩) m m).ownBlock = some k → k ≠ w.heap.size := fun k hk => by have h5 := lhY.out k hk; have := as_W1.out; have := sz_W1.out; have := sz_w2.out; have := sz_w3.out; have := sz_w30.out; have := sz_w4.out; have := as_W5.out; have := sz_W5.out; have := sz_w6.out; have := as_W7.out; have := sz_W7.out; have := sz_w70.out; have := sz_w8.out; have := as_W9.out; have := sz_W9.out; have := sz_w10.out; have := sz_w12.out; have := sz_w31.out; have := sz_w32.out; have := sz_w13.out; omega
      have lb0_w33 := cell_grown hg lb0_w13 nelb
      have lb1_w33 := cell_grown hg lb1_w13 nelb
      have lbF_w33 : ∀ o, w33.frozen? ⟨w.heap.size, o, none⟩ = false := fun o => frz_grown hg lbL_w13 (lbF_w13 o) nelb
      have lbL_w33 : w.heap.size < w33.heap.size := Nat.lt_of_lt_of_le lbL_w13 hg.size
      have newa : ∀ k, (Value.slice (some ⟨h2, 0, none⟩) m m).ownBlock = some k → k ≠ w4.heap.size := fun k hk => by have h5 := lhY.out k hk; have := as_W1.out; have := sz_W1.out; have := sz_w2.out; have := sz_w3.out; have := sz_w30.out; have := sz_w4.out; have := as_W5.out; have := sz_W5.out; have := sz_w6.out; have := as_W7.out; have := sz_W7.out; have := sz_w70.out; have := sz_w8.out; have := as_W9.out; have := sz_W9.out; have := sz_w10.out; have := sz_w12.out; have := sz_w31.out; have := sz_w32.out; have := sz_w13.out; omega
      have wa0_w33 := cell_grown hg wa0_w13 newa
      have wa1_w33 := cell_grown hg wa1_w13 newa
      have waF_w33 : ∀ o, w33.frozen? ⟨w4.heap.size, o, none⟩ = false := fun o => frz_grown hg waL_w13 (waF_w13 o) newa
      have waL_w33 : w4.heap.size < w33.heap.size := Nat.lt_of_lt_of_le waL_w13 hg.size
      have nexa : ∀ k, (Value.slice (some ⟨h2, 0, none⟩) m m).ownBlock = some k → k ≠ w6.heap.size := fun k hk => by have h5 := lhY.out k hk; have := as_W1.out; have := sz_W1.out; have := sz_w2.out; have := sz_w3.out; have := sz_w30.out; have := sz_w4.out; have := as_W5.out; have := sz_W5.out; have := sz_w6.out; have := as_W7.out; have := sz_W7.out; have := sz_w70.out; have := sz_w8.out; have := as_W9.out; have := sz_W9.out; have := sz_w10.out; have := sz_w12.out; have := sz_w31.out; have := sz_w32.out; have := sz_w13.out; omega
      have xa0_w33 := cell_grown hg xa0_w13 nexa
      have xa1_w33 := cell_grown hg xa1_w13 nexa
      have xaF_w33 : ∀ o, w33.frozen? ⟨w6.heap.size, o, none⟩ = false := fun o => frz_grown hg xaL_w13 (xaF_w13 o) nexa
      have xaL_w33 : w6.heap.size < w33.heap.size := Nat.lt_of_lt_of_le xaL_w13 hg.size
      have nega : ∀ k, (Value.slice (some ⟨h2, 0, none⟩) m m).ownBlock = some k → k ≠ w8.heap.size := fun k hk => by have h5 := lhY.out k hk; have := as_W1.out; have := sz_W1.out; have := sz_w2.out; have := sz_w3.out; have := sz_w30.out; have := sz_w4.out; have := as_W5.out; have := sz_W5.out; have := sz_w6.out; have := as_W7.out; have := sz_W7.out; have := sz_w70.out; have := sz_w8.out; have := as_W9.out; have := sz_W9.out; have := sz_w10.out; have := sz_w12.out; have := sz_w31.out; have := sz_w32.out; have := sz_w13.out; omega
      have ga0_w33 := cell_grown hg ga0_w13 nega
      have ga1_w33 := cell_grown hg ga1_w13 nega
      have gaF_w33 : ∀ o, w33.frozen? ⟨w8.heap.size, o, none⟩ = false := fun o => frz_grown hg gaL_w13 (gaF_w13 o) nega
      have gaL_w33 : w8.heap.size < w33.heap.size := Nat.lt_of_lt_of_le gaL_w13 hg.size
      have oW_w33 := hidP (OwnG.grown oW_w13.out hg (fun j hj he => by have h5 := lhW.out j hj; have h6 := lhY.out j he; have := as_W1.out; have := sz_W1.out; have := sz_w2.out; have := sz_w3.out; have := sz_w30.out; have := sz_w4.out; have := as_W5.out; have := sz_W5.out; have := sz_w6.out; have := as_W7.out; have := sz_W7.out; have := sz_w70.out; have := sz_w8.out; have := as_W9.out; have := sz_W9.out; have := sz_w10.out; have := sz_w12.out; have := sz_w31.out; have := sz_w32.out; have := sz_w13.out; omega))
      have oX_w33 := hidP (OwnG.grown oX_w13.out hg (fun j hj he => by have h5 := lhX.out j hj; have h6 := lhY.out j he; have := as_W1.out; have := sz_W1.out; have := sz_w2.out; have := sz_w3.out; have := sz_w30.out; have := sz_w4.out; have := as_W5.out; have := sz_W5.out; have := sz_w6.out; have := as_W7.out; have := sz_W7.out; have := sz_w70.out; have := sz_w8.out; have := as_W9.out; have := sz_W9.out; have := sz_w10.out; have := sz_w12.out; have := sz_w31.out; have := sz_w32.out; have := sz_w13.out; omega))
      have oY_w33 := hidP (OM.out)
      have oG_w33 := hidP (OwnG.grown oG_w13.out hg (fun j hj he => by have h5 := lhG.out j hj; have h6 := lhY.out j he; have := as_W1.out; have := sz_W1.out; have := sz_w2.out; have := sz_w3.out; have := sz_w30.out; have := sz_w4.out; have := as_W5.out; have := sz_W5.out; have := sz_w6.out; have := as_W7.out; have := sz_W7.out; have := sz_w70.out; have := sz_w8.out; have := as_W9.out; have := sz_W9.out; have := sz_w10.out; have := sz_w12.out; have := sz_w31.out; have := sz_w32.out; have := sz_w13.out; omega))
      have acc_w33 := hidP (Below.grown acc_w13.out hg acc_w13.out.size (fun k hk => by have h5 := lhY.out k hk; have := as_W1.out; have := sz_W1.out; have := sz_w2.out; have := sz_w3.out; have := sz_w30.out; have := sz_w4.out; have := as_W5.out; have := sz_W5.out; have := sz_w6.out; have := as_W7.out; have := sz_W7.out; have := sz_w70.out; have := sz_w8.out; have := as_W9.out; have := sz_W9.out; have := sz_w10.out; have := sz_w12.out; have := sz_w31.out; have := sz_w32.out; have := sz_w13.out; omega))
      have sz_w33 : Hid (w13.heap.size ≤ w33.heap.size) := hidP hg.size
      clear hg lb0_w13 lb1_w13 lbF_w13 lbL_w13 nelb wa0_w13 wa1_w13 waF_w13 waL_w13 newa xa0_w13 xa1_w13 xaF_w13 xaL_w13 nexa ga0_w13 ga1_w13 gaF_w13 gaL_w13 nega oW_w13 oX_w13 oY_w13 oG_w13 acc_w13
      clear OM
      go_wp2_with fail
      refine (HEq.out _ A8 C8 A4 C4 oG_w33.out.row oW_w33.out.row).mono ?_
      rintro e w14 ⟨rfl, hb14⟩
      have lb0_w14 := (hb14.cell lbL_w33).trans lb0_w33
      have lb1_w14 := (hb14.cell lbL_w33).trans lb1_w33
      have lbF_w14 : ∀ o, w14.frozen? ⟨w.heap.size, o, none⟩ = false := fun o => (hb14.frozen lbL_w33).trans (lbF_w33 o)
      have lbL_w14 : w.heap.size < w14.heap.size := Nat.lt_of_lt_of_le lbL_w33 hb14.size
      have wa0_w14 := (hb14.cell waL_w33).trans wa0_w33
      have wa1_w14 := (hb14.cell waL_w33).trans wa1_w33
      have waF_w14 : ∀ o, w14.frozen? ⟨w4.heap.size, o, none⟩ = false := fun o => (hb14.frozen waL_w33).trans (waF_w33 o)
      have waL_w14 : w4.heap.size < w14.heap.size := Nat.lt_of_lt_of_le waL_w33 hb14.size
      have xa0_w14 := (hb14.cell xaL_w33).trans xa0_w33
      have xa1_w14 := (hb14.cell xaL_w33).trans xa1_w33
      have xaF_w14 : ∀ o, w14.frozen? ⟨w6.heap.size, o, none⟩ = false := fun o => (hb14.frozen xaL_w33).trans (xaF_w33 o)
      have xaL_w14 : w6.heap.size < w14.heap.size := Nat.lt_of_lt_of_le xaL_w33 hb14.size
      have ga0_w14 := (hb14.cell gaL_w33).trans ga0_w33
      have ga1_w14 := (hb14.cell gaL_w33).trans ga1_w33
      have gaF_w14 : ∀ o, w14.frozen? ⟨w8.heap.size, o, none⟩ = false := fun o => (hb14.frozen gaL_w33).trans (gaF_w33 o)
      have gaL_w14 : w8.heap.size < w14.heap.size := Nat.lt_of_lt_of_le gaL_w33 hb14.size
      have oW_w14 := hidP (OwnG.later oW_w33.out hb14)
      have oX_w14 := hidP (OwnG.later oX_w33.out hb14)
      have oY_w14 := hidP (OwnG.later oY_w33.out hb14)
      have oG_w14 := hidP (OwnG.later oG_w33.out hb14)
      have acc_w14 := hidP (acc_w33.out.trans (hb14.mono acc_w33.out.size))
      have sz_w14 : Hid (w33.heap.size ≤ w14.heap.size) := hidP hb14.size
      clear hb14 lb0_w33 lb1_w33 lbF_w33 lbL_w33 wa0_w33 wa1_w33 waF_w33 waL_w33 xa0_w33 xa1_w33 xaF_w33 xaL_w33 ga0_w33 ga1_w33 gaF_w33 gaL_w33 oW_w33 oX_w33 oY_w33 oG_w33 acc_w33
      go_wp2_with fail
      refine (HMg.out _ A8 C8 _ oG_w14.out).mono ?_
      rintro e w15 ⟨rfl, om, hg⟩
      have OM := hidP om
      clear om
      have nelb : ∀ k, (Value.slice A8 nL C8).ownBlock = some k → k ≠ w.heap.size := fun k hk => by have h5 := lhG.out k hk; have := as_W1.out; have := sz_W1.out; have := sz_w2.out; have := sz_w3.out; have := sz_w30.out; have := sz_w4.out; have := as_W5.out; have := sz_W5.out; have := sz_w6.out; have := as_W7.out; have := sz_W7.out; have := sz_w70.out; have := sz_w8.out; have := as_W9.out; have := sz_W9.out; have := sz_w10.out; have := sz_w12.out; have := sz_w31.out; have := sz_w32.out; have := sz_w13.out; have := sz_w33.out; have := sz_w14.out; omega
      have lb0_w15 := cell_grown hg lb0_w14 nelb
      have lb1_w15 := cell_grown hg lb1_w14 nelb
      have lbF_w15 : ∀ o, w15.frozen? ⟨w.heap.size, o, none⟩ = false := fun o => frz_grown hg lbL_w14 (lbF_w14 o) nelb
      have lbL_w15 : w.heap.size < w15.heap.size := Nat.lt_of_lt_of_le lbL_w14 hg.size
      have newa : ∀ k, (Value.slice A8 nL C8).ownBlock = some k → k ≠ w4.heap.size := fun k hk => by have h5 := lhG.out k hk; have := as_W1.out; have := sz_W1.out; have := sz_w2.out; have := sz_w3.out; have := sz_w30.out; have := sz_w4.out; have := as_W5.out; have := sz_W5.out; have := sz_w6.out; have := as_W7.out; have := sz_W7.out; have := sz_w70.out; have := sz_w8.out; have := as_W9.out; have := sz_W9.out; have := sz_w10.out; have := sz_w12.out; have := sz_w31.out; have := sz_w32.out; have := sz_w13.out; have := sz_w33.out; have := sz_w14.out; omega
      have wa0_w15 := cell_grown hg wa0_w14 newa
      have wa1_w15 := cell_grown hg wa1_w14 newa
      have waF_w15 : ∀ o, w15.frozen? ⟨w4.heap.size, o, none⟩ = false := fun o => frz_grown hg waL_w14 (waF_w14 o) newa
      have waL_w15 : w4.heap.size < w15.heap.size := Nat.lt_of_lt_of_le waL_w14 hg.size
      have nexa : ∀ k, (Value.slice A8 nL C8).ownBlock = some k → k ≠ w6.heap.size := fun k hk => by have h5 := lhG.out k hk; have := as_W1.out; have := sz_W1.out; have := sz_w2.out; have := sz_w3.out; have := sz_w30.out; have := sz_w4.out; have := as_W5.out; have := sz_W5.out; have := sz_w6.out; have := as_W7.out; have := sz_W7.out; have := sz_w70.out; have := sz_w8.out; have := as_W9.out; have := sz_W9.out; have := sz_w10.out; have := sz_w12.out; have := sz_w31.out; have := sz_w32.out; have := sz_w13.out; have := sz_w33.out; have := sz_w14.out; omega
      have xa0_w15 := cell_grown hg xa0_w14 nexa
      have xa1_w15 := cell_grown hg xa1_w14 nexa
      have xaF_w15 : ∀ o, w15.frozen? ⟨w6.heap.size, o, none⟩ = false := fun o => frz_grown hg xaL_w14 (xaF_w14 o) nexa
      have xaL_w15 : w6.heap.size < w15.heap.size := Nat.lt_of_lt_of_le xaL_w14 hg.size
      have nega : ∀ k, (Value.slice A8 nL C8).ownBlock = some k → k ≠ w8.heap.size := fun k hk => by have h5 := lhG.out k hk; have := as_W1.out; have := sz_W1.out; have := sz_w2.out; have := sz_w3.out; have := sz_w30.out; have := sz_w4.out; have := as_W5.out; have := sz_W5.out; have := sz_w6.out; have := as_W7.out; have := sz_W7.out; have := sz_w70.out; have := sz_w8.out; have := as_W9.out; have := sz_W9.out; have := sz_w10.out; have := sz_w12.out; have := sz_w31.out; have := sz_w32.out; have := sz_w13.out; have := sz_w33.out; have := sz_w14.out; omega
      have ga0_w15 := cell_grown hg ga0_w14 nega
      have ga1_w15 := cell_grown hg ga1_w14 nega
      have gaF_w15 : ∀ o, w15.frozen? ⟨w8.heap.size, o, none⟩ = false := fun o => frz_grown hg gaL_w14 (gaF_w14 o) nega
      have gaL_w15 : w8.heap.size < w15.heap.size := Nat.lt_of_lt_of_le gaL_w14 hg.size
      have oW_w15 := hidP (OwnG.grown oW_w14.out hg (fun j hj he => by have h5 := lhW.out j hj; have h6 := lhG.out j he; have := as_W1.out; have := sz_W1.out; have := sz_w2.out; have := sz_w3.out; have := sz_w30.out; have := sz_w4.out; have := as_W5.out; have := sz_W5.out; have := sz_w6.out; have := as_W7.out; have := sz_W7.out; have := sz_w70.out; have := sz_w8.out; have := as_W9.out; have := sz_W9.out; have := sz_w10.out; have := sz_w12.out; have := sz_w31.out; have := sz_w32.out; have := sz_w13.out; have := sz_w33.out; have := sz_w14.out; omega))
      have oX_w15 := hidP (OwnG.grown oX_w14.out hg (fun j hj he => by have h5 := lhX.out j hj; have h6 := lhG.out j he; have := as_W1.out; have := sz_W1.out; have := sz_w2.out; have := sz_w3.out; have := sz_w30.out; have := sz_w4.out; have := as_W5.out; have := sz_W5.out; have := sz_w6.out; have := as_W7.out; have := sz_W7.out; have := sz_w70.out; have := sz_w8.out; have := as_W9.out; have := sz_W9.out; have := sz_w10.out; have := sz_w12.out; have := sz_w31.out; have := sz_w32.out; have := sz_w13.out; have := sz_w33.out; have := sz_w14.out; omega))
      have oY_w15 := hidP (OwnG.grown oY_w14.out hg (fun j hj he => by have h5 := lhY.out j hj; have h6 := lhG.out j he; have := as_W1.out; have := sz_W1.out; have := sz_w2.out; have := sz_w3.out; have := sz_w30.out; have := sz_w4.out; have := as_W5.out; have := sz_W5.out; have := sz_w6.out; have := as_W7.out; have := sz_W7.out; have := sz_w70.out; have := sz_w8.out; have := as_W9.out; have := sz_W9.out; have := sz_w10.out; have := sz_w12.out; have := sz_w31.out; have := sz_w32.out; have := sz_w13.out; have := sz_w33.out; have := sz_w14.out; omega))
      have oG_w15 := hidP (OM.out)
      have acc_w15 := hidP (Below.grown acc_w14.out hg acc_w14.out.size (fun k hk => by have h5 := lhG.out k hk; have := as_W1.out; have := sz_W1.out; have := sz_w2.out; have := sz_w3.out; have := sz_w30.out; have := sz_w4.out; have := as_W5.out; have := sz_W5.out; have := sz_w6.out; have := as_W7.out; have := sz_W7.out; have := sz_w70.out; have := sz_w8.out; have := as_W9.out; have := sz_W9.out; have := sz_w10.out; have := sz_w12.out; have := sz_w31.out; have := sz_w32.out; have := sz_w13.out; have := sz_w33.out; have := sz_w14.out; omega))
      have sz_w15 : Hid (w14.heap.size ≤ w15.heap.size) := hidP hg.size
      clear hg lb0_w14 lb1_w14 lbF_w14 lbL_w14 nelb wa0_w14 wa1_w14 waF_w14 waL_w14 newa xa0_w14 xa1_w14 xaF_w14 xaL_w14 nexa ga0_w14 ga1_w14 gaF_w14 gaL_w14 nega oW_w14 oX_w14 oY_w14 oG_w14 acc_w14
      clear OM
      go_wp2_with fail
      refine (HHg.out _ A8 C8 oG_w15.out.row).mono ?_
      rintro e w16 ⟨rfl, hb16⟩
      have lb0_w16 := (hb16.cell lbL_w15).trans lb0_w15
      have lb1_w16 := (hb16.cell lbL_w15).trans lb1_w15
      have lbF_w16 : ∀ o, w16.frozen? ⟨w.heap.size, o, none⟩ = false := fun o => (hb16.frozen lbL_w15).trans (lbF_w15 o)
      have lbL_w16 : w.heap.size < w16.heap.size := Nat.lt_of_lt_of_le lbL_w15 hb16.size
      have wa0_w16 := (hb16.cell waL_w15).trans wa0_w15
      have wa1_w16 := (hb16.cell waL_w15).trans wa1_w15
      have waF_w16 : ∀ o, w16.frozen? ⟨w4.heap.size, o, none⟩ = false := fun o => (hb16.frozen waL_w15).trans (waF_w15 o)
      have waL_w16 : w4.heap.size < w16.heap.size := Nat.lt_of_lt_of_le waL_w15 hb16.size
      have xa0_w16 := (hb16.cell xaL_w15).trans xa0_w15
      have xa1_w16 := (hb16.cell xaL_w15).trans xa1_w15
      have xaF_w16 : ∀ o, w16.frozen? ⟨w6.heap.size, o, none⟩ = false := fun o => (hb16.frozen xaL_w15).trans (xaF_w15 o)
      have xaL_w16 : w6.heap.size < w16.heap.size := Nat.lt_of_lt_of_le xaL_w15 hb16.size
      have ga0_w16 := (hb16.cell gaL_w15).trans ga0_w15
      have ga1_w16 := (hb16.cell gaL_w15).trans ga1_w15
      have gaF_w16 : ∀ o, w16.frozen? ⟨w8.heap.size, o, none⟩ = false := fun o => (hb16.frozen gaL_w15).trans (gaF_w15 o)
      have gaL_w16 : w8.heap.size < w16.heap.size := Nat.lt_of_lt_of_le gaL_w15 hb16.size
      have oW_w16 := hidP (OwnG.later oW_w15.out hb16)
      have oX_w16 := hidP (OwnG.later oX_w15.out hb16)
      have oY_w16 := hidP (OwnG.later oY_w15.out hb16)
      have oG_w16 := hidP (OwnG.later oG_w15.out hb16)
      have acc_w16 := hidP (acc_w15.out.trans (hb16.mono acc_w15.out.size))
      have sz_w16 : Hid (w15.heap.size ≤ w16.heap.size) := hidP hb16.size
      clear hb16 lb0_w15 lb1_w15 lbF_w15 lbL_w15 wa0_w15 wa1_w15 waF_w15 waL_w15 xa0_w15 xa1_w15 xaF_w15 xaL_w15 ga0_w15 ga1_w15 gaF_w15 gaL_w15 oW_w15 oX_w15 oY_w15 oG_w15 acc_w15
      go_wp2_with fail
      refine (HTo.out _ acc_w16.out).mono ?_
      rintro e w17 ⟨g4, rfl, og4, hb17⟩
      have Og4 := hidP og4
      clear og4
      have lb0_w17 := (hb17.cell lbL_w16).trans lb0_w16
      have lb1_w17 := (hb17.cell lbL_w16).trans lb1_w16
      have lbF_w17 : ∀ o, w17.frozen? ⟨w.heap.size, o, none⟩ = false := fun o => (hb17.frozen lbL_w16).trans (lbF_w16 o)
      have lbL_w17 : w.heap.size < w17.heap.size := Nat.lt_of_lt_of_le lbL_w16 hb17.size
      have wa0_w17 := (hb17.cell waL_w16).trans wa0_w16
      have wa1_w17 := (hb17.cell waL_w16).trans wa1_w16
      have waF_w17 : ∀ o, w17.frozen? ⟨w4.heap.size, o, none⟩ = false := fun o => (hb17.frozen waL_w16).trans (waF_w16 o)
      have waL_w17 : w4.heap.size < w17.heap.size := Nat.lt_of_lt_of_le waL_w16 hb17.size
      have xa0_w17 := (hb17.cell xaL_w16).trans xa0_w16
      have xa1_w17 := (hb17.cell xaL_w16).trans xa1_w16
      have xaF_w17 : ∀ o, w17.frozen? ⟨w6.heap.size, o, none⟩ = false := fun o => (hb17.frozen xaL_w16).trans (xaF_w16 o)
      have xaL_w17 : w6.heap.size < w17.heap.size := Nat.lt_of_lt_of_le xaL_w16 hb17.size
      have ga0_w17 := (hb17.cell gaL_w16).trans ga0_w16
      have ga1_w17 := (hb17.cell gaL_w16).trans ga1_w16
      have gaF_w17 : ∀ o, w17.frozen? ⟨w8.heap.size, o, none⟩ = false := fun o => (hb17.frozen gaL_w16).trans (gaF_w16 o)
      have gaL_w17 : w8.heap.size < w17.heap.size := Nat.lt_of_lt_of_le gaL_w16 hb17.size
      have oW_w17 := hidP (OwnG.later oW_w16.out hb17)
      have oX_w17 := hidP (OwnG.later oX_w16.out hb17)
      have oY_w17 := hidP (OwnG.later oY_w16.out hb17)
      have oG_w17 := hidP (OwnG.later oG_w16.out hb17)
      have acc_w17 := hidP (acc_w16.out.trans (hb17.mono acc_w16.out.size))
      have sz_w17 : Hid (w16.heap.size ≤ w17.heap.size) := hidP hb17.size
      clear hb17 lb0_w16 lb1_w16 lbF_w16 lbL_w16 wa0_w16 wa1_w16 waF_w16 waL_w16 xa0_w16 xa1_w16 xaF_w16 xaL_w16 ga0_w16 ga1_w16 gaF_w16 gaL_w16 oW_w16 oX_w16 oY_w16 oG_w16 acc_w16
      have og4_w17 := hidP (Og4.out)
      have lhg4 : Hid (∀ k, (Value.slice (some ⟨g4, 0, none⟩) n n).ownBlock = some k → w16.heap.size ≤ k ∧ k < w17.heap.size) := hidP (fun k hk => OwnG.lt og4_w17.out k hk)
      clear Og4
      go_wp2_with fail
      refine (HTb.out _ acc_w17.out).mono ?_
      rintro e w34 ⟨h4, rfl, oh4, hb34⟩
      have Oh4 := hidP oh4
      clear oh4
      have lb0_w34 := (hb34.cell lbL_w17).trans lb0_w17
      have lb1_w34 := (hb34.cell lbL_w17).trans lb1_w17
      have lbF_w34 : ∀ o, w34.frozen? ⟨w.heap.size, o, none⟩ = false := fun o => (hb34.frozen lbL_w17).trans (lbF_w17 o)
      have lbL_w34 : w.heap.size < w34.heap.size := Nat.lt_of_lt_of_le lbL_w17 hb34.size
      have wa0_w34 := (hb34.cell waL_w17).trans wa0_w17
      have wa1_w34 := (hb34.cell waL_w17).trans wa1_w17
      have waF_w34 : ∀ o, w34.frozen? ⟨w4.heap.size, o, none⟩ = false := fun o => (hb34.frozen waL_w17).trans (waF_w17 o)
      have waL_w34 : w4.heap.size < w34.heap.size := Nat.lt_of_lt_of_le waL_w17 hb34.size
      have xa0_w34 := (hb34.cell xaL_w17).trans xa0_w17
      have xa1_w34 := (hb34.cell xaL_w17).trans xa1_w17
      have xaF_w34 : ∀ o, w34.frozen? ⟨w6.heap.size, o, none⟩ = false := fun o => (hb34.frozen xaL_w17).trans (xaF_w17 o)
      have xaL_w34 : w6.heap.size < w34.heap.size := Nat.lt_of_lt_of_le xaL_w17 hb34.size
      have ga0_w34 := (hb34.cell gaL_w17).trans ga0_w17
      have ga1_w34 := (hb34.cell gaL_w17).trans ga1_w17
      have gaF_w34 : ∀ o, w34.frozen? ⟨w8.heap.size, o, none⟩ = false := fun o => (hb34.frozen gaL_w17).trans (gaF_w17 o)
      have gaL_w34 : w8.heap.size < w34.heap.size := Nat.lt_of_lt_of_le gaL_w17 hb34.size
      have oW_w34 := hidP (OwnG.later oW_w17.out hb34)
      have oX_w34 := hidP (OwnG.later oX_w17.out hb34)
      have oY_w34 := hidP (OwnG.later oY_w17.out hb34)
      have oG_w34 := hidP (OwnG.later oG_w17.out hb34)
      have og4_w34 := hidP (OwnG.later og4_w17.out hb34)
      have acc_w34 := hidP (acc_w17.out.trans (hb34.mono acc_w17.out.size))
      have sz_w34 : Hid (w17.heap.size ≤ w34.heap.size) := hidP hb34.size
      clear hb34 lb0_w17 lb1_w17 lbF_w17 lbL_w17 wa0_w17 wa1_w17 waF_w17 waL_w17 xa0_w17 xa1_w17 xaF_w17 xaL_w17 ga0_w17 ga1_w17 gaF_w17 gaL_w17 oW_w17 oX_w17 oY_w17 oG_w17 og4_w17 acc_w17
      have oh4_w34 := hidP (Oh4.out)
      have lhh4 : Hid (∀ k, (Value.slice (some ⟨h4, 0, none⟩) m m).ownBlock = some k → w17.heap.size ≤ k ∧ k < w34.heap.size) := hidP (fun k hk => OwnG.lt oh4_w34.out k hk)
      clear Oh4
      go_wp2_with fail
      refine (HIm.out g4 h4 _ og4_w34.out.row oh4_w34.out.row).mono ?_
      rintro e w18 ⟨A9, C9, rfl, oR, hb18⟩
      have OR := hidP oR
      clear oR
      have lb0_w18 := (hb18.cell lbL_w34).trans lb0_w34
      have lb1_w18 := (hb18.cell lbL_w34).trans lb1_w34
      have lbF_w18 : ∀ o, w18.frozen? ⟨w.heap.size, o, none⟩ = false := fun o => (hb18.frozen lbL_w34).trans (lbF_w34 o)
      have lbL_w18 : w.heap.size < w18.heap.size := Nat.lt_of_lt_of_le lbL_w34 hb18.size
      have wa0_w18 := (hb18.cell waL_w34).trans wa0_w34
      have wa1_w18 := (hb18.cell waL_w34).trans wa1_w34
      have waF_w18 : ∀ o, w18.frozen? ⟨w4.heap.size, o, none⟩ = false := fun o => (hb18.frozen waL_w34).trans (waF_w34 o)
      have waL_w18 : w4.heap.size < w18.heap.size := Nat.lt_of_lt_of_le waL_w34 hb18.size
      have xa0_w18 := (hb18.cell xaL_w34).trans xa0_w34
      have xa1_w18 := (hb18.cell xaL_w34).trans xa1_w34
      have xaF_w18 : ∀ o, w18.frozen? ⟨w6.heap.size, o, none⟩ = false := fun o => (hb18.frozen xaL_w34).trans (xaF_w34 o)
      have xaL_w18 : w6.heap.size < w18.heap.size := Nat.lt_of_lt_of_le xaL_w34 hb18.size
      have ga0_w18 := (hb18.cell gaL_w34).trans ga0_w34
      have ga1_w18 := (hb18.cell gaL_w34).trans ga1_w34
      have gaF_w18 : ∀ o, w18.frozen? ⟨w8.heap.size, o, none⟩ = false := fun o => (hb18.frozen gaL_w34).trans (gaF_w34 o)
      have gaL_w18 : w8.heap.size < w18.heap.size := Nat.lt_of_lt_of_le gaL_w34 hb18.size
      have oW_w18 := hidP (OwnG.later oW_w34.out hb18)
      have oX_w18 := hidP (OwnG.later oX_w34.out hb18)
      have oY_w18 := hidP (OwnG.later oY_w34.out hb18)
      have oG_w18 := hidP (OwnG.later oG_w34.out hb18)
      have og4_w18 := hidP (OwnG.later og4_w34.out hb18)
      have oh4_w18 := hidP (OwnG.later oh4_w34.out hb18)
      have acc_w18 := hidP (acc_w34.out.trans (hb18.mono acc_w34.out.size))
      have sz_w18 : Hid (w34.heap.size ≤ w18.heap.size) := hidP hb18.size
      clear hb18 lb0_w34 lb1_w34 lbF_w34 lbL_w34 wa0_w34 wa1_w34 waF_w34 waL_w34 xa0_w34 xa1_w34 xaF_w34 xaL_w34 ga0_w34 ga1_w34 gaF_w34 gaL_w34 oW_w34 oX_w34 oY_w34 oG_w34 og4_w34 oh4_w34 acc_w34
      have oV_w18 := hidP (OR.out)
      have lhV : Hid (∀ k, (Value.slice A9 nL C9).ownBlock = some k → w34.heap.size ≤ k ∧ k < w18.heap.size) := hidP (fun k hk => OwnG.lt oV_w18.out k hk)
      clear OR
      go_wp2_with fail
      clear og4_w18 lhg4
      clear oh4_w18 lhh4
      obtain ⟨va0_W19, va1_W19⟩ := box2D w18 25 (.slice A9 nL C9) (.int .i64 N)
      have vaF_W19 : ∀ o, (w18.alloc (.cells #[.slice A9 nL C9, .int .i64 N] 25)).frozen? ⟨w18.heap.size, o, none⟩ = false := fun o => by simp [go_sem]
      have vaL_W19 : w18.heap.size < (w18.alloc (.cells #[.slice A9 nL C9, .int .i64 N] 25)).heap.size := by simp
      have ab_W19 := alloc_below w18 (.cells #[.slice A9 nL C9, .int .i64 N] 25)
      have as_W19 : Hid ((w18.alloc (.cells #[.slice A9 nL C9, .int .i64 N] 25)).heap.size = w18.heap.size + 1) := hidP (by simp)
      generalize w18.alloc (.cells #[.slice A9 nL C9, .int .i64 N] 25) = W19 at *
      have lb0_W19 := (ab_W19.cell lbL_w18).trans lb0_w18
      have lb1_W19 := (ab_W19.cell lbL_w18).trans lb1_w18
      have lbF_W19 : ∀ o, W19.frozen? ⟨w.heap.size, o, none⟩ = false := fun o => (ab_W19.frozen lbL_w18).trans (lbF_w18 o)
      have lbL_W19 : w.heap.size < W19.heap.size := Nat.lt_of_lt_of_le lbL_w18 ab_W19.size
      have wa0_W19 := (ab_W19.cell waL_w18).trans wa0_w18
      have wa1_W19 := (ab_W19.cell waL_w18).trans wa1_w18
      have waF_W19 : ∀ o, W19.frozen? ⟨w4.heap.size, o, none⟩ = false := fun o => (ab_W19.frozen waL_w18).trans (waF_w18 o)
      have waL_W19 : w4.heap.size < W19.heap.size := Nat.lt_of_lt_of_le waL_w18 ab_W19.size
      have xa0_W19 := (ab_W19.cell xaL_w18).trans xa0_w18
      have xa1_W19 := (ab_W19.cell xaL_w18).trans xa1_w18
      have xaF_W19 : ∀ o, W19.frozen? ⟨w6.heap.size, o, none⟩ = false := fun o => (ab_W19.frozen xaL_w18).trans (xaF_w18 o)
      have xaL_W19 : w6.heap.size < W19.heap.size := Nat.lt_of_lt_of_le xaL_w18 ab_W19.size
      have ga0_W19 := (ab_W19.cell gaL_w18).trans ga0_w18
      have ga1_W19 := (ab_W19.cell gaL_w18).trans ga1_w18
      have gaF_W19 : ∀ o, W19.frozen? ⟨w8.heap.size, o, none⟩ = false := fun o => (ab_W19.frozen gaL_w18).trans (gaF_w18 o)
      have gaL_W19 : w8.heap.size < W19.heap.size := Nat.lt_of_lt_of_le gaL_w18 ab_W19.size
      have oW_W19 := hidP (OwnG.later oW_w18.out ab_W19)
      have oX_W19 := hidP (OwnG.later oX_w18.out ab_W19)
      have oY_W19 := hidP (OwnG.later oY_w18.out ab_W19)
      have oG_W19 := hidP (OwnG.later oG_w18.out ab_W19)
      have oV_W19 := hidP (OwnG.later oV_w18.out ab_W19)
      have acc_W19 := hidP (acc_w18.out.trans (ab_W19.mono acc_w18.out.size))
      have sz_W19 : Hid (w18.heap.size ≤ W19.heap.size) := hidP ab_W19.size
      clear ab_W19 lb0_w18 lb1_w18 lbF_w18 lbL_w18 wa0_w18 wa1_w18 waF_w18 waL_w18 xa0_w18 xa1_w18 xaF_w18 xaL_w18 ga0_w18 ga1_w18 gaF_w18 gaL_w18 oW_w18 oX_w18 oY_w18 oG_w18 oV_w18 acc_w18
      refine (HEq.out _ A9 C9 A4 C4 oV_W19.out.row oW_W19.out.row).mono ?_
      rintro e w20 ⟨rfl, hb20⟩
      have lb0_w20 := (hb20.cell lbL_W19).trans lb0_W19
      have lb1_w20 := (hb20.cell lbL_W19).trans lb1_W19
      have lbF_w20 : ∀ o, w20.frozen? ⟨w.heap.size, o, none⟩ = false := fun o => (hb20.frozen lbL_W19).trans (lbF_W19 o)
      have lbL_w20 : w.heap.size < w20.heap.size := Nat.lt_of_lt_of_le lbL_W19 hb20.size
      have wa0_w20 := (hb20.cell waL_W19).trans wa0_W19
      have wa1_w20 := (hb20.cell waL_W19).trans wa1_W19
      have waF_w20 : ∀ o, w20.frozen? ⟨w4.heap.size, o, none⟩ = false := fun o => (hb20.frozen waL_W19).trans (waF_W19 o)
      have waL_w20 : w4.heap.size < w20.heap.size := Nat.lt_of_lt_of_le waL_W19 hb20.size
      have xa0_w20 := (hb20.cell xaL_W19).trans xa0_W19
      have xa1_w20 := (hb20.cell xaL_W19).trans xa1_W19
      have xaF_w20 : ∀ o, w20.frozen? ⟨w6.heap.size, o, none⟩ = false := fun o => (hb20.frozen xaL_W19).trans (xaF_W19 o)
      have xaL_w20 : w6.heap.size < w20.heap.size := Nat.lt_of_lt_of_le xaL_W19 hb20.size
      have ga0_w20 := (hb20.cell gaL_W19).trans ga0_W19
      have ga1_w20 := (hb20.cell gaL_W19).trans ga1_W19
      have gaF_w20 : ∀ o, w20.frozen? ⟨w8.heap.size, o, none⟩ = false := fun o => (hb20.frozen gaL_W19).trans (gaF_W19 o)
      have gaL_w20 : w8.heap.size < w20.heap.size := Nat.lt_of_lt_of_le gaL_W19 hb20.size
      have va0_w20 := (hb20.cell vaL_W19).trans va0_W19
      have va1_w20 := (hb20.cell vaL_W19).trans va1_W19
      have vaF_w20 : ∀ o, w20.frozen? ⟨w18.heap.size, o, none⟩ = false := fun o => (hb20.frozen vaL_W19).trans (vaF_W19 o)
      have vaL_w20 : w18.heap.size < w20.heap.size := Nat.lt_of_lt_of_le vaL_W19 hb20.size
      have oW_w20 := hidP (OwnG.later oW_W19.out hb20)
      have oX_w20 := hidP (OwnG.later oX_W19.out hb20)
      have oY_w20 := hidP (OwnG.later oY_W19.out hb20)
      have oG_w20 := hidP (OwnG.later oG_W19.out hb20)
      have oV_w20 := hidP (OwnG.later oV_W19.out hb20)
      have acc_w20 := hidP (acc_W19.out.trans (hb20.mono acc_W19.out.size))
      have sz_w20 : Hid (W19.heap.size ≤ w20.heap.size) := hidP hb20.size
      clear hb20 lb0_W19 lb1_W19 lbF_W19 lbL_W19 wa0_W19 wa1_W19 waF_W19 waL_W19 xa0_W19 xa1_W19 xaF_W19 xaL_W19 ga0_W19 ga1_W19 gaF_W19 gaL_W19 va0_W19 va1_W19 vaF_W19 vaL_W19 oW_W19 oX_W19 oY_W19 oG_W19 oV_W19 acc_W19
      go_wp2_with fail
      refine (HHg.out _ A8 C8 oG_w20.out.row).mono ?_
      rintro e w21 ⟨rfl, hb21⟩
      have lb0_w21 := (hb21.cell lbL_w20).trans lb0_w20
      have lb1_w21 := (hb21.cell lbL_w20).trans lb1_w20
      have lbF_w21 : ∀ o, w21.frozen? ⟨w.heap.size, o, none⟩ = false := fun o => (hb21.frozen lbL_w20).trans (lbF_w20 o)
      have lbL_w21 : w.heap.size < w21.heap.size := Nat.lt_of_lt_of_le lbL_w20 hb21.size
      have wa0_w21 := (hb21.cell waL_w20).trans wa0_w20
      have wa1_w21 := (hb21.cell waL_w20).trans wa1_w20
      have waF_w21 : ∀ o, w21.frozen? ⟨w4.heap.size, o, none⟩ = false := fun o => (hb21.frozen waL_w20).trans (waF_w20 o)
      have waL_w21 : w4.heap.size < w21.heap.size := Nat.lt_of_lt_of_le waL_w20 hb21.size
      have xa0_w21 := (hb21.cell xaL_w20).trans xa0_w20
      have xa1_w21 := (hb21.cell xaL_w20).trans xa1_w20
      have xaF_w21 : ∀ o, w21.frozen? ⟨w6.heap.size, o, none⟩ = false := fun o => (hb21.frozen xaL_w20).trans (xaF_w20 o)
      have xaL_w21 : w6.heap.size < w21.heap.size := Nat.lt_of_lt_of_le xaL_w20 hb21.size
      have ga0_w21 := (hb21.cell gaL_w20).trans ga0_w20
      have ga1_w21 := (hb21.cell gaL_w20).trans ga1_w20
      have gaF_w21 : ∀ o, w21.frozen? ⟨w8.heap.size, o, none⟩ = false := fun o => (hb21.frozen gaL_w20).trans (gaF_w20 o)
      have gaL_w21 : w8.heap.size < w21.heap.size := Nat.lt_of_lt_of_le gaL_w20 hb21.size
      have va0_w21 := (hb21.cell vaL_w20).trans va0_w20
      have va1_w21 := (hb21.cell vaL_w20).trans va1_w20
      have vaF_w21 : ∀ o, w21.frozen? ⟨w18.heap.size, o, none⟩ = false := fun o => (hb21.frozen vaL_w20).trans (vaF_w20 o)
      have vaL_w21 : w18.heap.size < w21.heap.size := Nat.lt_of_lt_of_le vaL_w20 hb21.size
      have oW_w21 := hidP (OwnG.later oW_w20.out hb21)
      have oX_w21 := hidP (OwnG.later oX_w20.out hb21)
      have oY_w21 := hidP (OwnG.later oY_w20.out hb21)
      have oG_w21 := hidP (OwnG.later oG_w20.out hb21)
      have oV_w21 := hidP (OwnG.later oV_w20.out hb21)
      have acc_w21 := hidP (acc_w20.out.trans (hb21.mono acc_w20.out.size))
      have sz_w21 : Hid (w20.heap.size ≤ w21.heap.size) := hidP hb21.size
      clear hb21 lb0_w20 lb1_w20 lbF_w20 lbL_w20 wa0_w20 wa1_w20 waF_w20 waL_w20 xa0_w20 xa1_w20 xaF_w20 xaL_w20 ga0_w20 ga1_w20 gaF_w20 gaL_w20 va0_w20 va1_w20 vaF_w20 vaL_w20 oW_w20 oX_w20 oY_w20 oG_w20 oV_w20 acc_w20
      go_wp2_with fail
      go_ret
      exact ⟨rfl, acc_w21.out⟩
    · rw [szT_no ht] at HSz
      clear hP hQ hn hm ht
      go_enter Try.func5, Try.ntmps5
      go_wp2_with fail
      refine (HSz.out _).mono ?_
      rintro e w2 ⟨rfl, hb2⟩
      go_wp2_with fail
      go_ret
      exact ⟨rfl, (alloc_below w _).trans (hb2.mono (alloc_below w _).size)⟩
  · have dk : decide (1048576 < (m : Int)) = true := decide_eq_true (by omega)
    have dk2 : 1048576 < (m : Int) := by omega
    clear hP hQ hn hm
    go_enter Try.func5, Try.ntmps5
    go_wp2_with fail
    go_ret
    exact ⟨rfl, alloc_below w _⟩

set_option maxRecDepth 100000 in
theorem fileAdd_lifted (os : Os) (started : os.Started) (H : Type) (enc : TypeId × Value → H) :
    ReturnsInHanded {} Try.checked os 5 .any (Rows.fnExactFileAddSpec.pre6 enc Try.prog Try.f5 Rows.fnExactFileAddRow.domain false) (Rows.fnExactFileAddSpec.post enc Try.prog Try.f5 false true false false) := by
  refine returnsInHanded_of_change (C := Try.checked) Try.ownF started (by kernel_rfl) Try.func5
    (ChangeSpec.witness6 (enc := enc) (C := Try.checked) false ⟨#[], #[.agg #[.slice none 0 0, .int .i64 0], .slice none 0 0], []⟩ 8 (by kernel_rfl) (by kernel_rfl) (by kernel_rfl) (by kernel_rfl)) ?_
  intro W base args ds gs before hval0 hW _ _
  have hval : ∀ (j : Nat) t v, Try.f5.params[j]? = some t → args[j]? = some v → Value.okWide Try.prog W .any base t v := hval0
  have hW' := hW
  obtain ⟨p, q, hA0, hV, rfl, _, _⟩ := hW
  have hA : DataW.TrodAll enc Try.prog W 0 (fun _ => true) true Try.f5.params.toList args.toList ds p := hA0
  rw [Try.params5] at hA hval
  obtain ⟨v0, v1, d0, d1, p0, p1, rfl, rfl, rfl, h0, h1⟩ := trodAll_two hA
  obtain ⟨rfl, rfl⟩ := trodVars_none hV
  obtain ⟨a, n, c, N, zs, rfl, hn, hP, h9, wN⟩ := openFile (hval 0 34 v0 rfl rfl) h0
  obtain ⟨b, m, d, rfl⟩ := okWide_slice Try.underlying22 (hval 1 22 v1 rfl rfl)
  obtain ⟨bs, hm, hQ, _⟩ := byt_open9 h1
  clear hA0 hval0
  simp only [List.append_nil] at hW'
  have hlt0 : ∀ x ∈ p0, x.block < W.heap.size := fun x hx => hW'.lt x (List.mem_append.2 (Or.inl hx))
  have hlt1 : ∀ x ∈ p1, x.block < W.heap.size := fun x hx => hW'.lt x (List.mem_append.2 (Or.inr hx))
  refine (lawFileAdd a n c N zs b m d bs W hn hP h9 hm hQ).mono fun e W' ⟨he, hb⟩ => ?_
  subst he
  exact ⟨_, rfl, ⟨_, _, _, [], p0 ++ p1, [], hW', trodAll_mk1 (shut_bool Try.underlying4 true), trodAll_mk2 (Below.trod Try.laidOutF (by kernel_rfl) (of_decide_eq_true (by kernel_rfl)) h0 hb hlt0) (Below.trod Try.laidOutF (by kernel_rfl) (of_decide_eq_true (by kernel_rfl)) h1 hb hlt1), rfl, hb.frame _, fun h => by cases h⟩⟩

theorem fileAdd_holds : Rows.FnExactFileAddSaid :=
  OpenClaim.holds_of_wide 5 Try.f5 rfl rfl rfl rfl rfl rfl rfl ⟨rfl, rfl, rfl, rfl, rfl⟩ rfl rfl rfl rfl rfl (by kernel_rfl) Try.func5 (by kernel_rfl)
    (of_decide_eq_true (by kernel_rfl)) (by unfold Func.isWrapper; rw [if_neg (of_decide_eq_false (by kernel_rfl))]; exact ⟨rfl, rfl⟩)
    (fun os started H enc _ => fileAdd_lifted os started H enc)

end Go.Proofs.Ytfhlplpiojhhmaa
