/-
  For every two states the two SameState answer alike and leave the states as they were, so the exact law of SameState returns true; no condition.
-/
import Derived.Test.YtngcbhbcocnbeaaZM3
import Derived.ProofKit
import Derived.OpenShut
import Derived.Lib.SmallJoins
import Derived.Carry
import Derived.Deep.Slices
import Derived.ChangeMaps5
import Derived.ChangeSame
namespace Go.Proofs.Ytngcbhbcocnbeaa
open Go.ChangeShapes Go.WideShapes Go.ChangeAt Go.RowKit Go.Joins Go.Deep

theorem alloc2_below (w : World) (o p : Obj) : Below w.heap.size w ((w.alloc o).alloc p) := (alloc_below w o).alloc (by simp) p
theorem totS_nn (ps : List Pl) (bs : List Bk) (ls : List Ls) (ss : List Ss) : 0 ≤ totS ps bs ls ss := by
  have n1 := totP_nn ps bs
  have n2 := totB_nn ls
  have n3 := totD_nn ss
  unfold totS; omega
set_option maxRecDepth 10000 in
set_option maxHeartbeats 8000000 in
theorem lawSameState (ap : Option Addr) (np cp : Nat) (ab : Option Addr) (nb cb : Nat) (al : Option Addr) (nl cl : Nat) (T N : Int) (aS : Option Addr) (ns cs : Nat) (X C : Int) (ps : List Pl) (bs : List Bk) (ls : List Ls) (ss : List Ss) (ap' : Option Addr) (np' cp' : Nat) (ab' : Option Addr) (nb' cb' : Nat) (al' : Option Addr) (nl' cl' : Nat) (T' N' : Int) (aS' : Option Addr) (ns' cs' : Nat) (X' C' : Int) (ps' : List Pl) (bs' : List Bk) (ls' : List Ls) (ss' : List Ss) (w : World) (hnp : np = ps.length) (hnb : nb = bs.length) (hnl : nl = ls.length) (hns : ns = ss.length) (gnp : np' = ps'.length) (gnb : nb' = bs'.length) (gnl : nl' = ls'.length) (gns : ns' = ss'.length) (hP : RowG KPl w ap ps) (hK : RowG KBk w ab bs) (hL : RowG KLs w al ls) (hS : RowG KSs w aS ss) (gP : RowG KPl w ap' ps') (gK : RowG KBk w ab' bs') (gL : RowG KLs w al' ls') (gS : RowG KSs w aS' ss') (h9p : np ≤ 9223372036854775807) (h9b : nb ≤ 9223372036854775807) (h9l : nl ≤ 9223372036854775807) (h9s : ns ≤ 9223372036854775807) (g9p : np' ≤ 9223372036854775807) (g9b : nb' ≤ 9223372036854775807) (g9l : nl' ≤ 9223372036854775807) (g9s : ns' ≤ 9223372036854775807) (hsb : ∀ q ∈ bs, q.t.size ≤ 9223372036854775807) (hsl : ∀ q ∈ ls, q.t.size ≤ 9223372036854775807) (hss : ∀ q ∈ ss, q.t.size ≤ 9223372036854775807) (gsb : ∀ q ∈ bs', q.t.size ≤ 9223372036854775807) (gsl : ∀ q ∈ ls', q.t.size ≤ 9223372036854775807) (gss : ∀ q ∈ ss', q.t.size ≤ 9223372036854775807) :
    Calls Try.prog 3 #[.agg #[.slice ap np cp, .slice ab nb cb, .slice al nl cl, .int .i64 T, .int .i64 N, .slice aS ns cs, .int .i64 X, .int .i64 C], .agg #[.slice ap' np' cp', .slice ab' nb' cb', .slice al' nl' cl', .int .i64 T', .int .i64 N', .slice aS' ns' cs', .int .i64 X', .int .i64 C']] w fun e w' => e = .returned (.bool true) ∧ Below w.heap.size w w' := by
  have HSz := hidP (fun W h => szState_any ap np cp ab nb cb al nl cl T N aS ns cs X C ps bs ls ss W hnp hnb hnl hns (hK.later h) (hL.later h) (hS.later h) h9p h9b h9l h9s hsb hsl hss)
  have n0 := totS_nn ps bs ls ss
  have n0' := totS_nn ps' bs' ls' ss'
  by_cases ht : totS ps bs ls ss ≤ 1048576
  · rw [szT_yes ht] at HSz
    have GSz := hidP (fun W h => szState_at ap' np' cp' ab' nb' cb' al' nl' cl' T' N' aS' ns' cs' X' C' ps' bs' ls' ss' (1048576 - totS ps bs ls ss) (by omega) (by omega) W gnp gnb gnl gns (gK.later h) (gL.later h) (gS.later h) g9p g9b g9l g9s gsb gsl gss)
    have d1 : decide (1048576 - totS ps bs ls ss < 0) = false := decide_eq_false (by omega)
    have d2 : ¬ (1048576 - totS ps bs ls ss < 0) := by omega
    by_cases ht' : totS ps' bs' ls' ss' ≤ 1048576 - totS ps bs ls ss
    · rw [szL_yes ht'] at GSz
      have n1 := totP_nn ps bs
      have n2 := totB_nn ls
      have n3 := totD_nn ss
      have m1 := totP_nn ps' bs'
      have m2 := totB_nn ls'
      have m3 := totD_nn ss'
      have hlp : np ≤ 1048576 := by unfold totS at ht; unfold totP at ht; omega
      have hlb : nb ≤ 1048576 := by unfold totS at ht; unfold totP at ht; omega
      have hll : nl ≤ 1048576 := by unfold totS at ht; unfold totB at ht; omega
      have hls : ns ≤ 1048576 := by unfold totS at ht; unfold totD at ht; omega
      have ht2 : totS ps' bs' ls' ss' ≤ 1048576 := by omega
      have glp : np' ≤ 1048576 := by unfold totS at ht2; unfold totP at ht2; omega
      have glb : nb' ≤ 1048576 := by unfold totS at ht2; unfold totP at ht2; omega
      have gll : nl' ≤ 1048576 := by unfold totS at ht2; unfold totB at ht2; omega
      have gls : ns' ≤ 1048576 := by unfold totS at ht2; unfold totD at ht2; omega
      have HTo := hidP (fun W h => toState_any ap np cp ab nb cb al nl cl T N aS ns cs X C ps bs ls ss W hnp hnb hnl hns (hP.later h) (hK.later h) (hL.later h) (hS.later h) hlp hlb hll hls)
      have GTo := hidP (fun W h => toState_any ap' np' cp' ab' nb' cb' al' nl' cl' T' N' aS' ns' cs' X' C' ps' bs' ls' ss' W gnp gnb gnl gns (gP.later h) (gK.later h) (gL.later h) (gS.later h) glp glb gll gls)
      have HEq := hidP (fun W g h i j g' h' i' j' e1 e2 e3 e4 e5 e6 e7 e8 => eqState_same (some ⟨g, 0, none⟩) np np (some ⟨h, 0, none⟩) nb nb (some ⟨i, 0, none⟩) nl nl T N (some ⟨j, 0, none⟩) ns ns X C ps bs ls ss (some ⟨g', 0, none⟩) np (some ⟨h', 0, none⟩) nb (some ⟨i', 0, none⟩) nl (some ⟨j', 0, none⟩) ns W hnp hnb hnl hns e1 e2 e3 e4 e5 e6 e7 e8 (by omega) (by omega) (by omega) (by omega))
      have GEq := hidP (fun W g h i j g' h' i' j' e1 e2 e3 e4 e5 e6 e7 e8 => eqState_same (some ⟨g, 0, none⟩) np' np' (some ⟨h, 0, none⟩) nb' nb' (some ⟨i, 0, none⟩) nl' nl' T' N' (some ⟨j, 0, none⟩) ns' ns' X' C' ps' bs' ls' ss' (some ⟨g', 0, none⟩) np' (some ⟨h', 0, none⟩) nb' (some ⟨i', 0, none⟩) nl' (some ⟨j', 0, none⟩) ns' W gnp gnb gnl gns e1 e2 e3 e4 e5 e6 e7 e8 (by omega) (by omega) (by omega) (by omega))
      have HSp := hidP (fun W g h i j a b c d e1 e2 e3 e4 e5 e6 e7 e8 => sSame_any (some ⟨g, 0, none⟩) np np (some ⟨h, 0, none⟩) nb nb (some ⟨i, 0, none⟩) nl nl T N (some ⟨j, 0, none⟩) ns ns X C ps bs ls ss (some ⟨a, 0, none⟩) np' np' (some ⟨b, 0, none⟩) nb' nb' (some ⟨c, 0, none⟩) nl' nl' T' N' (some ⟨d, 0, none⟩) ns' ns' X' C' ps' bs' ls' ss' W hnp hnb hnl hns gnp gnb gnl gns e1 e2 e3 e4 e5 e6 e7 e8 hlp hlb hll hls glp glb gll gls)
      have HIm := hidP (fun W g h i j a b c d e1 e2 e3 e4 e5 e6 e7 e8 => iSame_any (some ⟨g, 0, none⟩) np np (some ⟨h, 0, none⟩) nb nb (some ⟨i, 0, none⟩) nl nl T N (some ⟨j, 0, none⟩) ns ns X C ps bs ls ss (some ⟨a, 0, none⟩) np' np' (some ⟨b, 0, none⟩) nb' nb' (some ⟨c, 0, none⟩) nl' nl' T' N' (some ⟨d, 0, none⟩) ns' ns' X' C' ps' bs' ls' ss' W hnp hnb hnl hns gnp gnb gnl gns e1 e2 e3 e4 e5 e6 e7 e8 hlp hlb hll hls glp glb gll gls)
      generalize sameB ps bs ls T N ss X C ps' bs' ls' T' N' ss' X' C' = r at *
      have hrr : (r != r) = false := by cases r <;> rfl
      have d3 : decide (1048576 - totS ps bs ls ss - totS ps' bs' ls' ss' < 0) = false := decide_eq_false (by omega)
      have d4 : ¬ (1048576 - totS ps bs ls ss - totS ps' bs' ls' ss' < 0) := by omega
      generalize 1048576 - totS ps bs ls ss - totS ps' bs' ls' ss' = z2 at *
      generalize 1048576 - totS ps bs ls ss = z1 at *
      clear hP hK hL hS hnp hnb hnl hns hsb hsl hss gP gK gL gS gnp gnb gnl gns gsb gsl gss ht ht' ht2 n1 n2 n3 m1 m2 m3 n0 n0'
      go_enter Try.func3, Try.ntmps3
      go_wp2_with fail
      obtain ⟨la0_W1, la1_W1, la2_W1, la3_W1, la4_W1, la5_W1, la6_W1, la7_W1⟩ := bx8 w 33 (.slice ap np cp) (.slice ab nb cb) (.slice al nl cl) (.int .i64 T) (.int .i64 N) (.slice aS ns cs) (.int .i64 X) (.int .i64 C)
      have laF_W1 : ∀ o, (w.alloc (.cells #[.slice ap np cp, .slice ab nb cb, .slice al nl cl, .int .i64 T, .int .i64 N, .slice aS ns cs, .int .i64 X, .int .i64 C] 33)).frozen? ⟨w.heap.size, o, none⟩ = false := fun o => by simp [go_sem]
      have laL_W1 : w.heap.size < (w.alloc (.cells #[.slice ap np cp, .slice ab nb cb, .slice al nl cl, .int .i64 T, .int .i64 N, .slice aS ns cs, .int .i64 X, .int .i64 C] 33)).heap.size := by simp
      have ab_W1 := alloc_below w (.cells #[.slice ap np cp, .slice ab nb cb, .slice al nl cl, .int .i64 T, .int .i64 N, .slice aS ns cs, .int .i64 X, .int .i64 C] 33)
      have as_W1 : Hid ((w.alloc (.cells #[.slice ap np cp, .slice ab nb cb, .slice al nl cl, .int .i64 T, .int .i64 N, .slice aS ns cs, .int .i64 X, .int .i64 C] 33)).heap.size = w.heap.size + 1) := hidP (by simp)
      generalize w.alloc (.cells #[.slice ap np cp, .slice ab nb cb, .slice al nl cl, .int .i64 T, .int .i64 N, .slice aS ns cs, .int .i64 X, .int .i64 C] 33) = W1 at *
      have acc_W1 := hidP (ab_W1)
      have sz_W1 : Hid (w.heap.size ≤ W1.heap.size) := hidP ab_W1.size
      clear ab_W1 
      obtain ⟨lb0_W2, lb1_W2, lb2_W2, lb3_W2, lb4_W2, lb5_W2, lb6_W2, lb7_W2⟩ := bx8 W1 33 (.slice ap' np' cp') (.slice ab' nb' cb') (.slice al' nl' cl') (.int .i64 T') (.int .i64 N') (.slice aS' ns' cs') (.int .i64 X') (.int .i64 C')
      have lbF_W2 : ∀ o, (W1.alloc (.cells #[.slice ap' np' cp', .slice ab' nb' cb', .slice al' nl' cl', .int .i64 T', .int .i64 N', .slice aS' ns' cs', .int .i64 X', .int .i64 C'] 33)).frozen? ⟨W1.heap.size, o, none⟩ = false := fun o => by simp [go_sem]
      have lbL_W2 : W1.heap.size < (W1.alloc (.cells #[.slice ap' np' cp', .slice ab' nb' cb', .slice al' nl' cl', .int .i64 T', .int .i64 N', .slice aS' ns' cs', .int .i64 X', .int .i64 C'] 33)).heap.size := by simp
      have ab_W2 := alloc_below W1 (.cells #[.slice ap' np' cp', .slice ab' nb' cb', .slice al' nl' cl', .int .i64 T', .int .i64 N', .slice aS' ns' cs', .int .i64 X', .int .i64 C'] 33)
      have as_W2 : Hid ((W1.alloc (.cells #[.slice ap' np' cp', .slice ab' nb' cb', .slice al' nl' cl', .int .i64 T', .int .i64 N', .slice aS' ns' cs', .int .i64 X', .int .i64 C'] 33)).heap.size = W1.heap.size + 1) := hidP (by simp)
      generalize W1.alloc (.cells #[.slice ap' np' cp', .slice ab' nb' cb', .slice al' nl' cl', .int .i64 T', .int .i64 N', .slice aS' ns' cs', .int .i64 X', .int .i64 C'] 33) = W2 at *
      have la0_W2 := (ab_W2.cell laL_W1).trans la0_W1
      have la1_W2 := (ab_W2.cell laL_W1).trans la1_W1
      have la2_W2 := (ab_W2.cell laL_W1).trans la2_W1
      have la3_W2 := (ab_W2.cell laL_W1).trans la3_W1
      have la4_W2 := (ab_W2.cell laL_W1).trans la4_W1
      have la5_W2 := (ab_W2.cell laL_W1).trans la5_W1
      have la6_W2 := (ab_W2.cell laL_W1).trans la6_W1
      have la7_W2 := (ab_W2.cell laL_W1).trans la7_W1
      have laF_W2 : ∀ o, W2.frozen? ⟨w.heap.size, o, none⟩ = false := fun o => (ab_W2.frozen laL_W1).trans (laF_W1 o)
      have laL_W2 : w.heap.size < W2.heap.size := Nat.lt_of_lt_of_le laL_W1 ab_W2.size
      have acc_W2 := hidP (acc_W1.out.trans (ab_W2.mono acc_W1.out.size))
      have sz_W2 : Hid (W1.heap.size ≤ W2.heap.size) := hidP ab_W2.size
      clear ab_W2 la0_W1 la1_W1 la2_W1 la3_W1 la4_W1 la5_W1 la6_W1 la7_W1 laF_W1 laL_W1 acc_W1
      simp only [as_W1.out] at lb0_W2 lb1_W2 lb2_W2 lb3_W2 lb4_W2 lb5_W2 lb6_W2 lb7_W2 lbF_W2 lbL_W2
      refine (HSz.out _ acc_W2.out).mono ?_
      rintro e w3 ⟨rfl, hb3⟩
      have la0_w3 := (hb3.cell laL_W2).trans la0_W2
      have la1_w3 := (hb3.cell laL_W2).trans la1_W2
      have la2_w3 := (hb3.cell laL_W2).trans la2_W2
      have la3_w3 := (hb3.cell laL_W2).trans la3_W2
      have la4_w3 := (hb3.cell laL_W2).trans la4_W2
      have la5_w3 := (hb3.cell laL_W2).trans la5_W2
      have la6_w3 := (hb3.cell laL_W2).trans la6_W2
      have la7_w3 := (hb3.cell laL_W2).trans la7_W2
      have laF_w3 : ∀ o, w3.frozen? ⟨w.heap.size, o, none⟩ = false := fun o => (hb3.frozen laL_W2).trans (laF_W2 o)
      have laL_w3 : w.heap.size < w3.heap.size := Nat.lt_of_lt_of_le laL_W2 hb3.size
      have lb0_w3 := (hb3.cell lbL_W2).trans lb0_W2
      have lb1_w3 := (hb3.cell lbL_W2).trans lb1_W2
      have lb2_w3 := (hb3.cell lbL_W2).trans lb2_W2
      have lb3_w3 := (hb3.cell lbL_W2).trans lb3_W2
      have lb4_w3 := (hb3.cell lbL_W2).trans lb4_W2
      have lb5_w3 := (hb3.cell lbL_W2).trans lb5_W2
      have lb6_w3 := (hb3.cell lbL_W2).trans lb6_W2
      have lb7_w3 := (hb3.cell lbL_W2).trans lb7_W2
      have lbF_w3 : ∀ o, w3.frozen? ⟨(w.heap.size + 1), o, none⟩ = false := fun o => (hb3.frozen lbL_W2).trans (lbF_W2 o)
      have lbL_w3 : (w.heap.size + 1) < w3.heap.size := Nat.lt_of_lt_of_le lbL_W2 hb3.size
      have acc_w3 := hidP (acc_W2.out.trans (hb3.mono acc_W2.out.size))
      have sz_w3 : Hid (W2.heap.size ≤ w3.heap.size) := hidP hb3.size
      clear hb3 la0_W2 la1_W2 la2_W2 la3_W2 la4_W2 la5_W2 la6_W2 la7_W2 laF_W2 laL_W2 lb0_W2 lb1_W2 lb2_W2 lb3_W2 lb4_W2 lb5_W2 lb6_W2 lb7_W2 lbF_W2 lbL_W2 acc_W2
      go_wp2_with fail
      refine (GSz.out _ acc_w3.out).mono ?_
      rintro e w4 ⟨rfl, hb4⟩
      have la0_w4 := (hb4.cell laL_w3).trans la0_w3
      have la1_w4 := (hb4.cell laL_w3).trans la1_w3
      have la2_w4 := (hb4.cell laL_w3).trans la2_w3
      have la3_w4 := (hb4.cell laL_w3).trans la3_w3
      have la4_w4 := (hb4.cell laL_w3).trans la4_w3
      have la5_w4 := (hb4.cell laL_w3).trans la5_w3
      have la6_w4 := (hb4.cell laL_w3).trans la6_w3
      have la7_w4 := (hb4.cell laL_w3).trans la7_w3
      have laF_w4 : ∀ o, w4.frozen? ⟨w.heap.size, o, none⟩ = false := fun o => (hb4.frozen laL_w3).trans (laF_w3 o)
      have laL_w4 : w.heap.size < w4.heap.size := Nat.lt_of_lt_of_le laL_w3 hb4.size
      have lb0_w4 := (hb4.cell lbL_w3).trans lb0_w3
      have lb1_w4 := (hb4.cell lbL_w3).trans lb1_w3
      have lb2_w4 := (hb4.cell lbL_w3).trans lb2_w3
      have lb3_w4 := (hb4.cell lbL_w3).trans lb3_w3
      have lb4_w4 := (hb4.cell lbL_w3).trans lb4_w3
      have lb5_w4 := (hb4.cell lbL_w3).trans lb5_w3
      have lb6_w4 := (hb4.cell lbL_w3).trans lb6_w3
      have lb7_w4 := (hb4.cell lbL_w3).trans lb7_w3
      have lbF_w4 : ∀ o, w4.frozen? ⟨(w.heap.size + 1), o, none⟩ = false := fun o => (hb4.frozen lbL_w3).trans (lbF_w3 o)
      have lbL_w4 : (w.heap.size + 1) < w4.heap.size := Nat.lt_of_lt_of_le lbL_w3 hb4.size
      have acc_w4 := hidP (acc_w3.out.trans (hb4.mono acc_w3.out.size))
      have sz_w4 : Hid (w3.heap.size ≤ w4.heap.size) := hidP hb4.size
      clear hb4 la0_w3 la1_w3 la2_w3 la3_w3 la4_w3 la5_w3 la6_w3 la7_w3 laF_w3 laL_w3 lb0_w3 lb1_w3 lb2_w3 lb3_w3 lb4_w3 lb5_w3 lb6_w3 lb7_w3 lbF_w3 lbL_w3 acc_w3
      go_upto_region 8 with fail
      go_cut [6] (fun t6 Y => t6 = .bool r ∧ Below w4.heap.size w4 Y)
      case first =>
        have HSx : Hid (∀ x, Below w4.heap.size w4 x → (x.cell? ⟨w.heap.size, 0, none⟩ = some (.slice ap np cp) ∧ x.cell? ⟨w.heap.size, 1, none⟩ = some (.slice ab nb cb) ∧ x.cell? ⟨w.heap.size, 2, none⟩ = some (.slice al nl cl) ∧ x.cell? ⟨w.heap.size, 3, none⟩ = some (.int .i64 T) ∧ x.cell? ⟨w.heap.size, 4, none⟩ = some (.int .i64 N) ∧ x.cell? ⟨w.heap.size, 5, none⟩ = some (.slice aS ns cs) ∧ x.cell? ⟨w.heap.size, 6, none⟩ = some (.int .i64 X) ∧ x.cell? ⟨w.heap.size, 7, none⟩ = some (.int .i64 C) ∧ x.cell? ⟨w.heap.size + 1, 0, none⟩ = some (.slice ap' np' cp') ∧ x.cell? ⟨w.heap.size + 1, 1, none⟩ = some (.slice ab' nb' cb') ∧ x.cell? ⟨w.heap.size + 1, 2, none⟩ = some (.slice al' nl' cl') ∧ x.cell? ⟨w.heap.size + 1, 3, none⟩ = some (.int .i64 T') ∧ x.cell? ⟨w.heap.size + 1, 4, none⟩ = some (.int .i64 N') ∧ x.cell? ⟨w.heap.size + 1, 5, none⟩ = some (.slice aS' ns' cs') ∧ x.cell? ⟨w.heap.size + 1, 6, none⟩ = some (.int .i64 X') ∧ x.cell? ⟨w.heap.size + 1, 7, none⟩ = some (.int .i64 C') ∧ Below w4.heap.size w4 x)) := hidP fun x h =>
          ⟨(h.cell laL_w4).trans la0_w4, (h.cell laL_w4).trans la1_w4, (h.cell laL_w4).trans la2_w4, (h.cell laL_w4).trans la3_w4, (h.cell laL_w4).trans la4_w4, (h.cell laL_w4).trans la5_w4, (h.cell laL_w4).trans la6_w4, (h.cell laL_w4).trans la7_w4, (h.cell lbL_w4).trans lb0_w4, (h.cell lbL_w4).trans lb1_w4, (h.cell lbL_w4).trans lb2_w4, (h.cell lbL_w4).trans lb3_w4, (h.cell lbL_w4).trans lb4_w4, (h.cell lbL_w4).trans lb5_w4, (h.cell lbL_w4).trans lb6_w4, (h.cell lbL_w4).trans lb7_w4, h⟩
        refine wp_region_held_drew (S := (fun x => x.cell? ⟨w.heap.size, 0, none⟩ = some (.slice ap np cp) ∧ x.cell? ⟨w.heap.size, 1, none⟩ = some (.slice ab nb cb) ∧ x.cell? ⟨w.heap.size, 2, none⟩ = some (.slice al nl cl) ∧ x.cell? ⟨w.heap.size, 3, none⟩ = some (.int .i64 T) ∧ x.cell? ⟨w.heap.size, 4, none⟩ = some (.int .i64 N) ∧ x.cell? ⟨w.heap.size, 5, none⟩ = some (.slice aS ns cs) ∧ x.cell? ⟨w.heap.size, 6, none⟩ = some (.int .i64 X) ∧ x.cell? ⟨w.heap.size, 7, none⟩ = some (.int .i64 C) ∧ x.cell? ⟨w.heap.size + 1, 0, none⟩ = some (.slice ap' np' cp') ∧ x.cell? ⟨w.heap.size + 1, 1, none⟩ = some (.slice ab' nb' cb') ∧ x.cell? ⟨w.heap.size + 1, 2, none⟩ = some (.slice al' nl' cl') ∧ x.cell? ⟨w.heap.size + 1, 3, none⟩ = some (.int .i64 T') ∧ x.cell? ⟨w.heap.size + 1, 4, none⟩ = some (.int .i64 N') ∧ x.cell? ⟨w.heap.size + 1, 5, none⟩ = some (.slice aS' ns' cs') ∧ x.cell? ⟨w.heap.size + 1, 6, none⟩ = some (.int .i64 X') ∧ x.cell? ⟨w.heap.size + 1, 7, none⟩ = some (.int .i64 C') ∧ Below w4.heap.size w4 x)) (by kernel_rfl) ?_ (fun hHeld => ?_)
        · try dsimp only
          exact HSx.out _ (Below.refl _ _).drew
        refine tkA 0 20 (v := ?_) rfl (by kernel_rfl) (fun _ _ _ h => h) (by rfl) ?_ (by assumption) ?_; rotate_left; · (intro w hSw; (try dsimp only at hSw); go_simp; try with_reducible rfl)
        simp only [pa]
        refine tkA 2 22 (v := ?_) rfl (by kernel_rfl) (fun _ _ _ h => h) (by rfl) ?_ (by assumption) ?_; rotate_left; · (intro w hSw; (try dsimp only at hSw); go_simp; try with_reducible rfl)
        simp only [pa]
        refine wpAnyH_ready (rs := [1]) (by kernel_rfl) (by simp) ?_
        refine AllReadyH.cons rfl (fun K hK => ?_) AllReadyH.nil
        go_simp
        go_wp2_with (first | (go_at_call 6; refine (HTo.out _ (acc_w4.out.trans ((hHeld.2.2.2.2.2.2.2.2.2.2.2.2.2.2.2.2).mono acc_w4.out.size))).mono ?_; rintro e w5 ⟨g5, h5, i5, j5, rfl, og5, oh5, oi5, oj5, hb5⟩; have b5 := (hHeld.2.2.2.2.2.2.2.2.2.2.2.2.2.2.2.2).trans (hb5.mono (hHeld.2.2.2.2.2.2.2.2.2.2.2.2.2.2.2.2).size)))
        refine hK.out _ _ ?_ (fun hHeld => ?_)
        · try dsimp only
          exact HSx.out _ b5
        clear hK K
        refine wpAnyH_ready (rs := [3]) (by kernel_rfl) (by simp) ?_
        refine AllReadyH.cons rfl (fun K hK => ?_) AllReadyH.nil
        go_simp
        go_wp2_with (first | (go_at_call 6; refine (GTo.out _ (acc_w4.out.trans ((hHeld.2.2.2.2.2.2.2.2.2.2.2.2.2.2.2.2).mono acc_w4.out.size))).mono ?_; rintro e w6 ⟨g6, h6, i6, j6, rfl, og6, oh6, oi6, oj6, hb6⟩; have b6 := (hHeld.2.2.2.2.2.2.2.2.2.2.2.2.2.2.2.2).trans (hb6.mono (hHeld.2.2.2.2.2.2.2.2.2.2.2.2.2.2.2.2).size)))
        refine hK.out _ _ ?_ (fun hHeld => ?_)
        · try dsimp only
          exact HSx.out _ b6
        clear hK K
        refine wpAnyH_ready (rs := [4]) (by kernel_rfl) (by simp) ?_
        refine AllReadyH.cons rfl (fun K hK => ?_) AllReadyH.nil
        go_simp
        go_wp2_with (first | (go_at_call 5; refine (HSp.out _ g5 h5 i5 j5 g6 h6 i6 j6 (RowG.later og5.row hb6) (RowG.later oh5.row hb6) (RowG.later oi5.row hb6) (RowG.later oj5.row hb6) og6.row oh6.row oi6.row oj6.row).mono ?_; rintro e w7 ⟨rfl, hb7⟩; have b7 := (hHeld.2.2.2.2.2.2.2.2.2.2.2.2.2.2.2.2).trans (hb7.mono (hHeld.2.2.2.2.2.2.2.2.2.2.2.2.2.2.2.2).size)))
        refine hK.out _ _ ?_ (fun hHeld => ?_)
        · try dsimp only
          exact HSx.out _ b7
        clear hK K
        refine tkA 5 6 (v := ?_) rfl (by kernel_rfl) (fun _ _ _ h => h) (by rfl) ?_ (by assumption) ?_; rotate_left; · (intro w hSw; (try dsimp only at hSw); go_simp; try with_reducible rfl)
        simp only [pa]
        have HE := hidP (hHeld.2.2.2.2.2.2.2.2.2.2.2.2.2.2.2.2)
        refine wpAnyH_done (by kernel_rfl) ?_ _
        clear hHeld
        go_wp2_with fail
        go_meet
        exact ⟨rfl, HE.out⟩
      case rest =>
        obtain ⟨rfl, hX⟩ := hcut
        have la0_wc := (hX.cell laL_w4).trans la0_w4
        have la1_wc := (hX.cell laL_w4).trans la1_w4
        have la2_wc := (hX.cell laL_w4).trans la2_w4
        have la3_wc := (hX.cell laL_w4).trans la3_w4
        have la4_wc := (hX.cell laL_w4).trans la4_w4
        have la5_wc := (hX.cell laL_w4).trans la5_w4
        have la6_wc := (hX.cell laL_w4).trans la6_w4
        have la7_wc := (hX.cell laL_w4).trans la7_w4
        have laF_wc : ∀ o, wc.frozen? ⟨w.heap.size, o, none⟩ = false := fun o => (hX.frozen laL_w4).trans (laF_w4 o)
        have laL_wc : w.heap.size < wc.heap.size := Nat.lt_of_lt_of_le laL_w4 hX.size
        have lb0_wc := (hX.cell lbL_w4).trans lb0_w4
        have lb1_wc := (hX.cell lbL_w4).trans lb1_w4
        have lb2_wc := (hX.cell lbL_w4).trans lb2_w4
        have lb3_wc := (hX.cell lbL_w4).trans lb3_w4
        have lb4_wc := (hX.cell lbL_w4).trans lb4_w4
        have lb5_wc := (hX.cell lbL_w4).trans lb5_w4
        have lb6_wc := (hX.cell lbL_w4).trans lb6_w4
        have lb7_wc := (hX.cell lbL_w4).trans lb7_w4
        have lbF_wc : ∀ o, wc.frozen? ⟨(w.heap.size + 1), o, none⟩ = false := fun o => (hX.frozen lbL_w4).trans (lbF_w4 o)
        have lbL_wc : (w.heap.size + 1) < wc.heap.size := Nat.lt_of_lt_of_le lbL_w4 hX.size
        have acc_wc := hidP (acc_w4.out.trans (hX.mono acc_w4.out.size))
        have sz_wc : Hid (w4.heap.size ≤ wc.heap.size) := hidP hX.size
        clear hX la0_w4 la1_w4 la2_w4 la3_w4 la4_w4 la5_w4 la6_w4 la7_w4 laF_w4 laL_w4 lb0_w4 lb1_w4 lb2_w4 lb3_w4 lb4_w4 lb5_w4 lb6_w4 lb7_w4 lbF_w4 lbL_w4 acc_w4
        go_wp2_with fail
        refine (HTo.out _ acc_wc.out).mono ?_
        rintro e w5 ⟨g5, h5, i5, j5, rfl, og5, oh5, oi5, oj5, hb5⟩
        have OP5 := hidP og5
        have OQ5 := hidP oh5
        have OR5 := hidP oi5
        have OS5 := hidP oj5
        clear og5 oh5 oi5 oj5
        have la0_w5 := (hb5.cell laL_wc).trans la0_wc
        have la1_w5 := (hb5.cell laL_wc).trans la1_wc
        have la2_w5 := (hb5.cell laL_wc).trans la2_wc
        have la3_w5 := (hb5.cell laL_wc).trans la3_wc
        have la4_w5 := (hb5.cell laL_wc).trans la4_wc
        have la5_w5 := (hb5.cell laL_wc).trans la5_wc
        have la6_w5 := (hb5.cell laL_wc).trans la6_wc
        have la7_w5 := (hb5.cell laL_wc).trans la7_wc
        have laF_w5 : ∀ o, w5.frozen? ⟨w.heap.size, o, none⟩ = false := fun o => (hb5.frozen laL_wc).trans (laF_wc o)
        have laL_w5 : w.heap.size < w5.heap.size := Nat.lt_of_lt_of_le laL_wc hb5.size
        have lb0_w5 := (hb5.cell lbL_wc).trans lb0_wc
        have lb1_w5 := (hb5.cell lbL_wc).trans lb1_wc
        have lb2_w5 := (hb5.cell lbL_wc).trans lb2_wc
        have lb3_w5 := (hb5.cell lbL_wc).trans lb3_wc
        have lb4_w5 := (hb5.cell lbL_wc).trans lb4_wc
        have lb5_w5 := (hb5.cell lbL_wc).trans lb5_wc
        have lb6_w5 := (hb5.cell lbL_wc).trans lb6_wc
        have lb7_w5 := (hb5.cell lbL_wc).trans lb7_wc
        have lbF_w5 : ∀ o, w5.frozen? ⟨(w.heap.size + 1), o, none⟩ = false := fun o => (hb5.frozen lbL_wc).trans (lbF_wc o)
        have lbL_w5 : (w.heap.size + 1) < w5.heap.size := Nat.lt_of_lt_of_le lbL_wc hb5.size
        have acc_w5 := hidP (acc_wc.out.trans (hb5.mono acc_wc.out.size))
        have sz_w5 : Hid (wc.heap.size ≤ w5.heap.size) := hidP hb5.size
        clear hb5 la0_wc la1_wc la2_wc la3_wc la4_wc la5_wc la6_wc la7_wc laF_wc laL_wc lb0_wc lb1_wc lb2_wc lb3_wc lb4_wc lb5_wc lb6_wc lb7_wc lbF_wc lbL_wc acc_wc
        have oP5_w5 := hidP (OP5.out)
        have oQ5_w5 := hidP (OQ5.out)
        have oR5_w5 := hidP (OR5.out)
        have oS5_w5 := hidP (OS5.out)
        clear OP5 OQ5 OR5 OS5
        go_wp2_with fail
        obtain ⟨xa0_W6, xa1_W6, xa2_W6, xa3_W6, xa4_W6, xa5_W6, xa6_W6, xa7_W6⟩ := bx8 w5 47 (.slice (some ⟨g5, 0, none⟩) np np) (.slice (some ⟨h5, 0, none⟩) nb nb) (.slice (some ⟨i5, 0, none⟩) nl nl) (.int .i64 T) (.int .i64 N) (.slice (some ⟨j5, 0, none⟩) ns ns) (.int .i64 X) (.int .i64 C)
        have xaF_W6 : ∀ o, (w5.alloc (.cells #[.slice (some ⟨g5, 0, none⟩) np np, .slice (some ⟨h5, 0, none⟩) nb nb, .slice (some ⟨i5, 0, none⟩) nl nl, .int .i64 T, .int .i64 N, .slice (some ⟨j5, 0, none⟩) ns ns, .int .i64 X, .int .i64 C] 47)).frozen? ⟨w5.heap.size, o, none⟩ = false := fun o => by simp [go_sem]
        have xaL_W6 : w5.heap.size < (w5.alloc (.cells #[.slice (some ⟨g5, 0, none⟩) np np, .slice (some ⟨h5, 0, none⟩) nb nb, .slice (some ⟨i5, 0, none⟩) nl nl, .int .i64 T, .int .i64 N, .slice (some ⟨j5, 0, none⟩) ns ns, .int .i64 X, .int .i64 C] 47)).heap.size := by simp
        have ab_W6 := alloc_below w5 (.cells #[.slice (some ⟨g5, 0, none⟩) np np, .slice (some ⟨h5, 0, none⟩) nb nb, .slice (some ⟨i5, 0, none⟩) nl nl, .int .i64 T, .int .i64 N, .slice (some ⟨j5, 0, none⟩) ns ns, .int .i64 X, .int .i64 C] 47)
        have as_W6 : Hid ((w5.alloc (.cells #[.slice (some ⟨g5, 0, none⟩) np np, .slice (some ⟨h5, 0, none⟩) nb nb, .slice (some ⟨i5, 0, none⟩) nl nl, .int .i64 T, .int .i64 N, .slice (some ⟨j5, 0, none⟩) ns ns, .int .i64 X, .int .i64 C] 47)).heap.size = w5.heap.size + 1) := hidP (by simp)
        generalize w5.alloc (.cells #[.slice (some ⟨g5, 0, none⟩) np np, .slice (some ⟨h5, 0, none⟩) nb nb, .slice (some ⟨i5, 0, none⟩) nl nl, .int .i64 T, .int .i64 N, .slice (some ⟨j5, 0, none⟩) ns ns, .int .i64 X, .int .i64 C] 47) = W6 at *
        have la0_W6 := (ab_W6.cell laL_w5).trans la0_w5
        have la1_W6 := (ab_W6.cell laL_w5).trans la1_w5
        have la2_W6 := (ab_W6.cell laL_w5).trans la2_w5
        have la3_W6 := (ab_W6.cell laL_w5).trans la3_w5
        have la4_W6 := (ab_W6.cell laL_w5).trans la4_w5
        have la5_W6 := (ab_W6.cell laL_w5).trans la5_w5
        have la6_W6 := (ab_W6.cell laL_w5).trans la6_w5
        have la7_W6 := (ab_W6.cell laL_w5).trans la7_w5
        have laF_W6 : ∀ o, W6.frozen? ⟨w.heap.size, o, none⟩ = false := fun o => (ab_W6.frozen laL_w5).trans (laF_w5 o)
        have laL_W6 : w.heap.size < W6.heap.size := Nat.lt_of_lt_of_le laL_w5 ab_W6.size
        have lb0_W6 := (ab_W6.cell lbL_w5).trans lb0_w5
        have lb1_W6 := (ab_W6.cell lbL_w5).trans lb1_w5
        have lb2_W6 := (ab_W6.cell lbL_w5).trans lb2_w5
        have lb3_W6 := (ab_W6.cell lbL_w5).trans lb3_w5
        have lb4_W6 := (ab_W6.cell lbL_w5).trans lb4_w5
        have lb5_W6 := (ab_W6.cell lbL_w5).trans lb5_w5
        have lb6_W6 := (ab_W6.cell lbL_w5).trans lb6_w5
        have lb7_W6 := (ab_W6.cell lbL_w5).trans lb7_w5
        have lbF_W6 : ∀ o, W6.frozen? ⟨(w.heap.size + 1), o, none⟩ = false := fun o => (ab_W6.frozen lbL_w5).trans (lbF_w5 o)
        have lbL_W6 : (w.heap.size + 1) < W6.heap.size := Nat.lt_of_lt_of_le lbL_w5 ab_W6.size
        have oP5_W6 := hidP (OwnG.later oP5_w5.out ab_W6)
        have oQ5_W6 := hidP (OwnG.later oQ5_w5.out ab_W6)
        have oR5_W6 := hidP (OwnG.later oR5_w5.out ab_W6)
        have oS5_W6 := hidP (OwnG.later oS5_w5.out ab_W6)
        have acc_W6 := hidP (acc_w5.out.trans (ab_W6.mono acc_w5.out.size))
        have sz_W6 : Hid (w5.heap.size ≤ W6.heap.size) := hidP ab_W6.size
        clear ab_W6 la0_w5 la1_w5 la2_w5 la3_w5 la4_w5 la5_w5 la6_w5 la7_w5 laF_w5 laL_w5 lb0_w5 lb1_w5 lb2_w5 lb3_w5 lb4_w5 lb5_w5 lb6_w5 lb7_w5 lbF_w5 lbL_w5 oP5_w5 oQ5_w5 oR5_w5 oS5_w5 acc_w5
        refine (GTo.out _ acc_W6.out).mono ?_
        rintro e w7 ⟨g7, h7, i7, j7, rfl, og7, oh7, oi7, oj7, hb7⟩
        have OP7 := hidP og7
        have OQ7 := hidP oh7
        have OR7 := hidP oi7
        have OS7 := hidP oj7
        clear og7 oh7 oi7 oj7
        have la0_w7 := (hb7.cell laL_W6).trans la0_W6
        have la1_w7 := (hb7.cell laL_W6).trans la1_W6
        have la2_w7 := (hb7.cell laL_W6).trans la2_W6
        have la3_w7 := (hb7.cell laL_W6).trans la3_W6
        have la4_w7 := (hb7.cell laL_W6).trans la4_W6
        have la5_w7 := (hb7.cell laL_W6).trans la5_W6
        have la6_w7 := (hb7.cell laL_W6).trans la6_W6
        have la7_w7 := (hb7.cell laL_W6).trans la7_W6
        have laF_w7 : ∀ o, w7.frozen? ⟨w.heap.size, o, none⟩ = false := fun o => (hb7.frozen laL_W6).trans (laF_W6 o)
        have laL_w7 : w.heap.size < w7.heap.size := Nat.lt_of_lt_of_le laL_W6 hb7.size
        have lb0_w7 := (hb7.cell lbL_W6).trans lb0_W6
        have lb1_w7 := (hb7.cell lbL_W6).trans lb1_W6
        have lb2_w7 := (hb7.cell lbL_W6).trans lb2_W6
        have lb3_w7 := (hb7.cell lbL_W6).trans lb3_W6
        have lb4_w7 := (hb7.cell lbL_W6).trans lb4_W6
        have lb5_w7 := (hb7.cell lbL_W6).trans lb5_W6
        have lb6_w7 := (hb7.cell lbL_W6).trans lb6_W6
        have lb7_w7 := (hb7.cell lbL_W6).trans lb7_W6
        have lbF_w7 : ∀ o, w7.frozen? ⟨(w.heap.size + 1), o, none⟩ = false := fun o => (hb7.frozen lbL_W6).trans (lbF_W6 o)
        have lbL_w7 : (w.heap.size + 1) < w7.heap.size := Nat.lt_of_lt_of_le lbL_W6 hb7.size
        have xa0_w7 := (hb7.cell xaL_W6).trans xa0_W6
        have xa1_w7 := (hb7.cell xaL_W6).trans xa1_W6
        have xa2_w7 := (hb7.cell xaL_W6).trans xa2_W6
        have xa3_w7 := (hb7.cell xaL_W6).trans xa3_W6
        have xa4_w7 := (hb7.cell xaL_W6).trans xa4_W6
        have xa5_w7 := (hb7.cell xaL_W6).trans xa5_W6
        have xa6_w7 := (hb7.cell xaL_W6).trans xa6_W6
        have xa7_w7 := (hb7.cell xaL_W6).trans xa7_W6
        have xaF_w7 : ∀ o, w7.frozen? ⟨w5.heap.size, o, none⟩ = false := fun o => (hb7.frozen xaL_W6).trans (xaF_W6 o)
        have xaL_w7 : w5.heap.size < w7.heap.size := Nat.lt_of_lt_of_le xaL_W6 hb7.size
        have oP5_w7 := hidP (OwnG.later oP5_W6.out hb7)
        have oQ5_w7 := hidP (OwnG.later oQ5_W6.out hb7)
        have oR5_w7 := hidP (OwnG.later oR5_W6.out hb7)
        have oS5_w7 := hidP (OwnG.later oS5_W6.out hb7)
        have acc_w7 := hidP (acc_W6.out.trans (hb7.mono acc_W6.out.size))
        have sz_w7 : Hid (W6.heap.size ≤ w7.heap.size) := hidP hb7.size
        clear hb7 la0_W6 la1_W6 la2_W6 la3_W6 la4_W6 la5_W6 la6_W6 la7_W6 laF_W6 laL_W6 lb0_W6 lb1_W6 lb2_W6 lb3_W6 lb4_W6 lb5_W6 lb6_W6 lb7_W6 lbF_W6 lbL_W6 xa0_W6 xa1_W6 xa2_W6 xa3_W6 xa4_W6 xa5_W6 xa6_W6 xa7_W6 xaF_W6 xaL_W6 oP5_W6 oQ5_W6 oR5_W6 oS5_W6 acc_W6
        have oP7_w7 := hidP (OP7.out)
        have oQ7_w7 := hidP (OQ7.out)
        have oR7_w7 := hidP (OR7.out)
        have oS7_w7 := hidP (OS7.out)
        clear OP7 OQ7 OR7 OS7
        go_wp2_with fail
        obtain ⟨xb0_W8, xb1_W8, xb2_W8, xb3_W8, xb4_W8, xb5_W8, xb6_W8, xb7_W8⟩ := bx8 w7 47 (.slice (some ⟨g7, 0, none⟩) np' np') (.slice (some ⟨h7, 0, none⟩) nb' nb') (.slice (some ⟨i7, 0, none⟩) nl' nl') (.int .i64 T') (.int .i64 N') (.slice (some ⟨j7, 0, none⟩) ns' ns') (.int .i64 X') (.int .i64 C')
        have xbF_W8 : ∀ o, (w7.alloc (.cells #[.slice (some ⟨g7, 0, none⟩) np' np', .slice (some ⟨h7, 0, none⟩) nb' nb', .slice (some ⟨i7, 0, none⟩) nl' nl', .int .i64 T', .int .i64 N', .slice (some ⟨j7, 0, none⟩) ns' ns', .int .i64 X', .int .i64 C'] 47)).frozen? ⟨w7.heap.size, o, none⟩ = false := fun o => by simp [go_sem]
        have xbL_W8 : w7.heap.size < (w7.alloc (.cells #[.slice (some ⟨g7, 0, none⟩) np' np', .slice (some ⟨h7, 0, none⟩) nb' nb', .slice (some ⟨i7, 0, none⟩) nl' nl', .int .i64 T', .int .i64 N', .slice (some ⟨j7, 0, none⟩) ns' ns', .int .i64 X', .int .i64 C'] 47)).heap.size := by simp
        have ab_W8 := alloc_below w7 (.cells #[.slice (some ⟨g7, 0, none⟩) np' np', .slice (some ⟨h7, 0, none⟩) nb' nb', .slice (some ⟨i7, 0, none⟩) nl' nl', .int .i64 T', .int .i64 N', .slice (some ⟨j7, 0, none⟩) ns' ns', .int .i64 X', .int .i64 C'] 47)
        have as_W8 : Hid ((w7.alloc (.cells #[.slice (some ⟨g7, 0, none⟩) np' np', .slice (some ⟨h7, 0, none⟩) nb' nb', .slice (some ⟨i7, 0, none⟩) nl' nl', .int .i64 T', .int .i64 N', .slice (some ⟨j7, 0, none⟩) ns' ns', .int .i64 X', .int .i64 C'] 47)).heap.size = w7.heap.size + 1) := hidP (by simp)
        generalize w7.alloc (.cells #[.slice (some ⟨g7, 0, none⟩) np' np', .slice (some ⟨h7, 0, none⟩) nb' nb', .slice (some ⟨i7, 0, none⟩) nl' nl', .int .i64 T', .int .i64 N', .slice (some ⟨j7, 0, none⟩) ns' ns', .int .i64 X', .int .i64 C'] 47) = W8 at *
        have la0_W8 := (ab_W8.cell laL_w7).trans la0_w7
        have la1_W8 := (ab_W8.cell laL_w7).trans la1_w7
        have la2_W8 := (ab_W8.cell laL_w7).trans la2_w7
        have la3_W8 := (ab_W8.cell laL_w7).trans la3_w7
        have la4_W8 := (ab_W8.cell laL_w7).trans la4_w7
        have la5_W8 := (ab_W8.cell laL_w7).trans la5_w7
        have la6_W8 := (ab_W8.cell laL_w7).trans la6_w7
        have la7_W8 := (ab_W8.cell laL_w7).trans la7_w7
        have laF_W8 : ∀ o, W8.frozen? ⟨w.heap.size, o, none⟩ = false := fun o => (ab_W8.frozen laL_w7).trans (laF_w7 o)
        have laL_W8 : w.heap.size < W8.heap.size := Nat.lt_of_lt_of_le laL_w7 ab_W8.size
        have lb0_W8 := (ab_W8.cell lbL_w7).trans lb0_w7
        have lb1_W8 := (ab_W8.cell lbL_w7).trans lb1_w7
        have lb2_W8 := (ab_W8.cell lbL_w7).trans lb2_w7
        have lb3_W8 := (ab_W8.cell lbL_w7).trans lb3_w7
        have lb4_W8 := (ab_W8.cell lbL_w7).trans lb4_w7
        have lb5_W8 := (ab_W8.cell lbL_w7).trans lb5_w7
        have lb6_W8 := (ab_W8.cell lbL_w7).trans lb6_w7
        have lb7_W8 := (ab_W8.cell lbL_w7).trans lb7_w7
        have lbF_W8 : ∀ o, W8.frozen? ⟨(w.heap.size + 1), o, none⟩ = false := fun o => (ab_W8.frozen lbL_w7).trans (lbF_w7 o)
        have lbL_W8 : (w.heap.size + 1) < W8.heap.size := Nat.lt_of_lt_of_le lbL_w7 ab_W8.size
        have xa0_W8 := (ab_W8.cell xaL_w7).trans xa0_w7
        have xa1_W8 := (ab_W8.cell xaL_w7).trans xa1_w7
        have xa2_W8 := (ab_W8.cell xaL_w7).trans xa2_w7
        have xa3_W8 := (ab_W8.cell xaL_w7).trans xa3_w7
        have xa4_W8 := (ab_W8.cell xaL_w7).trans xa4_w7
        have xa5_W8 := (ab_W8.cell xaL_w7).trans xa5_w7
        have xa6_W8 := (ab_W8.cell xaL_w7).trans xa6_w7
        have xa7_W8 := (ab_W8.cell xaL_w7).trans xa7_w7
        have xaF_W8 : ∀ o, W8.frozen? ⟨w5.heap.size, o, none⟩ = false := fun o => (ab_W8.frozen xaL_w7).trans (xaF_w7 o)
        have xaL_W8 : w5.heap.size < W8.heap.size := Nat.lt_of_lt_of_le xaL_w7 ab_W8.size
        have oP5_W8 := hidP (OwnG.later oP5_w7.out ab_W8)
        have oQ5_W8 := hidP (OwnG.later oQ5_w7.out ab_W8)
        have oR5_W8 := hidP (OwnG.later oR5_w7.out ab_W8)
        have oS5_W8 := hidP (OwnG.later oS5_w7.out ab_W8)
        have oP7_W8 := hidP (OwnG.later oP7_w7.out ab_W8)
        have oQ7_W8 := hidP (OwnG.later oQ7_w7.out ab_W8)
        have oR7_W8 := hidP (OwnG.later oR7_w7.out ab_W8)
        have oS7_W8 := hidP (OwnG.later oS7_w7.out ab_W8)
        have acc_W8 := hidP (acc_w7.out.trans (ab_W8.mono acc_w7.out.size))
        have sz_W8 : Hid (w7.heap.size ≤ W8.heap.size) := hidP ab_W8.size
        clear ab_W8 la0_w7 la1_w7 la2_w7 la3_w7 la4_w7 la5_w7 la6_w7 la7_w7 laF_w7 laL_w7 lb0_w7 lb1_w7 lb2_w7 lb3_w7 lb4_w7 lb5_w7 lb6_w7 lb7_w7 lbF_w7 lbL_w7 xa0_w7 xa1_w7 xa2_w7 xa3_w7 xa4_w7 xa5_w7 xa6_w7 xa7_w7 xaF_w7 xaL_w7 oP5_w7 oQ5_w7 oR5_w7 oS5_w7 oP7_w7 oQ7_w7 oR7_w7 oS7_w7 acc_w7
        refine (HIm.out _ g5 h5 i5 j5 g7 h7 i7 j7 oP5_W8.out.row oQ5_W8.out.row oR5_W8.out.row oS5_W8.out.row oP7_W8.out.row oQ7_W8.out.row oR7_W8.out.row oS7_W8.out.row).mono ?_
        rintro e w9 ⟨rfl, hb9⟩
        have la0_w9 := (hb9.cell laL_W8).trans la0_W8
        have la1_w9 := (hb9.cell laL_W8).trans la1_W8
        have la2_w9 := (hb9.cell laL_W8).trans la2_W8
        have la3_w9 := (hb9.cell laL_W8).trans la3_W8
        have la4_w9 := (hb9.cell laL_W8).trans la4_W8
        have la5_w9 := (hb9.cell laL_W8).trans la5_W8
        have la6_w9 := (hb9.cell laL_W8).trans la6_W8
        have la7_w9 := (hb9.cell laL_W8).trans la7_W8
        have laF_w9 : ∀ o, w9.frozen? ⟨w.heap.size, o, none⟩ = false := fun o => (hb9.frozen laL_W8).trans (laF_W8 o)
        have laL_w9 : w.heap.size < w9.heap.size := Nat.lt_of_lt_of_le laL_W8 hb9.size
        have lb0_w9 := (hb9.cell lbL_W8).trans lb0_W8
        have lb1_w9 := (hb9.cell lbL_W8).trans lb1_W8
        have lb2_w9 := (hb9.cell lbL_W8).trans lb2_W8
        have lb3_w9 := (hb9.cell lbL_W8).trans lb3_W8
        have lb4_w9 := (hb9.cell lbL_W8).trans lb4_W8
        have lb5_w9 := (hb9.cell lbL_W8).trans lb5_W8
        have lb6_w9 := (hb9.cell lbL_W8).trans lb6_W8
        have lb7_w9 := (hb9.cell lbL_W8).trans lb7_W8
        have lbF_w9 : ∀ o, w9.frozen? ⟨(w.heap.size + 1), o, none⟩ = false := fun o => (hb9.frozen lbL_W8).trans (lbF_W8 o)
        have lbL_w9 : (w.heap.size + 1) < w9.heap.size := Nat.lt_of_lt_of_le lbL_W8 hb9.size
        have xa0_w9 := (hb9.cell xaL_W8).trans xa0_W8
        have xa1_w9 := (hb9.cell xaL_W8).trans xa1_W8
        have xa2_w9 := (hb9.cell xaL_W8).trans xa2_W8
        have xa3_w9 := (hb9.cell xaL_W8).trans xa3_W8
        have xa4_w9 := (hb9.cell xaL_W8).trans xa4_W8
        have xa5_w9 := (hb9.cell xaL_W8).trans xa5_W8
        have xa6_w9 := (hb9.cell xaL_W8).trans xa6_W8
        have xa7_w9 := (hb9.cell xaL_W8).trans xa7_W8
        have xaF_w9 : ∀ o, w9.frozen? ⟨w5.heap.size, o, none⟩ = false := fun o => (hb9.frozen xaL_W8).trans (xaF_W8 o)
        have xaL_w9 : w5.heap.size < w9.heap.size := Nat.lt_of_lt_of_le xaL_W8 hb9.size
        have xb0_w9 := (hb9.cell xbL_W8).trans xb0_W8
        have xb1_w9 := (hb9.cell xbL_W8).trans xb1_W8
        have xb2_w9 := (hb9.cell xbL_W8).trans xb2_W8
        have xb3_w9 := (hb9.cell xbL_W8).trans xb3_W8
        have xb4_w9 := (hb9.cell xbL_W8).trans xb4_W8
        have xb5_w9 := (hb9.cell xbL_W8).trans xb5_W8
        have xb6_w9 := (hb9.cell xbL_W8).trans xb6_W8
        have xb7_w9 := (hb9.cell xbL_W8).trans xb7_W8
        have xbF_w9 : ∀ o, w9.frozen? ⟨w7.heap.size, o, none⟩ = false := fun o => (hb9.frozen xbL_W8).trans (xbF_W8 o)
        have xbL_w9 : w7.heap.size < w9.heap.size := Nat.lt_of_lt_of_le xbL_W8 hb9.size
        have oP5_w9 := hidP (OwnG.later oP5_W8.out hb9)
        have oQ5_w9 := hidP (OwnG.later oQ5_W8.out hb9)
        have oR5_w9 := hidP (OwnG.later oR5_W8.out hb9)
        have oS5_w9 := hidP (OwnG.later oS5_W8.out hb9)
        have oP7_w9 := hidP (OwnG.later oP7_W8.out hb9)
        have oQ7_w9 := hidP (OwnG.later oQ7_W8.out hb9)
        have oR7_w9 := hidP (OwnG.later oR7_W8.out hb9)
        have oS7_w9 := hidP (OwnG.later oS7_W8.out hb9)
        have acc_w9 := hidP (acc_W8.out.trans (hb9.mono acc_W8.out.size))
        have sz_w9 : Hid (W8.heap.size ≤ w9.heap.size) := hidP hb9.size
        clear hb9 la0_W8 la1_W8 la2_W8 la3_W8 la4_W8 la5_W8 la6_W8 la7_W8 laF_W8 laL_W8 lb0_W8 lb1_W8 lb2_W8 lb3_W8 lb4_W8 lb5_W8 lb6_W8 lb7_W8 lbF_W8 lbL_W8 xa0_W8 xa1_W8 xa2_W8 xa3_W8 xa4_W8 xa5_W8 xa6_W8 xa7_W8 xaF_W8 xaL_W8 xb0_W8 xb1_W8 xb2_W8 xb3_W8 xb4_W8 xb5_W8 xb6_W8 xb7_W8 xbF_W8 xbL_W8 oP5_W8 oQ5_W8 oR5_W8 oS5_W8 oP7_W8 oQ7_W8 oR7_W8 oS7_W8 acc_W8
        go_wp2_with fail
        have HSx : Hid (∀ x, Below w9.heap.size w9 x → (x.cell? ⟨w.heap.size, 0, none⟩ = some (.slice ap np cp) ∧ x.cell? ⟨w.heap.size, 1, none⟩ = some (.slice ab nb cb) ∧ x.cell? ⟨w.heap.size, 2, none⟩ = some (.slice al nl cl) ∧ x.cell? ⟨w.heap.size, 3, none⟩ = some (.int .i64 T) ∧ x.cell? ⟨w.heap.size, 4, none⟩ = some (.int .i64 N) ∧ x.cell? ⟨w.heap.size, 5, none⟩ = some (.slice aS ns cs) ∧ x.cell? ⟨w.heap.size, 6, none⟩ = some (.int .i64 X) ∧ x.cell? ⟨w.heap.size, 7, none⟩ = some (.int .i64 C) ∧ x.cell? ⟨w5.heap.size, 0, none⟩ = some (.slice (some ⟨g5, 0, none⟩) np np) ∧ x.cell? ⟨w5.heap.size, 1, none⟩ = some (.slice (some ⟨h5, 0, none⟩) nb nb) ∧ x.cell? ⟨w5.heap.size, 2, none⟩ = some (.slice (some ⟨i5, 0, none⟩) nl nl) ∧ x.cell? ⟨w5.heap.size, 3, none⟩ = some (.int .i64 T) ∧ x.cell? ⟨w5.heap.size, 4, none⟩ = some (.int .i64 N) ∧ x.cell? ⟨w5.heap.size, 5, none⟩ = some (.slice (some ⟨j5, 0, none⟩) ns ns) ∧ x.cell? ⟨w5.heap.size, 6, none⟩ = some (.int .i64 X) ∧ x.cell? ⟨w5.heap.size, 7, none⟩ = some (.int .i64 C) ∧ Below w9.heap.size w9 x)) := hidP fun x h =>
          ⟨(h.cell laL_w9).trans la0_w9, (h.cell laL_w9).trans la1_w9, (h.cell laL_w9).trans la2_w9, (h.cell laL_w9).trans la3_w9, (h.cell laL_w9).trans la4_w9, (h.cell laL_w9).trans la5_w9, (h.cell laL_w9).trans la6_w9, (h.cell laL_w9).trans la7_w9, (h.cell xaL_w9).trans xa0_w9, (h.cell xaL_w9).trans xa1_w9, (h.cell xaL_w9).trans xa2_w9, (h.cell xaL_w9).trans xa3_w9, (h.cell xaL_w9).trans xa4_w9, (h.cell xaL_w9).trans xa5_w9, (h.cell xaL_w9).trans xa6_w9, (h.cell xaL_w9).trans xa7_w9, h⟩
        refine wp_region_held_drew (S := (fun x => x.cell? ⟨w.heap.size, 0, none⟩ = some (.slice ap np cp) ∧ x.cell? ⟨w.heap.size, 1, none⟩ = some (.slice ab nb cb) ∧ x.cell? ⟨w.heap.size, 2, none⟩ = some (.slice al nl cl) ∧ x.cell? ⟨w.heap.size, 3, none⟩ = some (.int .i64 T) ∧ x.cell? ⟨w.heap.size, 4, none⟩ = some (.int .i64 N) ∧ x.cell? ⟨w.heap.size, 5, none⟩ = some (.slice aS ns cs) ∧ x.cell? ⟨w.heap.size, 6, none⟩ = some (.int .i64 X) ∧ x.cell? ⟨w.heap.size, 7, none⟩ = some (.int .i64 C) ∧ x.cell? ⟨w5.heap.size, 0, none⟩ = some (.slice (some ⟨g5, 0, none⟩) np np) ∧ x.cell? ⟨w5.heap.size, 1, none⟩ = some (.slice (some ⟨h5, 0, none⟩) nb nb) ∧ x.cell? ⟨w5.heap.size, 2, none⟩ = some (.slice (some ⟨i5, 0, none⟩) nl nl) ∧ x.cell? ⟨w5.heap.size, 3, none⟩ = some (.int .i64 T) ∧ x.cell? ⟨w5.heap.size, 4, none⟩ = some (.int .i64 N) ∧ x.cell? ⟨w5.heap.size, 5, none⟩ = some (.slice (some ⟨j5, 0, none⟩) ns ns) ∧ x.cell? ⟨w5.heap.size, 6, none⟩ = some (.int .i64 X) ∧ x.cell? ⟨w5.heap.size, 7, none⟩ = some (.int .i64 C) ∧ Below w9.heap.size w9 x)) (by kernel_rfl) ?_ (fun hHeld => ?_)
        · try dsimp only
          exact HSx.out _ ((Below.refl _ _).drew)
        refine tkA 0 35 (v := ?_) rfl (by kernel_rfl) (fun _ _ _ h => h) (by rfl) ?_ (by assumption) ?_; rotate_left; · (intro w hSw; (try dsimp only at hSw); go_simp; try with_reducible rfl)
        simp only [pa]
        refine tkA 1 36 (v := ?_) rfl (by kernel_rfl) (fun _ _ _ h => h) (by rfl) ?_ (by assumption) ?_; rotate_left; · (intro w hSw; (try dsimp only at hSw); go_simp; try with_reducible rfl)
        simp only [pa]
        refine wpAnyH_ready (rs := [2]) (by kernel_rfl) (by simp) ?_
        refine AllReadyH.cons rfl (fun K hK => ?_) AllReadyH.nil
        go_simp
        go_wp2_with (first | (go_at_call 6; refine (HTo.out _ (acc_w9.out.trans ((hHeld.2.2.2.2.2.2.2.2.2.2.2.2.2.2.2.2).mono acc_w9.out.size))).mono ?_; rintro e w10 ⟨g10, h10, i10, j10, rfl, og10, oh10, oi10, oj10, hb10⟩; have b10 := (hHeld.2.2.2.2.2.2.2.2.2.2.2.2.2.2.2.2).trans (hb10.mono (hHeld.2.2.2.2.2.2.2.2.2.2.2.2.2.2.2.2).size)))
        refine hK.out _ _ ?_ (fun hHeld => ?_)
        · try dsimp only
          exact HSx.out _ b10
        clear hK K
        refine wpAnyH_ready (rs := [3]) (by kernel_rfl) (by simp) ?_
        refine AllReadyH.cons rfl (fun K hK => ?_) AllReadyH.nil
        go_simp
        go_wp2_with (first | (go_at_call 8; refine (HEq.out _ g5 h5 i5 j5 g10 h10 i10 j10 (oP5_w9.out.row.later (hHeld.2.2.2.2.2.2.2.2.2.2.2.2.2.2.2.2)) (oQ5_w9.out.row.later (hHeld.2.2.2.2.2.2.2.2.2.2.2.2.2.2.2.2)) (oR5_w9.out.row.later (hHeld.2.2.2.2.2.2.2.2.2.2.2.2.2.2.2.2)) (oS5_w9.out.row.later (hHeld.2.2.2.2.2.2.2.2.2.2.2.2.2.2.2.2)) og10.row oh10.row oi10.row oj10.row).mono ?_; rintro e w11 ⟨rfl, hb11⟩; have b11 := (hHeld.2.2.2.2.2.2.2.2.2.2.2.2.2.2.2.2).trans (hb11.mono (hHeld.2.2.2.2.2.2.2.2.2.2.2.2.2.2.2.2).size)))
        refine hK.out _ _ ?_ (fun hHeld => ?_)
        · try dsimp only
          exact HSx.out _ b11
        clear hK K
        refine tkA 4 39 (v := ?_) rfl (by kernel_rfl) (fun _ _ _ h => h) (by rfl) ?_ (by assumption) ?_; rotate_left; · (intro w hSw; (try dsimp only at hSw); go_simp; try with_reducible rfl)
        simp only [pa]
        have HE := hidP (hHeld.2.2.2.2.2.2.2.2.2.2.2.2.2.2.2.2)
        refine wpAnyH_done (by kernel_rfl) ?_ _
        clear hHeld
        have hb11' := HE.out
        clear HE hb10 hb11 b10 b11 HSx og10 oh10 oi10 oj10
        have la0_w11 := (hb11'.cell laL_w9).trans la0_w9
        have la1_w11 := (hb11'.cell laL_w9).trans la1_w9
        have la2_w11 := (hb11'.cell laL_w9).trans la2_w9
        have la3_w11 := (hb11'.cell laL_w9).trans la3_w9
        have la4_w11 := (hb11'.cell laL_w9).trans la4_w9
        have la5_w11 := (hb11'.cell laL_w9).trans la5_w9
        have la6_w11 := (hb11'.cell laL_w9).trans la6_w9
        have la7_w11 := (hb11'.cell laL_w9).trans la7_w9
        have laF_w11 : ∀ o, w11.frozen? ⟨w.heap.size, o, none⟩ = false := fun o => (hb11'.frozen laL_w9).trans (laF_w9 o)
        have laL_w11 : w.heap.size < w11.heap.size := Nat.lt_of_lt_of_le laL_w9 hb11'.size
        have lb0_w11 := (hb11'.cell lbL_w9).trans lb0_w9
        have lb1_w11 := (hb11'.cell lbL_w9).trans lb1_w9
        have lb2_w11 := (hb11'.cell lbL_w9).trans lb2_w9
        have lb3_w11 := (hb11'.cell lbL_w9).trans lb3_w9
        have lb4_w11 := (hb11'.cell lbL_w9).trans lb4_w9
        have lb5_w11 := (hb11'.cell lbL_w9).trans lb5_w9
        have lb6_w11 := (hb11'.cell lbL_w9).trans lb6_w9
        have lb7_w11 := (hb11'.cell lbL_w9).trans lb7_w9
        have lbF_w11 : ∀ o, w11.frozen? ⟨(w.heap.size + 1), o, none⟩ = false := fun o => (hb11'.frozen lbL_w9).trans (lbF_w9 o)
        have lbL_w11 : (w.heap.size + 1) < w11.heap.size := Nat.lt_of_lt_of_le lbL_w9 hb11'.size
        have xa0_w11 := (hb11'.cell xaL_w9).trans xa0_w9
        have xa1_w11 := (hb11'.cell xaL_w9).trans xa1_w9
        have xa2_w11 := (hb11'.cell xaL_w9).trans xa2_w9
        have xa3_w11 := (hb11'.cell xaL_w9).trans xa3_w9
        have xa4_w11 := (hb11'.cell xaL_w9).trans xa4_w9
        have xa5_w11 := (hb11'.cell xaL_w9).trans xa5_w9
        have xa6_w11 := (hb11'.cell xaL_w9).trans xa6_w9
        have xa7_w11 := (hb11'.cell xaL_w9).trans xa7_w9
        have xaF_w11 : ∀ o, w11.frozen? ⟨w5.heap.size, o, none⟩ = false := fun o => (hb11'.frozen xaL_w9).trans (xaF_w9 o)
        have xaL_w11 : w5.heap.size < w11.heap.size := Nat.lt_of_lt_of_le xaL_w9 hb11'.size
        have xb0_w11 := (hb11'.cell xbL_w9).trans xb0_w9
        have xb1_w11 := (hb11'.cell xbL_w9).trans xb1_w9
        have xb2_w11 := (hb11'.cell xbL_w9).trans xb2_w9
        have xb3_w11 := (hb11'.cell xbL_w9).trans xb3_w9
        have xb4_w11 := (hb11'.cell xbL_w9).trans xb4_w9
        have xb5_w11 := (hb11'.cell xbL_w9).trans xb5_w9
        have xb6_w11 := (hb11'.cell xbL_w9).trans xb6_w9
        have xb7_w11 := (hb11'.cell xbL_w9).trans xb7_w9
        have xbF_w11 : ∀ o, w11.frozen? ⟨w7.heap.size, o, none⟩ = false := fun o => (hb11'.frozen xbL_w9).trans (xbF_w9 o)
        have xbL_w11 : w7.heap.size < w11.heap.size := Nat.lt_of_lt_of_le xbL_w9 hb11'.size
        have oP5_w11 := hidP (OwnG.later oP5_w9.out hb11')
        have oQ5_w11 := hidP (OwnG.later oQ5_w9.out hb11')
        have oR5_w11 := hidP (OwnG.later oR5_w9.out hb11')
        have oS5_w11 := hidP (OwnG.later oS5_w9.out hb11')
        have oP7_w11 := hidP (OwnG.later oP7_w9.out hb11')
        have oQ7_w11 := hidP (OwnG.later oQ7_w9.out hb11')
        have oR7_w11 := hidP (OwnG.later oR7_w9.out hb11')
        have oS7_w11 := hidP (OwnG.later oS7_w9.out hb11')
        have acc_w11 := hidP (acc_w9.out.trans (hb11'.mono acc_w9.out.size))
        have sz_w11 : Hid (w9.heap.size ≤ w11.heap.size) := hidP hb11'.size
        clear hb11' la0_w9 la1_w9 la2_w9 la3_w9 la4_w9 la5_w9 la6_w9 la7_w9 laF_w9 laL_w9 lb0_w9 lb1_w9 lb2_w9 lb3_w9 lb4_w9 lb5_w9 lb6_w9 lb7_w9 lbF_w9 lbL_w9 xa0_w9 xa1_w9 xa2_w9 xa3_w9 xa4_w9 xa5_w9 xa6_w9 xa7_w9 xaF_w9 xaL_w9 xb0_w9 xb1_w9 xb2_w9 xb3_w9 xb4_w9 xb5_w9 xb6_w9 xb7_w9 xbF_w9 xbL_w9 oP5_w9 oQ5_w9 oR5_w9 oS5_w9 oP7_w9 oQ7_w9 oR7_w9 oS7_w9 acc_w9
        go_wp2_with fail
        have HSx : Hid (∀ x, Below w11.heap.size w11 x → (x.cell? ⟨w.heap.size + 1, 0, none⟩ = some (.slice ap' np' cp') ∧ x.cell? ⟨w.heap.size + 1, 1, none⟩ = some (.slice ab' nb' cb') ∧ x.cell? ⟨w.heap.size + 1, 2, none⟩ = some (.slice al' nl' cl') ∧ x.cell? ⟨w.heap.size + 1, 3, none⟩ = some (.int .i64 T') ∧ x.cell? ⟨w.heap.size + 1, 4, none⟩ = some (.int .i64 N') ∧ x.cell? ⟨w.heap.size + 1, 5, none⟩ = some (.slice aS' ns' cs') ∧ x.cell? ⟨w.heap.size + 1, 6, none⟩ = some (.int .i64 X') ∧ x.cell? ⟨w.heap.size + 1, 7, none⟩ = some (.int .i64 C') ∧ x.cell? ⟨w7.heap.size, 0, none⟩ = some (.slice (some ⟨g7, 0, none⟩) np' np') ∧ x.cell? ⟨w7.heap.size, 1, none⟩ = some (.slice (some ⟨h7, 0, none⟩) nb' nb') ∧ x.cell? ⟨w7.heap.size, 2, none⟩ = some (.slice (some ⟨i7, 0, none⟩) nl' nl') ∧ x.cell? ⟨w7.heap.size, 3, none⟩ = some (.int .i64 T') ∧ x.cell? ⟨w7.heap.size, 4, none⟩ = some (.int .i64 N') ∧ x.cell? ⟨w7.heap.size, 5, none⟩ = some (.slice (some ⟨j7, 0, none⟩) ns' ns') ∧ x.cell? ⟨w7.heap.size, 6, none⟩ = some (.int .i64 X') ∧ x.cell? ⟨w7.heap.size, 7, none⟩ = some (.int .i64 C') ∧ Below w11.heap.size w11 x)) := hidP fun x h =>
          ⟨(h.cell lbL_w11).trans lb0_w11, (h.cell lbL_w11).trans lb1_w11, (h.cell lbL_w11).trans lb2_w11, (h.cell lbL_w11).trans lb3_w11, (h.cell lbL_w11).trans lb4_w11, (h.cell lbL_w11).trans lb5_w11, (h.cell lbL_w11).trans lb6_w11, (h.cell lbL_w11).trans lb7_w11, (h.cell xbL_w11).trans xb0_w11, (h.cell xbL_w11).trans xb1_w11, (h.cell xbL_w11).trans xb2_w11, (h.cell xbL_w11).trans xb3_w11, (h.cell xbL_w11).trans xb4_w11, (h.cell xbL_w11).trans xb5_w11, (h.cell xbL_w11).trans xb6_w11, (h.cell xbL_w11).trans xb7_w11, h⟩
        refine wp_region_held_drew (S := (fun x => x.cell? ⟨w.heap.size + 1, 0, none⟩ = some (.slice ap' np' cp') ∧ x.cell? ⟨w.heap.size + 1, 1, none⟩ = some (.slice ab' nb' cb') ∧ x.cell? ⟨w.heap.size + 1, 2, none⟩ = some (.slice al' nl' cl') ∧ x.cell? ⟨w.heap.size + 1, 3, none⟩ = some (.int .i64 T') ∧ x.cell? ⟨w.heap.size + 1, 4, none⟩ = some (.int .i64 N') ∧ x.cell? ⟨w.heap.size + 1, 5, none⟩ = some (.slice aS' ns' cs') ∧ x.cell? ⟨w.heap.size + 1, 6, none⟩ = some (.int .i64 X') ∧ x.cell? ⟨w.heap.size + 1, 7, none⟩ = some (.int .i64 C') ∧ x.cell? ⟨w7.heap.size, 0, none⟩ = some (.slice (some ⟨g7, 0, none⟩) np' np') ∧ x.cell? ⟨w7.heap.size, 1, none⟩ = some (.slice (some ⟨h7, 0, none⟩) nb' nb') ∧ x.cell? ⟨w7.heap.size, 2, none⟩ = some (.slice (some ⟨i7, 0, none⟩) nl' nl') ∧ x.cell? ⟨w7.heap.size, 3, none⟩ = some (.int .i64 T') ∧ x.cell? ⟨w7.heap.size, 4, none⟩ = some (.int .i64 N') ∧ x.cell? ⟨w7.heap.size, 5, none⟩ = some (.slice (some ⟨j7, 0, none⟩) ns' ns') ∧ x.cell? ⟨w7.heap.size, 6, none⟩ = some (.int .i64 X') ∧ x.cell? ⟨w7.heap.size, 7, none⟩ = some (.int .i64 C') ∧ Below w11.heap.size w11 x)) (by kernel_rfl) ?_ (fun hHeld => ?_)
        · try dsimp only
          exact HSx.out _ ((Below.refl _ _).drew)
        refine tkA 0 40 (v := ?_) rfl (by kernel_rfl) (fun _ _ _ h => h) (by rfl) ?_ (by assumption) ?_; rotate_left; · (intro w hSw; (try dsimp only at hSw); go_simp; try with_reducible rfl)
        simp only [pa]
        refine tkA 1 41 (v := ?_) rfl (by kernel_rfl) (fun _ _ _ h => h) (by rfl) ?_ (by assumption) ?_; rotate_left; · (intro w hSw; (try dsimp only at hSw); go_simp; try with_reducible rfl)
        simp only [pa]
        refine wpAnyH_ready (rs := [2]) (by kernel_rfl) (by simp) ?_
        refine AllReadyH.cons rfl (fun K hK => ?_) AllReadyH.nil
        go_simp
        go_wp2_with (first | (go_at_call 6; refine (GTo.out _ (acc_w11.out.trans ((hHeld.2.2.2.2.2.2.2.2.2.2.2.2.2.2.2.2).mono acc_w11.out.size))).mono ?_; rintro e w12 ⟨g12, h12, i12, j12, rfl, og12, oh12, oi12, oj12, hb12⟩; have b12 := (hHeld.2.2.2.2.2.2.2.2.2.2.2.2.2.2.2.2).trans (hb12.mono (hHeld.2.2.2.2.2.2.2.2.2.2.2.2.2.2.2.2).size)))
        refine hK.out _ _ ?_ (fun hHeld => ?_)
        · try dsimp only
          exact HSx.out _ b12
        clear hK K
        refine wpAnyH_ready (rs := [3]) (by kernel_rfl) (by simp) ?_
        refine AllReadyH.cons rfl (fun K hK => ?_) AllReadyH.nil
        go_simp
        go_wp2_with (first | (go_at_call 8; refine (GEq.out _ g7 h7 i7 j7 g12 h12 i12 j12 (oP7_w11.out.row.later (hHeld.2.2.2.2.2.2.2.2.2.2.2.2.2.2.2.2)) (oQ7_w11.out.row.later (hHeld.2.2.2.2.2.2.2.2.2.2.2.2.2.2.2.2)) (oR7_w11.out.row.later (hHeld.2.2.2.2.2.2.2.2.2.2.2.2.2.2.2.2)) (oS7_w11.out.row.later (hHeld.2.2.2.2.2.2.2.2.2.2.2.2.2.2.2.2)) og12.row oh12.row oi12.row oj12.row).mono ?_; rintro e w13 ⟨rfl, hb13⟩; have b13 := (hHeld.2.2.2.2.2.2.2.2.2.2.2.2.2.2.2.2).trans (hb13.mono (hHeld.2.2.2.2.2.2.2.2.2.2.2.2.2.2.2.2).size)))
        refine hK.out _ _ ?_ (fun hHeld => ?_)
        · try dsimp only
          exact HSx.out _ b13
        clear hK K
        refine tkA 4 44 (v := ?_) rfl (by kernel_rfl) (fun _ _ _ h => h) (by rfl) ?_ (by assumption) ?_; rotate_left; · (intro w hSw; (try dsimp only at hSw); go_simp; try with_reducible rfl)
        simp only [pa]
        have HE := hidP (hHeld.2.2.2.2.2.2.2.2.2.2.2.2.2.2.2.2)
        refine wpAnyH_done (by kernel_rfl) ?_ _
        clear hHeld
        go_wp2_with fail
        go_ret
        exact ⟨rfl, acc_w11.out.trans (HE.out.mono acc_w11.out.size)⟩
    · rw [szL_no ht'] at GSz
      generalize 1048576 - totS ps bs ls ss = z1 at *
      clear hP hK hL hS hnp hnb hnl hns hsb hsl hss gP gK gL gS gnp gnb gnl gns gsb gsl gss ht ht' n0 n0'
      go_enter Try.func3, Try.ntmps3
      go_wp2_with fail
      obtain ⟨la0_W1, la1_W1, la2_W1, la3_W1, la4_W1, la5_W1, la6_W1, la7_W1⟩ := bx8 w 33 (.slice ap np cp) (.slice ab nb cb) (.slice al nl cl) (.int .i64 T) (.int .i64 N) (.slice aS ns cs) (.int .i64 X) (.int .i64 C)
      have laF_W1 : ∀ o, (w.alloc (.cells #[.slice ap np cp, .slice ab nb cb, .slice al nl cl, .int .i64 T, .int .i64 N, .slice aS ns cs, .int .i64 X, .int .i64 C] 33)).frozen? ⟨w.heap.size, o, none⟩ = false := fun o => by simp [go_sem]
      have laL_W1 : w.heap.size < (w.alloc (.cells #[.slice ap np cp, .slice ab nb cb, .slice al nl cl, .int .i64 T, .int .i64 N, .slice aS ns cs, .int .i64 X, .int .i64 C] 33)).heap.size := by simp
      have ab_W1 := alloc_below w (.cells #[.slice ap np cp, .slice ab nb cb, .slice al nl cl, .int .i64 T, .int .i64 N, .slice aS ns cs, .int .i64 X, .int .i64 C] 33)
      have as_W1 : Hid ((w.alloc (.cells #[.slice ap np cp, .slice ab nb cb, .slice al nl cl, .int .i64 T, .int .i64 N, .slice aS ns cs, .int .i64 X, .int .i64 C] 33)).heap.size = w.heap.size + 1) := hidP (by simp)
      generalize w.alloc (.cells #[.slice ap np cp, .slice ab nb cb, .slice al nl cl, .int .i64 T, .int .i64 N, .slice aS ns cs, .int .i64 X, .int .i64 C] 33) = W1 at *
      have acc_W1 := hidP (ab_W1)
      have sz_W1 : Hid (w.heap.size ≤ W1.heap.size) := hidP ab_W1.size
      clear ab_W1 
      obtain ⟨lb0_W2, lb1_W2, lb2_W2, lb3_W2, lb4_W2, lb5_W2, lb6_W2, lb7_W2⟩ := bx8 W1 33 (.slice ap' np' cp') (.slice ab' nb' cb') (.slice al' nl' cl') (.int .i64 T') (.int .i64 N') (.slice aS' ns' cs') (.int .i64 X') (.int .i64 C')
      have lbF_W2 : ∀ o, (W1.alloc (.cells #[.slice ap' np' cp', .slice ab' nb' cb', .slice al' nl' cl', .int .i64 T', .int .i64 N', .slice aS' ns' cs', .int .i64 X', .int .i64 C'] 33)).frozen? ⟨W1.heap.size, o, none⟩ = false := fun o => by simp [go_sem]
      have lbL_W2 : W1.heap.size < (W1.alloc (.cells #[.slice ap' np' cp', .slice ab' nb' cb', .slice al' nl' cl', .int .i64 T', .int .i64 N', .slice aS' ns' cs', .int .i64 X', .int .i64 C'] 33)).heap.size := by simp
      have ab_W2 := alloc_below W1 (.cells #[.slice ap' np' cp', .slice ab' nb' cb', .slice al' nl' cl', .int .i64 T', .int .i64 N', .slice aS' ns' cs', .int .i64 X', .int .i64 C'] 33)
      have as_W2 : Hid ((W1.alloc (.cells #[.slice ap' np' cp', .slice ab' nb' cb', .slice al' nl' cl', .int .i64 T', .int .i64 N', .slice aS' ns' cs', .int .i64 X', .int .i64 C'] 33)).heap.size = W1.heap.size + 1) := hidP (by simp)
      generalize W1.alloc (.cells #[.slice ap' np' cp', .slice ab' nb' cb', .slice al' nl' cl', .int .i64 T', .int .i64 N', .slice aS' ns' cs', .int .i64 X', .int .i64 C'] 33) = W2 at *
      have la0_W2 := (ab_W2.cell laL_W1).trans la0_W1
      have la1_W2 := (ab_W2.cell laL_W1).trans la1_W1
      have la2_W2 := (ab_W2.cell laL_W1).trans la2_W1
      have la3_W2 := (ab_W2.cell laL_W1).trans la3_W1
      have la4_W2 := (ab_W2.cell laL_W1).trans la4_W1
      have la5_W2 := (ab_W2.cell laL_W1).trans la5_W1
      have la6_W2 := (ab_W2.cell laL_W1).trans la6_W1
      have la7_W2 := (ab_W2.cell laL_W1).trans la7_W1
      have laF_W2 : ∀ o, W2.frozen? ⟨w.heap.size, o, none⟩ = false := fun o => (ab_W2.frozen laL_W1).trans (laF_W1 o)
      have laL_W2 : w.heap.size < W2.heap.size := Nat.lt_of_lt_of_le laL_W1 ab_W2.size
      have acc_W2 := hidP (acc_W1.out.trans (ab_W2.mono acc_W1.out.size))
      have sz_W2 : Hid (W1.heap.size ≤ W2.heap.size) := hidP ab_W2.size
      clear ab_W2 la0_W1 la1_W1 la2_W1 la3_W1 la4_W1 la5_W1 la6_W1 la7_W1 laF_W1 laL_W1 acc_W1
      simp only [as_W1.out] at lb0_W2 lb1_W2 lb2_W2 lb3_W2 lb4_W2 lb5_W2 lb6_W2 lb7_W2 lbF_W2 lbL_W2
      refine (HSz.out _ acc_W2.out).mono ?_
      rintro e w3 ⟨rfl, hb3⟩
      have la0_w3 := (hb3.cell laL_W2).trans la0_W2
      have la1_w3 := (hb3.cell laL_W2).trans la1_W2
      have la2_w3 := (hb3.cell laL_W2).trans la2_W2
      have la3_w3 := (hb3.cell laL_W2).trans la3_W2
      have la4_w3 := (hb3.cell laL_W2).trans la4_W2
      have la5_w3 := (hb3.cell laL_W2).trans la5_W2
      have la6_w3 := (hb3.cell laL_W2).trans la6_W2
      have la7_w3 := (hb3.cell laL_W2).trans la7_W2
      have laF_w3 : ∀ o, w3.frozen? ⟨w.heap.size, o, none⟩ = false := fun o => (hb3.frozen laL_W2).trans (laF_W2 o)
      have laL_w3 : w.heap.size < w3.heap.size := Nat.lt_of_lt_of_le laL_W2 hb3.size
      have lb0_w3 := (hb3.cell lbL_W2).trans lb0_W2
      have lb1_w3 := (hb3.cell lbL_W2).trans lb1_W2
      have lb2_w3 := (hb3.cell lbL_W2).trans lb2_W2
      have lb3_w3 := (hb3.cell lbL_W2).trans lb3_W2
      have lb4_w3 := (hb3.cell lbL_W2).trans lb4_W2
      have lb5_w3 := (hb3.cell lbL_W2).trans lb5_W2
      have lb6_w3 := (hb3.cell lbL_W2).trans lb6_W2
      have lb7_w3 := (hb3.cell lbL_W2).trans lb7_W2
      have lbF_w3 : ∀ o, w3.frozen? ⟨(w.heap.size + 1), o, none⟩ = false := fun o => (hb3.frozen lbL_W2).trans (lbF_W2 o)
      have lbL_w3 : (w.heap.size + 1) < w3.heap.size := Nat.lt_of_lt_of_le lbL_W2 hb3.size
      have acc_w3 := hidP (acc_W2.out.trans (hb3.mono acc_W2.out.size))
      have sz_w3 : Hid (W2.heap.size ≤ w3.heap.size) := hidP hb3.size
      clear hb3 la0_W2 la1_W2 la2_W2 la3_W2 la4_W2 la5_W2 la6_W2 la7_W2 laF_W2 laL_W2 lb0_W2 lb1_W2 lb2_W2 lb3_W2 lb4_W2 lb5_W2 lb6_W2 lb7_W2 lbF_W2 lbL_W2 acc_W2
      go_wp2_with fail
      refine (GSz.out _ acc_w3.out).mono ?_
      rintro e w4 ⟨rfl, hb4⟩
      have la0_w4 := (hb4.cell laL_w3).trans la0_w3
      have la1_w4 := (hb4.cell laL_w3).trans la1_w3
      have la2_w4 := (hb4.cell laL_w3).trans la2_w3
      have la3_w4 := (hb4.cell laL_w3).trans la3_w3
      have la4_w4 := (hb4.cell laL_w3).trans la4_w3
      have la5_w4 := (hb4.cell laL_w3).trans la5_w3
      have la6_w4 := (hb4.cell laL_w3).trans la6_w3
      have la7_w4 := (hb4.cell laL_w3).trans la7_w3
      have laF_w4 : ∀ o, w4.frozen? ⟨w.heap.size, o, none⟩ = false := fun o => (hb4.frozen laL_w3).trans (laF_w3 o)
      have laL_w4 : w.heap.size < w4.heap.size := Nat.lt_of_lt_of_le laL_w3 hb4.size
      have lb0_w4 := (hb4.cell lbL_w3).trans lb0_w3
      have lb1_w4 := (hb4.cell lbL_w3).trans lb1_w3
      have lb2_w4 := (hb4.cell lbL_w3).trans lb2_w3
      have lb3_w4 := (hb4.cell lbL_w3).trans lb3_w3
      have lb4_w4 := (hb4.cell lbL_w3).trans lb4_w3
      have lb5_w4 := (hb4.cell lbL_w3).trans lb5_w3
      have lb6_w4 := (hb4.cell lbL_w3).trans lb6_w3
      have lb7_w4 := (hb4.cell lbL_w3).trans lb7_w3
      have lbF_w4 : ∀ o, w4.frozen? ⟨(w.heap.size + 1), o, none⟩ = false := fun o => (hb4.frozen lbL_w3).trans (lbF_w3 o)
      have lbL_w4 : (w.heap.size + 1) < w4.heap.size := Nat.lt_of_lt_of_le lbL_w3 hb4.size
      have acc_w4 := hidP (acc_w3.out.trans (hb4.mono acc_w3.out.size))
      have sz_w4 : Hid (w3.heap.size ≤ w4.heap.size) := hidP hb4.size
      clear hb4 la0_w3 la1_w3 la2_w3 la3_w3 la4_w3 la5_w3 la6_w3 la7_w3 laF_w3 laL_w3 lb0_w3 lb1_w3 lb2_w3 lb3_w3 lb4_w3 lb5_w3 lb6_w3 lb7_w3 lbF_w3 lbL_w3 acc_w3
      go_wp2_with fail
      go_ret
      exact ⟨rfl, acc_w4.out⟩
  · rw [szT_no ht] at HSz
    clear hP hK hL hS hnp hnb hnl hns hsb hsl hss gP gK gL gS gnp gnb gnl gns gsb gsl gss ht n0 n0'
    go_enter Try.func3, Try.ntmps3
    go_wp2_with fail
    refine (HSz.out _ (alloc2_below w _ _)).mono ?_
    rintro e w2 ⟨rfl, hb2⟩
    go_wp2_with fail
    go_ret
    exact ⟨rfl, (alloc2_below w _ _).trans (hb2.mono (by simp; omega))⟩

set_option maxRecDepth 100000 in
theorem sameState_lifted (os : Os) (started : os.Started) (H : Type) (enc : TypeId × Value → H) :
    ReturnsInHanded {} Try.checked os 3 .any (Rows.fnExactSameStateSpec.pre6 enc Try.prog Try.f3 Rows.fnExactSameStateRow.domain false) (Rows.fnExactSameStateSpec.post enc Try.prog Try.f3 false true false false) := by
  refine returnsInHanded_of_change (C := Try.checked) Try.ownB9 started (by kernel_rfl) Try.func3
    (ChangeSpec.witness6 (enc := enc) (C := Try.checked) false ⟨#[], #[.agg #[.slice none 0 0, .slice none 0 0, .slice none 0 0, .int .i64 0, .int .i64 0, .slice none 0 0, .int .i64 0, .int .i64 0], .agg #[.slice none 0 0, .slice none 0 0, .slice none 0 0, .int .i64 0, .int .i64 0, .slice none 0 0, .int .i64 0, .int .i64 0]], []⟩ 8 (by kernel_rfl) (by kernel_rfl) (by kernel_rfl) (by kernel_rfl)) ?_
  intro W base args ds gs before hval0 hW _ _
  have hval : ∀ (j : Nat) t v, Try.f3.params[j]? = some t → args[j]? = some v → Value.okWide Try.prog W .any base t v := hval0
  have hW' := hW
  obtain ⟨p, q, hA0, hV, rfl, _, _⟩ := hW
  have hA : DataW.TrodAll enc Try.prog W 0 (fun _ => true) true Try.f3.params.toList args.toList ds p := hA0
  rw [Try.params3] at hA hval
  obtain ⟨v0, v1, d0, d1, p0, p1, rfl, rfl, rfl, h0, h1⟩ := trodAll_two hA
  obtain ⟨rfl, rfl⟩ := trodVars_none hV
  obtain ⟨ap, np, cp, ab, nb, cb, al, nl, cl, T, N, aS, ns, cs, X, C, ps, bs, ls, ss, rfl, ⟨hnp, hnb, hnl, hns⟩, ⟨hP, hK, hL, hS⟩, ⟨h9p, h9b, h9l, h9s⟩, hsb, hsl, hss⟩ := openState (hval 0 33 v0 rfl rfl) h0
  obtain ⟨ap', np', cp', ab', nb', cb', al', nl', cl', T', N', aS', ns', cs', X', C', ps', bs', ls', ss', rfl, ⟨gnp, gnb, gnl, gns⟩, ⟨gP, gK, gL, gS⟩, ⟨g9p, g9b, g9l, g9s⟩, gsb, gsl, gss⟩ := openState (hval 1 33 v1 rfl rfl) h1
  clear hA0 hval0
  simp only [List.append_nil] at hW'
  have hlt : ∀ x ∈ p0 ++ p1, x.block < W.heap.size := fun x hx => by have := hW'.lt x (by simpa using hx); exact this
  have hlt0 : ∀ x ∈ p0, x.block < W.heap.size := fun x hx => hlt x (List.mem_append_left _ hx)
  have hlt1 : ∀ x ∈ p1, x.block < W.heap.size := fun x hx => hlt x (List.mem_append_right _ hx)
  refine (lawSameState ap np cp ab nb cb al nl cl T N aS ns cs X C ps bs ls ss ap' np' cp' ab' nb' cb' al' nl' cl' T' N' aS' ns' cs' X' C' ps' bs' ls' ss' W hnp hnb hnl hns gnp gnb gnl gns hP hK hL hS gP gK gL gS h9p h9b h9l h9s g9p g9b g9l g9s hsb hsl hss gsb gsl gss).mono fun e W' ⟨he, hb⟩ => ?_
  subst he
  exact ⟨_, rfl, ⟨_, _, _, [], _, [], hW', trodAll_mk1 (shut_bool Try.underlying4 true), trodAll_mk2 (Below.trod Try.laidOutB9 (by kernel_rfl) (of_decide_eq_true (by kernel_rfl)) h0 hb hlt0) (Below.trod Try.laidOutB9 (by kernel_rfl) (of_decide_eq_true (by kernel_rfl)) h1 hb hlt1), rfl, hb.frame _, fun h => by cases h⟩⟩

theorem sameState_holds : Rows.FnExactSameStateSaid :=
  OpenClaim.holds_of_wide 3 Try.f3 rfl rfl rfl rfl rfl rfl rfl ⟨rfl, rfl, rfl, rfl, rfl⟩ rfl rfl rfl rfl rfl (by kernel_rfl) Try.func3 (by kernel_rfl)
    (of_decide_eq_true (by kernel_rfl)) (by unfold Func.isWrapper; rw [if_neg (of_decide_eq_false (by kernel_rfl))]; exact ⟨rfl, rfl⟩)
    (fun os started H enc _ => sameState_lifted os started H enc)

end Go.Proofs.Ytngcbhbcocnbeaa
