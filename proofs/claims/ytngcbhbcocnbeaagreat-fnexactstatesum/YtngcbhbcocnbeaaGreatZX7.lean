/-
  For every state the two PutState answer the same bytes, and the two StateSum the same number, each leaving the state as it was, so both exact laws return true; no condition.
-/
import Derived.Test.YtngcbhbcocnbeaaGreatZX6
import Derived.Laws.BytesArg
import Derived.Deep.RegionWith
import Derived.Deep.RegionHeld3
import Derived.ProofKit
import Derived.OpenShut
import Derived.Lib.SmallJoins
import Derived.Carry
import Derived.Deep.Slices
import Derived.ChangeMaps5
import Derived.ChangeSame
namespace Go.Proofs.YtngcbhbcocnbeaaGreat
open Go.ChangeShapes Go.WideShapes Go.ChangeAt Go.RowKit Go.Joins Go.Deep

/-- No two are the same. -/
def Apart (g h i j : Nat) : Prop := (g ≠ h ∧ g ≠ i ∧ g ≠ j) ∧ (h ≠ i ∧ h ≠ j) ∧ i ≠ j
set_option maxRecDepth 10000 in
set_option maxHeartbeats 4000000 in
theorem toState2_any (ap : Option Addr) (np cp : Nat) (ab : Option Addr) (nb cb : Nat) (al : Option Addr) (nl cl : Nat) (T N : Int) (aS : Option Addr) (ns cs : Nat) (X C : Int) (ps : List Pl) (bs : List Bk) (ls : List Ls) (ss : List Ss) (w : World) (hnp : np = ps.length) (hnb : nb = bs.length) (hnl : nl = ls.length) (hns : ns = ss.length) (hP : RowG KPl w ap ps) (hK : RowG KBk w ab bs) (hL : RowG KLs w al ls) (hS : RowG KSs w aS ss) (hlp : np ≤ 1048576) (hlb : nb ≤ 1048576) (hll : nl ≤ 1048576) (hls : ns ≤ 1048576) :
    Calls Tryz.prog 7 #[.agg #[.slice ap np cp, .slice ab nb cb, .slice al nl cl, .int .i64 T, .int .i64 N, .slice aS ns cs, .int .i64 X, .int .i64 C]] w fun e w' => ∃ g h i j, e = .returned (.agg #[.slice (some ⟨g, 0, none⟩) np np, .slice (some ⟨h, 0, none⟩) nb nb, .slice (some ⟨i, 0, none⟩) nl nl, .int .i64 T, .int .i64 N, .slice (some ⟨j, 0, none⟩) ns ns, .int .i64 X, .int .i64 C]) ∧ OwnG KPl 68 w' w.heap.size (.slice (some ⟨g, 0, none⟩) np np) ps ∧ OwnG KBk 71 w' w.heap.size (.slice (some ⟨h, 0, none⟩) nb nb) bs ∧ OwnG KLs 74 w' w.heap.size (.slice (some ⟨i, 0, none⟩) nl nl) ls ∧ OwnG KSs 77 w' w.heap.size (.slice (some ⟨j, 0, none⟩) ns ns) ss ∧ Apart g h i j ∧ Below w.heap.size w w' := by
  have HP := hidP (fun W h => toPlan_any ap np cp ab nb cb ps bs W hnp hnb (hP.later h) (hK.later h) hlp hlb)
  have HB := hidP (fun W h => toBook_any al nl cl T N ls W hnl (hL.later h) hll)
  have HD := hidP (fun W h => toDesk_any aS ns cs X ss W hns (hS.later h) hls)
  clear hP hK hL hS hnp hnb hnl hns
  go_enter Tryz.func7, Tryz.ntmps7
  go_wp2_with fail
  obtain ⟨la0_W1, la1_W1, la2_W1, la3_W1, la4_W1, la5_W1, la6_W1, la7_W1⟩ := bx8 w 33 (.slice ap np cp) (.slice ab nb cb) (.slice al nl cl) (.int .i64 T) (.int .i64 N) (.slice aS ns cs) (.int .i64 X) (.int .i64 C)
  have laF_W1 : ∀ o, (w.alloc (.cells #[.slice ap np cp, .slice ab nb cb, .slice al nl cl, .int .i64 T, .int .i64 N, .slice aS ns cs, .int .i64 X, .int .i64 C] 33)).frozen? ⟨w.heap.size, o, none⟩ = false := fun o => by simp [go_sem]
  have laL_W1 : w.heap.size < (w.alloc (.cells #[.slice ap np cp, .slice ab nb cb, .slice al nl cl, .int .i64 T, .int .i64 N, .slice aS ns cs, .int .i64 X, .int .i64 C] 33)).heap.size := by simp
  have ab_W1 := alloc_below w (.cells #[.slice ap np cp, .slice ab nb cb, .slice al nl cl, .int .i64 T, .int .i64 N, .slice aS ns cs, .int .i64 X, .int .i64 C] 33)
  have as_W1 : Hid ((w.alloc (.cells #[.slice ap np cp, .slice ab nb cb, .slice al nl cl, .int .i64 T, .int .i64 N, .slice aS ns cs, .int .i64 X, .int .i64 C] 33)).heap.size = w.heap.size + 1) := hidP (by simp)
  generalize w.alloc (.cells #[.slice ap np cp, .slice ab nb cb, .slice al nl cl, .int .i64 T, .int .i64 N, .slice aS ns cs, .int .i64 X, .int .i64 C] 33) = W1 at *
  have acc_W1 := hidP (ab_W1)
  have sz_W1 : Hid (w.heap.size ≤ W1.heap.size) := hidP ab_W1.size
  clear ab_W1 
  obtain ⟨re0_W2, re1_W2, re2_W2, re3_W2, re4_W2, re5_W2, re6_W2, re7_W2⟩ := bx8 W1 48 (.slice none 0 0) (.slice none 0 0) (.slice none 0 0) (.int .i64 0) (.int .i64 0) (.slice none 0 0) (.int .i64 0) (.int .i64 0)
  have reF_W2 : ∀ o, (W1.alloc (.cells #[.slice none 0 0, .slice none 0 0, .slice none 0 0, .int .i64 0, .int .i64 0, .slice none 0 0, .int .i64 0, .int .i64 0] 48)).frozen? ⟨W1.heap.size, o, none⟩ = false := fun o => by simp [go_sem]
  have reL_W2 : W1.heap.size < (W1.alloc (.cells #[.slice none 0 0, .slice none 0 0, .slice none 0 0, .int .i64 0, .int .i64 0, .slice none 0 0, .int .i64 0, .int .i64 0] 48)).heap.size := by simp
  have ab_W2 := alloc_below W1 (.cells #[.slice none 0 0, .slice none 0 0, .slice none 0 0, .int .i64 0, .int .i64 0, .slice none 0 0, .int .i64 0, .int .i64 0] 48)
  have as_W2 : Hid ((W1.alloc (.cells #[.slice none 0 0, .slice none 0 0, .slice none 0 0, .int .i64 0, .int .i64 0, .slice none 0 0, .int .i64 0, .int .i64 0] 48)).heap.size = W1.heap.size + 1) := hidP (by simp)
  generalize W1.alloc (.cells #[.slice none 0 0, .slice none 0 0, .slice none 0 0, .int .i64 0, .int .i64 0, .slice none 0 0, .int .i64 0, .int .i64 0] 48) = W2 at *
  have la0_W2 := (ab_W2.cell laL_W1).trans la0_W1
  have la1_W2 := (ab_W2.cell laL_W1).trans la1_W1
  have la2_W2 := (ab_W2.cell laL_W1).trans la2_W1
  have la3_W2 := (ab_W2.cell laL_W1).trans la3_W1
  have la4_W2 := (ab_W2.cell laL_W1).trans la4_W1
  have la5_W2 := (ab_W2.cell laL_W1).trans la5_W1
  have la6_W2 := (ab_W2.cell laL_W1).trans la6_W1
  have la7_W2 := (ab_W2.cell laL_W1).trans la7_W1
  have laF_W2 : ∀ o, W2.frozen? ⟨w.heap.size, o, none⟩ = false := fun o => (ab_W2.frozen laL_W1).trans (laF_W1 o)
  have laL_W2 : w.heap.size < W2.heap.size := Nat.lt_of_lt_of_le laL_W1 ab_W2.size
  have acc_W2 := hidP (acc_W1.out.trans (ab_W2.mono acc_W1.out.size))
  have sz_W2 : Hid (W1.heap.size ≤ W2.heap.size) := hidP ab_W2.size
  clear ab_W2 la0_W1 la1_W1 la2_W1 la3_W1 la4_W1 la5_W1 la6_W1 la7_W1 laF_W1 laL_W1 acc_W1
  obtain ⟨ou0_W3, ou1_W3, ou2_W3, ou3_W3, ou4_W3, ou5_W3, ou6_W3, ou7_W3⟩ := bx8 W2 48 (.slice none 0 0) (.slice none 0 0) (.slice none 0 0) (.int .i64 0) (.int .i64 0) (.slice none 0 0) (.int .i64 0) (.int .i64 0)
  have ouF_W3 : ∀ o, (W2.alloc (.cells #[.slice none 0 0, .slice none 0 0, .slice none 0 0, .int .i64 0, .int .i64 0, .slice none 0 0, .int .i64 0, .int .i64 0] 48)).frozen? ⟨W2.heap.size, o, none⟩ = false := fun o => by simp [go_sem]
  have ouL_W3 : W2.heap.size < (W2.alloc (.cells #[.slice none 0 0, .slice none 0 0, .slice none 0 0, .int .i64 0, .int .i64 0, .slice none 0 0, .int .i64 0, .int .i64 0] 48)).heap.size := by simp
  have ab_W3 := alloc_below W2 (.cells #[.slice none 0 0, .slice none 0 0, .slice none 0 0, .int .i64 0, .int .i64 0, .slice none 0 0, .int .i64 0, .int .i64 0] 48)
  have as_W3 : Hid ((W2.alloc (.cells #[.slice none 0 0, .slice none 0 0, .slice none 0 0, .int .i64 0, .int .i64 0, .slice none 0 0, .int .i64 0, .int .i64 0] 48)).heap.size = W2.heap.size + 1) := hidP (by simp)
  generalize W2.alloc (.cells #[.slice none 0 0, .slice none 0 0, .slice none 0 0, .int .i64 0, .int .i64 0, .slice none 0 0, .int .i64 0, .int .i64 0] 48) = W3 at *
  have la0_W3 := (ab_W3.cell laL_W2).trans la0_W2
  have la1_W3 := (ab_W3.cell laL_W2).trans la1_W2
  have la2_W3 := (ab_W3.cell laL_W2).trans la2_W2
  have la3_W3 := (ab_W3.cell laL_W2).trans la3_W2
  have la4_W3 := (ab_W3.cell laL_W2).trans la4_W2
  have la5_W3 := (ab_W3.cell laL_W2).trans la5_W2
  have la6_W3 := (ab_W3.cell laL_W2).trans la6_W2
  have la7_W3 := (ab_W3.cell laL_W2).trans la7_W2
  have laF_W3 : ∀ o, W3.frozen? ⟨w.heap.size, o, none⟩ = false := fun o => (ab_W3.frozen laL_W2).trans (laF_W2 o)
  have laL_W3 : w.heap.size < W3.heap.size := Nat.lt_of_lt_of_le laL_W2 ab_W3.size
  have re0_W3 := (ab_W3.cell reL_W2).trans re0_W2
  have re1_W3 := (ab_W3.cell reL_W2).trans re1_W2
  have re2_W3 := (ab_W3.cell reL_W2).trans re2_W2
  have re3_W3 := (ab_W3.cell reL_W2).trans re3_W2
  have re4_W3 := (ab_W3.cell reL_W2).trans re4_W2
  have re5_W3 := (ab_W3.cell reL_W2).trans re5_W2
  have re6_W3 := (ab_W3.cell reL_W2).trans re6_W2
  have re7_W3 := (ab_W3.cell reL_W2).trans re7_W2
  have reF_W3 : ∀ o, W3.frozen? ⟨W1.heap.size, o, none⟩ = false := fun o => (ab_W3.frozen reL_W2).trans (reF_W2 o)
  have reL_W3 : W1.heap.size < W3.heap.size := Nat.lt_of_lt_of_le reL_W2 ab_W3.size
  have acc_W3 := hidP (acc_W2.out.trans (ab_W3.mono acc_W2.out.size))
  have sz_W3 : Hid (W2.heap.size ≤ W3.heap.size) := hidP ab_W3.size
  clear ab_W3 la0_W2 la1_W2 la2_W2 la3_W2 la4_W2 la5_W2 la6_W2 la7_W2 laF_W2 laL_W2 re0_W2 re1_W2 re2_W2 re3_W2 re4_W2 re5_W2 re6_W2 re7_W2 reF_W2 reL_W2 acc_W2
  simp only [as_W1.out] at re0_W3 re1_W3 re2_W3 re3_W3 re4_W3 re5_W3 re6_W3 re7_W3 reF_W3 reL_W3
  simp only [as_W2.out, as_W1.out] at ou0_W3 ou1_W3 ou2_W3 ou3_W3 ou4_W3 ou5_W3 ou6_W3 ou7_W3 ouF_W3 ouL_W3
  have Wz : Hid (W3.heap.size = w.heap.size + 3) := hidP (by have := as_W1.out; have := as_W2.out; have := as_W3.out; omega)
  refine (HP.out _ acc_W3.out).mono ?_
  rintro e u1 ⟨g, h, rfl, og, oh, hgh, hb1⟩
  have HG1 : Hid (g ≠ h ∧ g < u1.heap.size ∧ h < u1.heap.size) := hidP ⟨hgh, (OwnG.lt og g rfl).2, (OwnG.lt oh h rfl).2⟩
  clear hgh
  have OG := hidP og
  have OH := hidP oh
  clear og oh
  have la0_u1 := (hb1.cell laL_W3).trans la0_W3
  have la1_u1 := (hb1.cell laL_W3).trans la1_W3
  have la2_u1 := (hb1.cell laL_W3).trans la2_W3
  have la3_u1 := (hb1.cell laL_W3).trans la3_W3
  have la4_u1 := (hb1.cell laL_W3).trans la4_W3
  have la5_u1 := (hb1.cell laL_W3).trans la5_W3
  have la6_u1 := (hb1.cell laL_W3).trans la6_W3
  have la7_u1 := (hb1.cell laL_W3).trans la7_W3
  have laF_u1 : ∀ o, u1.frozen? ⟨w.heap.size, o, none⟩ = false := fun o => (hb1.frozen laL_W3).trans (laF_W3 o)
  have laL_u1 : w.heap.size < u1.heap.size := Nat.lt_of_lt_of_le laL_W3 hb1.size
  have re0_u1 := (hb1.cell reL_W3).trans re0_W3
  have re1_u1 := (hb1.cell reL_W3).trans re1_W3
  have re2_u1 := (hb1.cell reL_W3).trans re2_W3
  have re3_u1 := (hb1.cell reL_W3).trans re3_W3
  have re4_u1 := (hb1.cell reL_W3).trans re4_W3
  have re5_u1 := (hb1.cell reL_W3).trans re5_W3
  have re6_u1 := (hb1.cell reL_W3).trans re6_W3
  have re7_u1 := (hb1.cell reL_W3).trans re7_W3
  have reF_u1 : ∀ o, u1.frozen? ⟨(w.heap.size + 1), o, none⟩ = false := fun o => (hb1.frozen reL_W3).trans (reF_W3 o)
  have reL_u1 : (w.heap.size + 1) < u1.heap.size := Nat.lt_of_lt_of_le reL_W3 hb1.size
  have ou0_u1 := (hb1.cell ouL_W3).trans ou0_W3
  have ou1_u1 := (hb1.cell ouL_W3).trans ou1_W3
  have ou2_u1 := (hb1.cell ouL_W3).trans ou2_W3
  have ou3_u1 := (hb1.cell ouL_W3).trans ou3_W3
  have ou4_u1 := (hb1.cell ouL_W3).trans ou4_W3
  have ou5_u1 := (hb1.cell ouL_W3).trans ou5_W3
  have ou6_u1 := (hb1.cell ouL_W3).trans ou6_W3
  have ou7_u1 := (hb1.cell ouL_W3).trans ou7_W3
  have ouF_u1 : ∀ o, u1.frozen? ⟨(w.heap.size + 2), o, none⟩ = false := fun o => (hb1.frozen ouL_W3).trans (ouF_W3 o)
  have ouL_u1 : (w.heap.size + 2) < u1.heap.size := Nat.lt_of_lt_of_le ouL_W3 hb1.size
  have acc_u1 := hidP (acc_W3.out.trans (hb1.mono acc_W3.out.size))
  have sz_u1 : Hid (W3.heap.size ≤ u1.heap.size) := hidP hb1.size
  clear hb1 la0_W3 la1_W3 la2_W3 la3_W3 la4_W3 la5_W3 la6_W3 la7_W3 laF_W3 laL_W3 re0_W3 re1_W3 re2_W3 re3_W3 re4_W3 re5_W3 re6_W3 re7_W3 reF_W3 reL_W3 ou0_W3 ou1_W3 ou2_W3 ou3_W3 ou4_W3 ou5_W3 ou6_W3 ou7_W3 ouF_W3 ouL_W3 acc_W3
  have oG_u1 := hidP (OG.out.mono (B' := w.heap.size + 3) (by have := Wz.out; omega))
  have oH_u1 := hidP (OH.out.mono (B' := w.heap.size + 3) (by have := Wz.out; omega))
  clear OG OH
  go_wp2_with fail
  have ou0_W4 : ((u1.setCell ⟨(w.heap.size + 2), 0, none⟩ (.slice (some ⟨g, 0, none⟩) np np)).setCell ⟨(w.heap.size + 2), 1, none⟩ (.slice (some ⟨h, 0, none⟩) nb nb)).cell? ⟨(w.heap.size + 2), 0, none⟩ = some (.slice (some ⟨g, 0, none⟩) np np) := by simp [go_sem, ou0_u1]
  have ou1_W4 : ((u1.setCell ⟨(w.heap.size + 2), 0, none⟩ (.slice (some ⟨g, 0, none⟩) np np)).setCell ⟨(w.heap.size + 2), 1, none⟩ (.slice (some ⟨h, 0, none⟩) nb nb)).cell? ⟨(w.heap.size + 2), 1, none⟩ = some (.slice (some ⟨h, 0, none⟩) nb nb) := by simp [go_sem, ou1_u1]
  have ou2_W4 : ((u1.setCell ⟨(w.heap.size + 2), 0, none⟩ (.slice (some ⟨g, 0, none⟩) np np)).setCell ⟨(w.heap.size + 2), 1, none⟩ (.slice (some ⟨h, 0, none⟩) nb nb)).cell? ⟨(w.heap.size + 2), 2, none⟩ = some (.slice none 0 0) := by simp [go_sem, ou2_u1]
  have ou3_W4 : ((u1.setCell ⟨(w.heap.size + 2), 0, none⟩ (.slice (some ⟨g, 0, none⟩) np np)).setCell ⟨(w.heap.size + 2), 1, none⟩ (.slice (some ⟨h, 0, none⟩) nb nb)).cell? ⟨(w.heap.size + 2), 3, none⟩ = some (.int .i64 0) := by simp [go_sem, ou3_u1]
  have ou4_W4 : ((u1.setCell ⟨(w.heap.size + 2), 0, none⟩ (.slice (some ⟨g, 0, none⟩) np np)).setCell ⟨(w.heap.size + 2), 1, none⟩ (.slice (some ⟨h, 0, none⟩) nb nb)).cell? ⟨(w.heap.size + 2), 4, none⟩ = some (.int .i64 0) := by simp [go_sem, ou4_u1]
  have ou5_W4 : ((u1.setCell ⟨(w.heap.size + 2), 0, none⟩ (.slice (some ⟨g, 0, none⟩) np np)).setCell ⟨(w.heap.size + 2), 1, none⟩ (.slice (some ⟨h, 0, none⟩) nb nb)).cell? ⟨(w.heap.size + 2), 5, none⟩ = some (.slice none 0 0) := by simp [go_sem, ou5_u1]
  have ou6_W4 : ((u1.setCell ⟨(w.heap.size + 2), 0, none⟩ (.slice (some ⟨g, 0, none⟩) np np)).setCell ⟨(w.heap.size + 2), 1, none⟩ (.slice (some ⟨h, 0, none⟩) nb nb)).cell? ⟨(w.heap.size + 2), 6, none⟩ = some (.int .i64 0) := by simp [go_sem, ou6_u1]
  have ou7_W4 : ((u1.setCell ⟨(w.heap.size + 2), 0, none⟩ (.slice (some ⟨g, 0, none⟩) np np)).setCell ⟨(w.heap.size + 2), 1, none⟩ (.slice (some ⟨h, 0, none⟩) nb nb)).cell? ⟨(w.heap.size + 2), 7, none⟩ = some (.int .i64 0) := by simp [go_sem, ou7_u1]
  have la0_W4 : ((u1.setCell ⟨(w.heap.size + 2), 0, none⟩ (.slice (some ⟨g, 0, none⟩) np np)).setCell ⟨(w.heap.size + 2), 1, none⟩ (.slice (some ⟨h, 0, none⟩) nb nb)).cell? ⟨w.heap.size, 0, none⟩ = some (.slice ap np cp) := cell_set1 (cell_set1 (la0_u1) (by omega)) (by omega)
  have la1_W4 : ((u1.setCell ⟨(w.heap.size + 2), 0, none⟩ (.slice (some ⟨g, 0, none⟩) np np)).setCell ⟨(w.heap.size + 2), 1, none⟩ (.slice (some ⟨h, 0, none⟩) nb nb)).cell? ⟨w.heap.size, 1, none⟩ = some (.slice ab nb cb) := cell_set1 (cell_set1 (la1_u1) (by omega)) (by omega)
  have la2_W4 : ((u1.setCell ⟨(w.heap.size + 2), 0, none⟩ (.slice (some ⟨g, 0, none⟩) np np)).setCell ⟨(w.heap.size + 2), 1, none⟩ (.slice (some ⟨h, 0, none⟩) nb nb)).cell? ⟨w.heap.size, 2, none⟩ = some (.slice al nl cl) := cell_set1 (cell_set1 (la2_u1) (by omega)) (by omega)
  have la3_W4 : ((u1.setCell ⟨(w.heap.size + 2), 0, none⟩ (.slice (some ⟨g, 0, none⟩) np np)).setCell ⟨(w.heap.size + 2), 1, none⟩ (.slice (some ⟨h, 0, none⟩) nb nb)).cell? ⟨w.heap.size, 3, none⟩ = some (.int .i64 T) := cell_set1 (cell_set1 (la3_u1) (by omega)) (by omega)
  have la4_W4 : ((u1.setCell ⟨(w.heap.size + 2), 0, none⟩ (.slice (some ⟨g, 0, none⟩) np np)).setCell ⟨(w.heap.size + 2), 1, none⟩ (.slice (some ⟨h, 0, none⟩) nb nb)).cell? ⟨w.heap.size, 4, none⟩ = some (.int .i64 N) := cell_set1 (cell_set1 (la4_u1) (by omega)) (by omega)
  have la5_W4 : ((u1.setCell ⟨(w.heap.size + 2), 0, none⟩ (.slice (some ⟨g, 0, none⟩) np np)).setCell ⟨(w.heap.size + 2), 1, none⟩ (.slice (some ⟨h, 0, none⟩) nb nb)).cell? ⟨w.heap.size, 5, none⟩ = some (.slice aS ns cs) := cell_set1 (cell_set1 (la5_u1) (by omega)) (by omega)
  have la6_W4 : ((u1.setCell ⟨(w.heap.size + 2), 0, none⟩ (.slice (some ⟨g, 0, none⟩) np np)).setCell ⟨(w.heap.size + 2), 1, none⟩ (.slice (some ⟨h, 0, none⟩) nb nb)).cell? ⟨w.heap.size, 6, none⟩ = some (.int .i64 X) := cell_set1 (cell_set1 (la6_u1) (by omega)) (by omega)
  have la7_W4 : ((u1.setCell ⟨(w.heap.size + 2), 0, none⟩ (.slice (some ⟨g, 0, none⟩) np np)).setCell ⟨(w.heap.size + 2), 1, none⟩ (.slice (some ⟨h, 0, none⟩) nb nb)).cell? ⟨w.heap.size, 7, none⟩ = some (.int .i64 C) := cell_set1 (cell_set1 (la7_u1) (by omega)) (by omega)
  have laF_W4 : ∀ o, ((u1.setCell ⟨(w.heap.size + 2), 0, none⟩ (.slice (some ⟨g, 0, none⟩) np np)).setCell ⟨(w.heap.size + 2), 1, none⟩ (.slice (some ⟨h, 0, none⟩) nb nb)).frozen? ⟨w.heap.size, o, none⟩ = false := fun o => frz_set1 (frz_set1 ((laF_u1 o)))
  have laL_W4 : w.heap.size < ((u1.setCell ⟨(w.heap.size + 2), 0, none⟩ (.slice (some ⟨g, 0, none⟩) np np)).setCell ⟨(w.heap.size + 2), 1, none⟩ (.slice (some ⟨h, 0, none⟩) nb nb)).heap.size := by simpa using laL_u1
  have re0_W4 : ((u1.setCell ⟨(w.heap.size + 2), 0, none⟩ (.slice (some ⟨g, 0, none⟩) np np)).setCell ⟨(w.heap.size + 2), 1, none⟩ (.slice (some ⟨h, 0, none⟩) nb nb)).cell? ⟨(w.heap.size + 1), 0, none⟩ = some (.slice none 0 0) := cell_set1 (cell_set1 (re0_u1) (by omega)) (by omega)
  have re1_W4 : ((u1.setCell ⟨(w.heap.size + 2), 0, none⟩ (.slice (some ⟨g, 0, none⟩) np np)).setCell ⟨(w.heap.size + 2), 1, none⟩ (.slice (some ⟨h, 0, none⟩) nb nb)).cell? ⟨(w.heap.size + 1), 1, none⟩ = some (.slice none 0 0) := cell_set1 (cell_set1 (re1_u1) (by omega)) (by omega)
  have re2_W4 : ((u1.setCell ⟨(w.heap.size + 2), 0, none⟩ (.slice (some ⟨g, 0, none⟩) np np)).setCell ⟨(w.heap.size + 2), 1, none⟩ (.slice (some ⟨h, 0, none⟩) nb nb)).cell? ⟨(w.heap.size + 1), 2, none⟩ = some (.slice none 0 0) := cell_set1 (cell_set1 (re2_u1) (by omega)) (by omega)
  have re3_W4 : ((u1.setCell ⟨(w.heap.size + 2), 0, none⟩ (.slice (some ⟨g, 0, none⟩) np np)).setCell ⟨(w.heap.size + 2), 1, none⟩ (.slice (some ⟨h, 0, none⟩) nb nb)).cell? ⟨(w.heap.size + 1), 3, none⟩ = some (.int .i64 0) := cell_set1 (cell_set1 (re3_u1) (by omega)) (by omega)
  have re4_W4 : ((u1.setCell ⟨(w.heap.size + 2), 0, none⟩ (.slice (some ⟨g, 0, none⟩) np np)).setCell ⟨(w.heap.size + 2), 1, none⟩ (.slice (some ⟨h, 0, none⟩) nb nb)).cell? ⟨(w.heap.size + 1), 4, none⟩ = some (.int .i64 0) := cell_set1 (cell_set1 (re4_u1) (by omega)) (by omega)
  have re5_W4 : ((u1.setCell ⟨(w.heap.size + 2), 0, none⟩ (.slice (some ⟨g, 0, none⟩) np np)).setCell ⟨(w.heap.size + 2), 1, none⟩ (.slice (some ⟨h, 0, none⟩) nb nb)).cell? ⟨(w.heap.size + 1), 5, none⟩ = some (.slice none 0 0) := cell_set1 (cell_set1 (re5_u1) (by omega)) (by omega)
  have re6_W4 : ((u1.setCell ⟨(w.heap.size + 2), 0, none⟩ (.slice (some ⟨g, 0, none⟩) np np)).setCell ⟨(w.heap.size + 2), 1, none⟩ (.slice (some ⟨h, 0, none⟩) nb nb)).cell? ⟨(w.heap.size + 1), 6, none⟩ = some (.int .i64 0) := cell_set1 (cell_set1 (re6_u1) (by omega)) (by omega)
  have re7_W4 : ((u1.setCell ⟨(w.heap.size + 2), 0, none⟩ (.slice (some ⟨g, 0, none⟩) np np)).setCell ⟨(w.heap.size + 2), 1, none⟩ (.slice (some ⟨h, 0, none⟩) nb nb)).cell? ⟨(w.heap.size + 1), 7, none⟩ = some (.int .i64 0) := cell_set1 (cell_set1 (re7_u1) (by omega)) (by omega)
  have reF_W4 : ∀ o, ((u1.setCell ⟨(w.heap.size + 2), 0, none⟩ (.slice (some ⟨g, 0, none⟩) np np)).setCell ⟨(w.heap.size + 2), 1, none⟩ (.slice (some ⟨h, 0, none⟩) nb nb)).frozen? ⟨(w.heap.size + 1), o, none⟩ = false := fun o => frz_set1 (frz_set1 ((reF_u1 o)))
  have reL_W4 : (w.heap.size + 1) < ((u1.setCell ⟨(w.heap.size + 2), 0, none⟩ (.slice (some ⟨g, 0, none⟩) np np)).setCell ⟨(w.heap.size + 2), 1, none⟩ (.slice (some ⟨h, 0, none⟩) nb nb)).heap.size := by simpa using reL_u1
  have ouF_W4 : ∀ o, ((u1.setCell ⟨(w.heap.size + 2), 0, none⟩ (.slice (some ⟨g, 0, none⟩) np np)).setCell ⟨(w.heap.size + 2), 1, none⟩ (.slice (some ⟨h, 0, none⟩) nb nb)).frozen? ⟨(w.heap.size + 2), o, none⟩ = false := fun o => frz_set1 (frz_set1 ((ouF_u1 o)))
  have ouL_W4 : (w.heap.size + 2) < ((u1.setCell ⟨(w.heap.size + 2), 0, none⟩ (.slice (some ⟨g, 0, none⟩) np np)).setCell ⟨(w.heap.size + 2), 1, none⟩ (.slice (some ⟨h, 0, none⟩) nb nb)).heap.size := by simpa using ouL_u1
  have oG_W4 : Hid (OwnG KPl 68 ((u1.setCell ⟨(w.heap.size + 2), 0, none⟩ (.slice (some ⟨g, 0, none⟩) np np)).setCell ⟨(w.heap.size + 2), 1, none⟩ (.slice (some ⟨h, 0, none⟩) nb nb)) (w.heap.size + 3) (.slice (some ⟨g, 0, none⟩) np np) (ps)) := hidP (OwnG.grown (OwnG.grown (oG_u1.out) (grown_cellG _ _ _ _) (OwnG.ne_of oG_u1.out (by omega))) (grown_cellG _ _ _ _) (OwnG.ne_of oG_u1.out (by omega)))
  have oH_W4 : Hid (OwnG KBk 71 ((u1.setCell ⟨(w.heap.size + 2), 0, none⟩ (.slice (some ⟨g, 0, none⟩) np np)).setCell ⟨(w.heap.size + 2), 1, none⟩ (.slice (some ⟨h, 0, none⟩) nb nb)) (w.heap.size + 3) (.slice (some ⟨h, 0, none⟩) nb nb) (bs)) := hidP (OwnG.grown (OwnG.grown (oH_u1.out) (grown_cellG _ _ _ _) (OwnG.ne_of oH_u1.out (by omega))) (grown_cellG _ _ _ _) (OwnG.ne_of oH_u1.out (by omega)))
  have acc_W4 : Hid (Below w.heap.size w ((u1.setCell ⟨(w.heap.size + 2), 0, none⟩ (.slice (some ⟨g, 0, none⟩) np np)).setCell ⟨(w.heap.size + 2), 1, none⟩ (.slice (some ⟨h, 0, none⟩) nb nb))) := hidP (Below.setCell (Below.setCell (acc_u1.out) (by try dsimp only; omega) _) (by try dsimp only; omega) _)
  have sz_W4 : Hid (((u1.setCell ⟨(w.heap.size + 2), 0, none⟩ (.slice (some ⟨g, 0, none⟩) np np)).setCell ⟨(w.heap.size + 2), 1, none⟩ (.slice (some ⟨h, 0, none⟩) nb nb)).heap.size = u1.heap.size) := hidP (by simp)
  generalize (u1.setCell ⟨(w.heap.size + 2), 0, none⟩ (.slice (some ⟨g, 0, none⟩) np np)).setCell ⟨(w.heap.size + 2), 1, none⟩ (.slice (some ⟨h, 0, none⟩) nb nb) = W4 at *
  clear ou0_u1 ou1_u1 ou2_u1 ou3_u1 ou4_u1 ou5_u1 ou6_u1 ou7_u1 la0_u1 la1_u1 la2_u1 la3_u1 la4_u1 la5_u1 la6_u1 la7_u1 laF_u1 laL_u1 re0_u1 re1_u1 re2_u1 re3_u1 re4_u1 re5_u1 re6_u1 re7_u1 reF_u1 reL_u1 ouF_u1 ouL_u1 oG_u1 oH_u1 acc_u1
  refine (HB.out _ acc_W4.out).mono ?_
  rintro e u2 ⟨i, rfl, oi, hb2⟩
  have HG2 : Hid (W4.heap.size ≤ i ∧ i < u2.heap.size) := hidP (OwnG.lt oi i rfl)
  have OI := hidP oi
  clear oi
  have la0_u2 := (hb2.cell laL_W4).trans la0_W4
  have la1_u2 := (hb2.cell laL_W4).trans la1_W4
  have la2_u2 := (hb2.cell laL_W4).trans la2_W4
  have la3_u2 := (hb2.cell laL_W4).trans la3_W4
  have la4_u2 := (hb2.cell laL_W4).trans la4_W4
  have la5_u2 := (hb2.cell laL_W4).trans la5_W4
  have la6_u2 := (hb2.cell laL_W4).trans la6_W4
  have la7_u2 := (hb2.cell laL_W4).trans la7_W4
  have laF_u2 : ∀ o, u2.frozen? ⟨w.heap.size, o, none⟩ = false := fun o => (hb2.frozen laL_W4).trans (laF_W4 o)
  have laL_u2 : w.heap.size < u2.heap.size := Nat.lt_of_lt_of_le laL_W4 hb2.size
  have re0_u2 := (hb2.cell reL_W4).trans re0_W4
  have re1_u2 := (hb2.cell reL_W4).trans re1_W4
  have re2_u2 := (hb2.cell reL_W4).trans re2_W4
  have re3_u2 := (hb2.cell reL_W4).trans re3_W4
  have re4_u2 := (hb2.cell reL_W4).trans re4_W4
  have re5_u2 := (hb2.cell reL_W4).trans re5_W4
  have re6_u2 := (hb2.cell reL_W4).trans re6_W4
  have re7_u2 := (hb2.cell reL_W4).trans re7_W4
  have reF_u2 : ∀ o, u2.frozen? ⟨(w.heap.size + 1), o, none⟩ = false := fun o => (hb2.frozen reL_W4).trans (reF_W4 o)
  have reL_u2 : (w.heap.size + 1) < u2.heap.size := Nat.lt_of_lt_of_le reL_W4 hb2.size
  have ou0_u2 := (hb2.cell ouL_W4).trans ou0_W4
  have ou1_u2 := (hb2.cell ouL_W4).trans ou1_W4
  have ou2_u2 := (hb2.cell ouL_W4).trans ou2_W4
  have ou3_u2 := (hb2.cell ouL_W4).trans ou3_W4
  have ou4_u2 := (hb2.cell ouL_W4).trans ou4_W4
  have ou5_u2 := (hb2.cell ouL_W4).trans ou5_W4
  have ou6_u2 := (hb2.cell ouL_W4).trans ou6_W4
  have ou7_u2 := (hb2.cell ouL_W4).trans ou7_W4
  have ouF_u2 : ∀ o, u2.frozen? ⟨(w.heap.size + 2), o, none⟩ = false := fun o => (hb2.frozen ouL_W4).trans (ouF_W4 o)
  have ouL_u2 : (w.heap.size + 2) < u2.heap.size := Nat.lt_of_lt_of_le ouL_W4 hb2.size
  have oG_u2 := hidP (OwnG.later oG_W4.out hb2)
  have oH_u2 := hidP (OwnG.later oH_W4.out hb2)
  have acc_u2 := hidP (acc_W4.out.trans (hb2.mono acc_W4.out.size))
  have sz_u2 : Hid (W4.heap.size ≤ u2.heap.size) := hidP hb2.size
  clear hb2 la0_W4 la1_W4 la2_W4 la3_W4 la4_W4 la5_W4 la6_W4 la7_W4 laF_W4 laL_W4 re0_W4 re1_W4 re2_W4 re3_W4 re4_W4 re5_W4 re6_W4 re7_W4 reF_W4 reL_W4 ou0_W4 ou1_W4 ou2_W4 ou3_W4 ou4_W4 ou5_W4 ou6_W4 ou7_W4 ouF_W4 ouL_W4 oG_W4 oH_W4 acc_W4
  have oI_u2 := hidP (OI.out.mono (B' := w.heap.size + 3) (by have := as_W1.out; have := sz_W1.out; have := as_W2.out; have := sz_W2.out; have := as_W3.out; have := sz_W3.out; have := Wz.out; have := sz_u1.out; have := sz_W4.out; have := sz_u2.out; omega))
  clear OI
  go_wp2_with fail
  have ou0_W5 : (((u2.setCell ⟨(w.heap.size + 2), 2, none⟩ (.slice (some ⟨i, 0, none⟩) nl nl)).setCell ⟨(w.heap.size + 2), 3, none⟩ (.int .i64 T)).setCell ⟨(w.heap.size + 2), 4, none⟩ (.int .i64 N)).cell? ⟨(w.heap.size + 2), 0, none⟩ = some (.slice (some ⟨g, 0, none⟩) np np) := by simp [go_sem, ou0_u2]
  have ou1_W5 : (((u2.setCell ⟨(w.heap.size + 2), 2, none⟩ (.slice (some ⟨i, 0, none⟩) nl nl)).setCell ⟨(w.heap.size + 2), 3, none⟩ (.int .i64 T)).setCell ⟨(w.heap.size + 2), 4, none⟩ (.int .i64 N)).cell? ⟨(w.heap.size + 2), 1, none⟩ = some (.slice (some ⟨h, 0, none⟩) nb nb) := by simp [go_sem, ou1_u2]
  have ou2_W5 : (((u2.setCell ⟨(w.heap.size + 2), 2, none⟩ (.slice (some ⟨i, 0, none⟩) nl nl)).setCell ⟨(w.heap.size + 2), 3, none⟩ (.int .i64 T)).setCell ⟨(w.heap.size + 2), 4, none⟩ (.int .i64 N)).cell? ⟨(w.heap.size + 2), 2, none⟩ = some (.slice (some ⟨i, 0, none⟩) nl nl) := by simp [go_sem, ou2_u2]
  have ou3_W5 : (((u2.setCell ⟨(w.heap.size + 2), 2, none⟩ (.slice (some ⟨i, 0, none⟩) nl nl)).setCell ⟨(w.heap.size + 2), 3, none⟩ (.int .i64 T)).setCell ⟨(w.heap.size + 2), 4, none⟩ (.int .i64 N)).cell? ⟨(w.heap.size + 2), 3, none⟩ = some (.int .i64 T) := by simp [go_sem, ou3_u2]
  have ou4_W5 : (((u2.setCell ⟨(w.heap.size + 2), 2, none⟩ (.slice (some ⟨i, 0, none⟩) nl nl)).setCell ⟨(w.heap.size + 2), 3, none⟩ (.int .i64 T)).setCell ⟨(w.heap.size + 2), 4, none⟩ (.int .i64 N)).cell? ⟨(w.heap.size + 2), 4, none⟩ = some (.int .i64 N) := by simp [go_sem, ou4_u2]
  have ou5_W5 : (((u2.setCell ⟨(w.heap.size + 2), 2, none⟩ (.slice (some ⟨i, 0, none⟩) nl nl)).setCell ⟨(w.heap.size + 2), 3, none⟩ (.int .i64 T)).setCell ⟨(w.heap.size + 2), 4, none⟩ (.int .i64 N)).cell? ⟨(w.heap.size + 2), 5, none⟩ = some (.slice none 0 0) := by simp [go_sem, ou5_u2]
  have ou6_W5 : (((u2.setCell ⟨(w.heap.size + 2), 2, none⟩ (.slice (some ⟨i, 0, none⟩) nl nl)).setCell ⟨(w.heap.size + 2), 3, none⟩ (.int .i64 T)).setCell ⟨(w.heap.size + 2), 4, none⟩ (.int .i64 N)).cell? ⟨(w.heap.size + 2), 6, none⟩ = some (.int .i64 0) := by simp [go_sem, ou6_u2]
  have ou7_W5 : (((u2.setCell ⟨(w.heap.size + 2), 2, none⟩ (.slice (some ⟨i, 0, none⟩) nl nl)).setCell ⟨(w.heap.size + 2), 3, none⟩ (.int .i64 T)).setCell ⟨(w.heap.size + 2), 4, none⟩ (.int .i64 N)).cell? ⟨(w.heap.size + 2), 7, none⟩ = some (.int .i64 0) := by simp [go_sem, ou7_u2]
  have la0_W5 : (((u2.setCell ⟨(w.heap.size + 2), 2, none⟩ (.slice (some ⟨i, 0, none⟩) nl nl)).setCell ⟨(w.heap.size + 2), 3, none⟩ (.int .i64 T)).setCell ⟨(w.heap.size + 2), 4, none⟩ (.int .i64 N)).cell? ⟨w.heap.size, 0, none⟩ = some (.slice ap np cp) := cell_set1 (cell_set1 (cell_set1 (la0_u2) (by omega)) (by omega)) (by omega)
  have la1_W5 : (((u2.setCell ⟨(w.heap.size + 2), 2, none⟩ (.slice (some ⟨i, 0, none⟩) nl nl)).setCell ⟨(w.heap.size + 2), 3, none⟩ (.int .i64 T)).setCell ⟨(w.heap.size + 2), 4, none⟩ (.int .i64 N)).cell? ⟨w.heap.size, 1, none⟩ = some (.slice ab nb cb) := cell_set1 (cell_set1 (cell_set1 (la1_u2) (by omega)) (by omega)) (by omega)
  have la2_W5 : (((u2.setCell ⟨(w.heap.size + 2), 2, none⟩ (.slice (some ⟨i, 0, none⟩) nl nl)).setCell ⟨(w.heap.size + 2), 3, none⟩ (.int .i64 T)).setCell ⟨(w.heap.size + 2), 4, none⟩ (.int .i64 N)).cell? ⟨w.heap.size, 2, none⟩ = some (.slice al nl cl) := cell_set1 (cell_set1 (cell_set1 (la2_u2) (by omega)) (by omega)) (by omega)
  have la3_W5 : (((u2.setCell ⟨(w.heap.size + 2), 2, none⟩ (.slice (some ⟨i, 0, none⟩) nl nl)).setCell ⟨(w.heap.size + 2), 3, none⟩ (.int .i64 T)).setCell ⟨(w.heap.size + 2), 4, none⟩ (.int .i64 N)).cell? ⟨w.heap.size, 3, none⟩ = some (.int .i64 T) := cell_set1 (cell_set1 (cell_set1 (la3_u2) (by omega)) (by omega)) (by omega)
  have la4_W5 : (((u2.setCell ⟨(w.heap.size + 2), 2, none⟩ (.slice (some ⟨i, 0, none⟩) nl nl)).setCell ⟨(w.heap.size + 2), 3, none⟩ (.int .i64 T)).setCell ⟨(w.heap.size + 2), 4, none⟩ (.int .i64 N)).cell? ⟨w.heap.size, 4, none⟩ = some (.int .i64 N) := cell_set1 (cell_set1 (cell_set1 (la4_u2) (by omega)) (by omega)) (by omega)
  have la5_W5 : (((u2.setCell ⟨(w.heap.size + 2), 2, none⟩ (.slice (some ⟨i, 0, none⟩) nl nl)).setCell ⟨(w.heap.size + 2), 3, none⟩ (.int .i64 T)).setCell ⟨(w.heap.size + 2), 4, none⟩ (.int .i64 N)).cell? ⟨w.heap.size, 5, none⟩ = some (.slice aS ns cs) := cell_set1 (cell_set1 (cell_set1 (la5_u2) (by omega)) (by omega)) (by omega)
  have la6_W5 : (((u2.setCell ⟨(w.heap.size + 2), 2, none⟩ (.slice (some ⟨i, 0, none⟩) nl nl)).setCell ⟨(w.heap.size + 2), 3, none⟩ (.int .i64 T)).setCell ⟨(w.heap.size + 2), 4, none⟩ (.int .i64 N)).cell? ⟨w.heap.size, 6, none⟩ = some (.int .i64 X) := cell_set1 (cell_set1 (cell_set1 (la6_u2) (by omega)) (by omega)) (by omega)
  have la7_W5 : (((u2.setCell ⟨(w.heap.size + 2), 2, none⟩ (.slice (some ⟨i, 0, none⟩) nl nl)).setCell ⟨(w.heap.size + 2), 3, none⟩ (.int .i64 T)).setCell ⟨(w.heap.size + 2), 4, none⟩ (.int .i64 N)).cell? ⟨w.heap.size, 7, none⟩ = some (.int .i64 C) := cell_set1 (cell_set1 (cell_set1 (la7_u2) (by omega)) (by omega)) (by omega)
  have laF_W5 : ∀ o, (((u2.setCell ⟨(w.heap.size + 2), 2, none⟩ (.slice (some ⟨i, 0, none⟩) nl nl)).setCell ⟨(w.heap.size + 2), 3, none⟩ (.int .i64 T)).setCell ⟨(w.heap.size + 2), 4, none⟩ (.int .i64 N)).frozen? ⟨w.heap.size, o, none⟩ = false := fun o => frz_set1 (frz_set1 (frz_set1 ((laF_u2 o))))
  have laL_W5 : w.heap.size < (((u2.setCell ⟨(w.heap.size + 2), 2, none⟩ (.slice (some ⟨i, 0, none⟩) nl nl)).setCell ⟨(w.heap.size + 2), 3, none⟩ (.int .i64 T)).setCell ⟨(w.heap.size + 2), 4, none⟩ (.int .i64 N)).heap.size := by simpa using laL_u2
  have re0_W5 : (((u2.setCell ⟨(w.heap.size + 2), 2, none⟩ (.slice (some ⟨i, 0, none⟩) nl nl)).setCell ⟨(w.heap.size + 2), 3, none⟩ (.int .i64 T)).setCell ⟨(w.heap.size + 2), 4, none⟩ (.int .i64 N)).cell? ⟨(w.heap.size + 1), 0, none⟩ = some (.slice none 0 0) := cell_set1 (cell_set1 (cell_set1 (re0_u2) (by omega)) (by omega)) (by omega)
  have re1_W5 : (((u2.setCell ⟨(w.heap.size + 2), 2, none⟩ (.slice (some ⟨i, 0, none⟩) nl nl)).setCell ⟨(w.heap.size + 2), 3, none⟩ (.int .i64 T)).setCell ⟨(w.heap.size + 2), 4, none⟩ (.int .i64 N)).cell? ⟨(w.heap.size + 1), 1, none⟩ = some (.slice none 0 0) := cell_set1 (cell_set1 (cell_set1 (re1_u2) (by omega)) (by omega)) (by omega)
  have re2_W5 : (((u2.setCell ⟨(w.heap.size + 2), 2, none⟩ (.slice (some ⟨i, 0, none⟩) nl nl)).setCell ⟨(w.heap.size + 2), 3, none⟩ (.int .i64 T)).setCell ⟨(w.heap.size + 2), 4, none⟩ (.int .i64 N)).cell? ⟨(w.heap.size + 1), 2, none⟩ = some (.slice none 0 0) := cell_set1 (cell_set1 (cell_set1 (re2_u2) (by omega)) (by omega)) (by omega)
  have re3_W5 : (((u2.setCell ⟨(w.heap.size + 2), 2, none⟩ (.slice (some ⟨i, 0, none⟩) nl nl)).setCell ⟨(w.heap.size + 2), 3, none⟩ (.int .i64 T)).setCell ⟨(w.heap.size + 2), 4, none⟩ (.int .i64 N)).cell? ⟨(w.heap.size + 1), 3, none⟩ = some (.int .i64 0) := cell_set1 (cell_set1 (cell_set1 (re3_u2) (by omega)) (by omega)) (by omega)
  have re4_W5 : (((u2.setCell ⟨(w.heap.size + 2), 2, none⟩ (.slice (some ⟨i, 0, none⟩) nl nl)).setCell ⟨(w.heap.size + 2), 3, none⟩ (.int .i64 T)).setCell ⟨(w.heap.size + 2), 4, none⟩ (.int .i64 N)).cell? ⟨(w.heap.size + 1), 4, none⟩ = some (.int .i64 0) := cell_set1 (cell_set1 (cell_set1 (re4_u2) (by omega)) (by omega)) (by omega)
  have re5_W5 : (((u2.setCell ⟨(w.heap.size + 2), 2, none⟩ (.slice (some ⟨i, 0, none⟩) nl nl)).setCell ⟨(w.heap.size + 2), 3, none⟩ (.int .i64 T)).setCell ⟨(w.heap.size + 2), 4, none⟩ (.int .i64 N)).cell? ⟨(w.heap.size + 1), 5, none⟩ = some (.slice none 0 0) := cell_set1 (cell_set1 (cell_set1 (re5_u2) (by omega)) (by omega)) (by omega)
  have re6_W5 : (((u2.setCell ⟨(w.heap.size + 2), 2, none⟩ (.slice (some ⟨i, 0, none⟩) nl nl)).setCell ⟨(w.heap.size + 2), 3, none⟩ (.int .i64 T)).setCell ⟨(w.heap.size + 2), 4, none⟩ (.int .i64 N)).cell? ⟨(w.heap.size + 1), 6, none⟩ = some (.int .i64 0) := cell_set1 (cell_set1 (cell_set1 (re6_u2) (by omega)) (by omega)) (by omega)
  have re7_W5 : (((u2.setCell ⟨(w.heap.size + 2), 2, none⟩ (.slice (some ⟨i, 0, none⟩) nl nl)).setCell ⟨(w.heap.size + 2), 3, none⟩ (.int .i64 T)).setCell ⟨(w.heap.size + 2), 4, none⟩ (.int .i64 N)).cell? ⟨(w.heap.size + 1), 7, none⟩ = some (.int .i64 0) := cell_set1 (cell_set1 (cell_set1 (re7_u2) (by omega)) (by omega)) (by omega)
  have reF_W5 : ∀ o, (((u2.setCell ⟨(w.heap.size + 2), 2, none⟩ (.slice (some ⟨i, 0, none⟩) nl nl)).setCell ⟨(w.heap.size + 2), 3, none⟩ (.int .i64 T)).setCell ⟨(w.heap.size + 2), 4, none⟩ (.int .i64 N)).frozen? ⟨(w.heap.size + 1), o, none⟩ = false := fun o => frz_set1 (frz_set1 (frz_set1 ((reF_u2 o))))
  have reL_W5 : (w.heap.size + 1) < (((u2.setCell ⟨(w.heap.size + 2), 2, none⟩ (.slice (some ⟨i, 0, none⟩) nl nl)).setCell ⟨(w.heap.size + 2), 3, none⟩ (.int .i64 T)).setCell ⟨(w.heap.size + 2), 4, none⟩ (.int .i64 N)).heap.size := by simpa using reL_u2
  have ouF_W5 : ∀ o, (((u2.setCell ⟨(w.heap.size + 2), 2, none⟩ (.slice (some ⟨i, 0, none⟩) nl nl)).setCell ⟨(w.heap.size + 2), 3, none⟩ (.int .i64 T)).setCell ⟨(w.heap.size + 2), 4, none⟩ (.int .i64 N)).frozen? ⟨(w.heap.size + 2), o, none⟩ = false := fun o => frz_set1 (frz_set1 (frz_set1 ((ouF_u2 o))))
  have ouL_W5 : (w.heap.size + 2) < (((u2.setCell ⟨(w.heap.size + 2), 2, none⟩ (.slice (some ⟨i, 0, none⟩) nl nl)).setCell ⟨(w.heap.size + 2), 3, none⟩ (.int .i64 T)).setCell ⟨(w.heap.size + 2), 4, none⟩ (.int .i64 N)).heap.size := by simpa using ouL_u2
  have oG_W5 : Hid (OwnG KPl 68 (((u2.setCell ⟨(w.heap.size + 2), 2, none⟩ (.slice (some ⟨i, 0, none⟩) nl nl)).setCell ⟨(w.heap.size + 2), 3, none⟩ (.int .i64 T)).setCell ⟨(w.heap.size + 2), 4, none⟩ (.int .i64 N)) (w.heap.size + 3) (.slice (some ⟨g, 0, none⟩) np np) (ps)) := hidP (OwnG.grown (OwnG.grown (OwnG.grown (oG_u2.out) (grown_cellG _ _ _ _) (OwnG.ne_of oG_u2.out (by omega))) (grown_cellG _ _ _ _) (OwnG.ne_of oG_u2.out (by omega))) (grown_cellG _ _ _ _) (OwnG.ne_of oG_u2.out (by omega)))
  have oH_W5 : Hid (OwnG KBk 71 (((u2.setCell ⟨(w.heap.size + 2), 2, none⟩ (.slice (some ⟨i, 0, none⟩) nl nl)).setCell ⟨(w.heap.size + 2), 3, none⟩ (.int .i64 T)).setCell ⟨(w.heap.size + 2), 4, none⟩ (.int .i64 N)) (w.heap.size + 3) (.slice (some ⟨h, 0, none⟩) nb nb) (bs)) := hidP (OwnG.grown (OwnG.grown (OwnG.grown (oH_u2.out) (grown_cellG _ _ _ _) (OwnG.ne_of oH_u2.out (by omega))) (grown_cellG _ _ _ _) (OwnG.ne_of oH_u2.out (by omega))) (grown_cellG _ _ _ _) (OwnG.ne_of oH_u2.out (by omega)))
  have oI_W5 : Hid (OwnG KLs 74 (((u2.setCell ⟨(w.heap.size + 2), 2, none⟩ (.slice (some ⟨i, 0, none⟩) nl nl)).setCell ⟨(w.heap.size + 2), 3, none⟩ (.int .i64 T)).setCell ⟨(w.heap.size + 2), 4, none⟩ (.int .i64 N)) (w.heap.size + 3) (.slice (some ⟨i, 0, none⟩) nl nl) (ls)) := hidP (OwnG.grown (OwnG.grown (OwnG.grown (oI_u2.out) (grown_cellG _ _ _ _) (OwnG.ne_of oI_u2.out (by omega))) (grown_cellG _ _ _ _) (OwnG.ne_of oI_u2.out (by omega))) (grown_cellG _ _ _ _) (OwnG.ne_of oI_u2.out (by omega)))
  have acc_W5 : Hid (Below w.heap.size w (((u2.setCell ⟨(w.heap.size + 2), 2, none⟩ (.slice (some ⟨i, 0, none⟩) nl nl)).setCell ⟨(w.heap.size + 2), 3, none⟩ (.int .i64 T)).setCell ⟨(w.heap.size + 2), 4, none⟩ (.int .i64 N))) := hidP (Below.setCell (Below.setCell (Below.setCell (acc_u2.out) (by try dsimp only; omega) _) (by try dsimp only; omega) _) (by try dsimp only; omega) _)
  have sz_W5 : Hid ((((u2.setCell ⟨(w.heap.size + 2), 2, none⟩ (.slice (some ⟨i, 0, none⟩) nl nl)).setCell ⟨(w.heap.size + 2), 3, none⟩ (.int .i64 T)).setCell ⟨(w.heap.size + 2), 4, none⟩ (.int .i64 N)).heap.size = u2.heap.size) := hidP (by simp)
  generalize ((u2.setCell ⟨(w.heap.size + 2), 2, none⟩ (.slice (some ⟨i, 0, none⟩) nl nl)).setCell ⟨(w.heap.size + 2), 3, none⟩ (.int .i64 T)).setCell ⟨(w.heap.size + 2), 4, none⟩ (.int .i64 N) = W5 at *
  clear ou0_u2 ou1_u2 ou2_u2 ou3_u2 ou4_u2 ou5_u2 ou6_u2 ou7_u2 la0_u2 la1_u2 la2_u2 la3_u2 la4_u2 la5_u2 la6_u2 la7_u2 laF_u2 laL_u2 re0_u2 re1_u2 re2_u2 re3_u2 re4_u2 re5_u2 re6_u2 re7_u2 reF_u2 reL_u2 ouF_u2 ouL_u2 oG_u2 oH_u2 oI_u2 acc_u2
  refine (HD.out _ acc_W5.out).mono ?_
  rintro e u3 ⟨j, rfl, oj, hb3⟩
  have HG3 : Hid (W5.heap.size ≤ j) := hidP (OwnG.lt oj j rfl).1
  have OJ := hidP oj
  clear oj
  have la0_u3 := (hb3.cell laL_W5).trans la0_W5
  have la1_u3 := (hb3.cell laL_W5).trans la1_W5
  have la2_u3 := (hb3.cell laL_W5).trans la2_W5
  have la3_u3 := (hb3.cell laL_W5).trans la3_W5
  have la4_u3 := (hb3.cell laL_W5).trans la4_W5
  have la5_u3 := (hb3.cell laL_W5).trans la5_W5
  have la6_u3 := (hb3.cell laL_W5).trans la6_W5
  have la7_u3 := (hb3.cell laL_W5).trans la7_W5
  have laF_u3 : ∀ o, u3.frozen? ⟨w.heap.size, o, none⟩ = false := fun o => (hb3.frozen laL_W5).trans (laF_W5 o)
  have laL_u3 : w.heap.size < u3.heap.size := Nat.lt_of_lt_of_le laL_W5 hb3.size
  have re0_u3 := (hb3.cell reL_W5).trans re0_W5
  have re1_u3 := (hb3.cell reL_W5).trans re1_W5
  have re2_u3 := (hb3.cell reL_W5).trans re2_W5
  have re3_u3 := (hb3.cell reL_W5).trans re3_W5
  have re4_u3 := (hb3.cell reL_W5).trans re4_W5
  have re5_u3 := (hb3.cell reL_W5).trans re5_W5
  have re6_u3 := (hb3.cell reL_W5).trans re6_W5
  have re7_u3 := (hb3.cell reL_W5).trans re7_W5
  have reF_u3 : ∀ o, u3.frozen? ⟨(w.heap.size + 1), o, none⟩ = false := fun o => (hb3.frozen reL_W5).trans (reF_W5 o)
  have reL_u3 : (w.heap.size + 1) < u3.heap.size := Nat.lt_of_lt_of_le reL_W5 hb3.size
  have ou0_u3 := (hb3.cell ouL_W5).trans ou0_W5
  have ou1_u3 := (hb3.cell ouL_W5).trans ou1_W5
  have ou2_u3 := (hb3.cell ouL_W5).trans ou2_W5
  have ou3_u3 := (hb3.cell ouL_W5).trans ou3_W5
  have ou4_u3 := (hb3.cell ouL_W5).trans ou4_W5
  have ou5_u3 := (hb3.cell ouL_W5).trans ou5_W5
  have ou6_u3 := (hb3.cell ouL_W5).trans ou6_W5
  have ou7_u3 := (hb3.cell ouL_W5).trans ou7_W5
  have ouF_u3 : ∀ o, u3.frozen? ⟨(w.heap.size + 2), o, none⟩ = false := fun o => (hb3.frozen ouL_W5).trans (ouF_W5 o)
  have ouL_u3 : (w.heap.size + 2) < u3.heap.size := Nat.lt_of_lt_of_le ouL_W5 hb3.size
  have oG_u3 := hidP (OwnG.later oG_W5.out hb3)
  have oH_u3 := hidP (OwnG.later oH_W5.out hb3)
  have oI_u3 := hidP (OwnG.later oI_W5.out hb3)
  have acc_u3 := hidP (acc_W5.out.trans (hb3.mono acc_W5.out.size))
  have sz_u3 : Hid (W5.heap.size ≤ u3.heap.size) := hidP hb3.size
  clear hb3 la0_W5 la1_W5 la2_W5 la3_W5 la4_W5 la5_W5 la6_W5 la7_W5 laF_W5 laL_W5 re0_W5 re1_W5 re2_W5 re3_W5 re4_W5 re5_W5 re6_W5 re7_W5 reF_W5 reL_W5 ou0_W5 ou1_W5 ou2_W5 ou3_W5 ou4_W5 ou5_W5 ou6_W5 ou7_W5 ouF_W5 ouL_W5 oG_W5 oH_W5 oI_W5 acc_W5
  have oJ_u3 := hidP (OJ.out.mono (B' := w.heap.size + 3) (by have := as_W1.out; have := sz_W1.out; have := as_W2.out; have := sz_W2.out; have := as_W3.out; have := sz_W3.out; have := Wz.out; have := sz_u1.out; have := sz_W4.out; have := sz_u2.out; have := sz_W5.out; have := sz_u3.out; omega))
  clear OJ
  have HAp : Hid (Apart g h i j) := hidP (by have h1 := HG1.out; have h2 := HG2.out; have h3 := HG3.out; unfold Apart; have := as_W1.out; have := sz_W1.out; have := as_W2.out; have := sz_W2.out; have := as_W3.out; have := sz_W3.out; have := Wz.out; have := sz_u1.out; have := sz_W4.out; have := sz_u2.out; have := sz_W5.out; have := sz_u3.out; omega)
  clear HG1 HG2 HG3
  go_wp2_with fail
  have ou0_W6 : (((u3.setCell ⟨(w.heap.size + 2), 5, none⟩ (.slice (some ⟨j, 0, none⟩) ns ns)).setCell ⟨(w.heap.size + 2), 6, none⟩ (.int .i64 X)).setCell ⟨(w.heap.size + 2), 7, none⟩ (.int .i64 C)).cell? ⟨(w.heap.size + 2), 0, none⟩ = some (.slice (some ⟨g, 0, none⟩) np np) := by simp [go_sem, ou0_u3]
  have ou1_W6 : (((u3.setCell ⟨(w.heap.size + 2), 5, none⟩ (.slice (some ⟨j, 0, none⟩) ns ns)).setCell ⟨(w.heap.size + 2), 6, none⟩ (.int .i64 X)).setCell ⟨(w.heap.size + 2), 7, none⟩ (.int .i64 C)).cell? ⟨(w.heap.size + 2), 1, none⟩ = some (.slice (some ⟨h, 0, none⟩) nb nb) := by simp [go_sem, ou1_u3]
  have ou2_W6 : (((u3.setCell ⟨(w.heap.size + 2), 5, none⟩ (.slice (some ⟨j, 0, none⟩) ns ns)).setCell ⟨(w.heap.size + 2), 6, none⟩ (.int .i64 X)).setCell ⟨(w.heap.size + 2), 7, none⟩ (.int .i64 C)).cell? ⟨(w.heap.size + 2), 2, none⟩ = some (.slice (some ⟨i, 0, none⟩) nl nl) := by simp [go_sem, ou2_u3]
  have ou3_W6 : (((u3.setCell ⟨(w.heap.size + 2), 5, none⟩ (.slice (some ⟨j, 0, none⟩) ns ns)).setCell ⟨(w.heap.size + 2), 6, none⟩ (.int .i64 X)).setCell ⟨(w.heap.size + 2), 7, none⟩ (.int .i64 C)).cell? ⟨(w.heap.size + 2), 3, none⟩ = some (.int .i64 T) := by simp [go_sem, ou3_u3]
  have ou4_W6 : (((u3.setCell ⟨(w.heap.size + 2), 5, none⟩ (.slice (some ⟨j, 0, none⟩) ns ns)).setCell ⟨(w.heap.size + 2), 6, none⟩ (.int .i64 X)).setCell ⟨(w.heap.size + 2), 7, none⟩ (.int .i64 C)).cell? ⟨(w.heap.size + 2), 4, none⟩ = some (.int .i64 N) := by simp [go_sem, ou4_u3]
  have ou5_W6 : (((u3.setCell ⟨(w.heap.size + 2), 5, none⟩ (.slice (some ⟨j, 0, none⟩) ns ns)).setCell ⟨(w.heap.size + 2), 6, none⟩ (.int .i64 X)).setCell ⟨(w.heap.size + 2), 7, none⟩ (.int .i64 C)).cell? ⟨(w.heap.size + 2), 5, none⟩ = some (.slice (some ⟨j, 0, none⟩) ns ns) := by simp [go_sem, ou5_u3]
  have ou6_W6 : (((u3.setCell ⟨(w.heap.size + 2), 5, none⟩ (.slice (some ⟨j, 0, none⟩) ns ns)).setCell ⟨(w.heap.size + 2), 6, none⟩ (.int .i64 X)).setCell ⟨(w.heap.size + 2), 7, none⟩ (.int .i64 C)).cell? ⟨(w.heap.size + 2), 6, none⟩ = some (.int .i64 X) := by simp [go_sem, ou6_u3]
  have ou7_W6 : (((u3.setCell ⟨(w.heap.size + 2), 5, none⟩ (.slice (some ⟨j, 0, none⟩) ns ns)).setCell ⟨(w.heap.size + 2), 6, none⟩ (.int .i64 X)).setCell ⟨(w.heap.size + 2), 7, none⟩ (.int .i64 C)).cell? ⟨(w.heap.size + 2), 7, none⟩ = some (.int .i64 C) := by simp [go_sem, ou7_u3]
  have la0_W6 : (((u3.setCell ⟨(w.heap.size + 2), 5, none⟩ (.slice (some ⟨j, 0, none⟩) ns ns)).setCell ⟨(w.heap.size + 2), 6, none⟩ (.int .i64 X)).setCell ⟨(w.heap.size + 2), 7, none⟩ (.int .i64 C)).cell? ⟨w.heap.size, 0, none⟩ = some (.slice ap np cp) := cell_set1 (cell_set1 (cell_set1 (la0_u3) (by omega)) (by omega)) (by omega)
  have la1_W6 : (((u3.setCell ⟨(w.heap.size + 2), 5, none⟩ (.slice (some ⟨j, 0, none⟩) ns ns)).setCell ⟨(w.heap.size + 2), 6, none⟩ (.int .i64 X)).setCell ⟨(w.heap.size + 2), 7, none⟩ (.int .i64 C)).cell? ⟨w.heap.size, 1, none⟩ = some (.slice ab nb cb) := cell_set1 (cell_set1 (cell_set1 (la1_u3) (by omega)) (by omega)) (by omega)
  have la2_W6 : (((u3.setCell ⟨(w.heap.size + 2), 5, none⟩ (.slice (some ⟨j, 0, none⟩) ns ns)).setCell ⟨(w.heap.size + 2), 6, none⟩ (.int .i64 X)).setCell ⟨(w.heap.size + 2), 7, none⟩ (.int .i64 C)).cell? ⟨w.heap.size, 2, none⟩ = some (.slice al nl cl) := cell_set1 (cell_set1 (cell_set1 (la2_u3) (by omega)) (by omega)) (by omega)
  have la3_W6 : (((u3.setCell ⟨(w.heap.size + 2), 5, none⟩ (.slice (some ⟨j, 0, none⟩) ns ns)).setCell ⟨(w.heap.size + 2), 6, none⟩ (.int .i64 X)).setCell ⟨(w.heap.size + 2), 7, none⟩ (.int .i64 C)).cell? ⟨w.heap.size, 3, none⟩ = some (.int .i64 T) := cell_set1 (cell_set1 (cell_set1 (la3_u3) (by omega)) (by omega)) (by omega)
  have la4_W6 : (((u3.setCell ⟨(w.heap.size + 2), 5, none⟩ (.slice (some ⟨j, 0, none⟩) ns ns)).setCell ⟨(w.heap.size + 2), 6, none⟩ (.int .i64 X)).setCell ⟨(w.heap.size + 2), 7, none⟩ (.int .i64 C)).cell? ⟨w.heap.size, 4, none⟩ = some (.int .i64 N) := cell_set1 (cell_set1 (cell_set1 (la4_u3) (by omega)) (by omega)) (by omega)
  have la5_W6 : (((u3.setCell ⟨(w.heap.size + 2), 5, none⟩ (.slice (some ⟨j, 0, none⟩) ns ns)).setCell ⟨(w.heap.size + 2), 6, none⟩ (.int .i64 X)).setCell ⟨(w.heap.size + 2), 7, none⟩ (.int .i64 C)).cell? ⟨w.heap.size, 5, none⟩ = some (.slice aS ns cs) := cell_set1 (cell_set1 (cell_set1 (la5_u3) (by omega)) (by omega)) (by omega)
  have la6_W6 : (((u3.setCell ⟨(w.heap.size + 2), 5, none⟩ (.slice (some ⟨j, 0, none⟩) ns ns)).setCell ⟨(w.heap.size + 2), 6, none⟩ (.int .i64 X)).setCell ⟨(w.heap.size + 2), 7, none⟩ (.int .i64 C)).cell? ⟨w.heap.size, 6, none⟩ = some (.int .i64 X) := cell_set1 (cell_set1 (cell_set1 (la6_u3) (by omega)) (by omega)) (by omega)
  have la7_W6 : (((u3.setCell ⟨(w.heap.size + 2), 5, none⟩ (.slice (some ⟨j, 0, none⟩) ns ns)).setCell ⟨(w.heap.size + 2), 6, none⟩ (.int .i64 X)).setCell ⟨(w.heap.size + 2), 7, none⟩ (.int .i64 C)).cell? ⟨w.heap.size, 7, none⟩ = some (.int .i64 C) := cell_set1 (cell_set1 (cell_set1 (la7_u3) (by omega)) (by omega)) (by omega)
  have laF_W6 : ∀ o, (((u3.setCell ⟨(w.heap.size + 2), 5, none⟩ (.slice (some ⟨j, 0, none⟩) ns ns)).setCell ⟨(w.heap.size + 2), 6, none⟩ (.int .i64 X)).setCell ⟨(w.heap.size + 2), 7, none⟩ (.int .i64 C)).frozen? ⟨w.heap.size, o, none⟩ = false := fun o => frz_set1 (frz_set1 (frz_set1 ((laF_u3 o))))
  have laL_W6 : w.heap.size < (((u3.setCell ⟨(w.heap.size + 2), 5, none⟩ (.slice (some ⟨j, 0, none⟩) ns ns)).setCell ⟨(w.heap.size + 2), 6, none⟩ (.int .i64 X)).setCell ⟨(w.heap.size + 2), 7, none⟩ (.int .i64 C)).heap.size := by simpa using laL_u3
  have re0_W6 : (((u3.setCell ⟨(w.heap.size + 2), 5, none⟩ (.slice (some ⟨j, 0, none⟩) ns ns)).setCell ⟨(w.heap.size + 2), 6, none⟩ (.int .i64 X)).setCell ⟨(w.heap.size + 2), 7, none⟩ (.int .i64 C)).cell? ⟨(w.heap.size + 1), 0, none⟩ = some (.slice none 0 0) := cell_set1 (cell_set1 (cell_set1 (re0_u3) (by omega)) (by omega)) (by omega)
  have re1_W6 : (((u3.setCell ⟨(w.heap.size + 2), 5, none⟩ (.slice (some ⟨j, 0, none⟩) ns ns)).setCell ⟨(w.heap.size + 2), 6, none⟩ (.int .i64 X)).setCell ⟨(w.heap.size + 2), 7, none⟩ (.int .i64 C)).cell? ⟨(w.heap.size + 1), 1, none⟩ = some (.slice none 0 0) := cell_set1 (cell_set1 (cell_set1 (re1_u3) (by omega)) (by omega)) (by omega)
  have re2_W6 : (((u3.setCell ⟨(w.heap.size + 2), 5, none⟩ (.slice (some ⟨j, 0, none⟩) ns ns)).setCell ⟨(w.heap.size + 2), 6, none⟩ (.int .i64 X)).setCell ⟨(w.heap.size + 2), 7, none⟩ (.int .i64 C)).cell? ⟨(w.heap.size + 1), 2, none⟩ = some (.slice none 0 0) := cell_set1 (cell_set1 (cell_set1 (re2_u3) (by omega)) (by omega)) (by omega)
  have re3_W6 : (((u3.setCell ⟨(w.heap.size + 2), 5, none⟩ (.slice (some ⟨j, 0, none⟩) ns ns)).setCell ⟨(w.heap.size + 2), 6, none⟩ (.int .i64 X)).setCell ⟨(w.heap.size + 2), 7, none⟩ (.int .i64 C)).cell? ⟨(w.heap.size + 1), 3, none⟩ = some (.int .i64 0) := cell_set1 (cell_set1 (cell_set1 (re3_u3) (by omega)) (by omega)) (by omega)
  have re4_W6 : (((u3.setCell ⟨(w.heap.size + 2), 5, none⟩ (.slice (some ⟨j, 0, none⟩) ns ns)).setCell ⟨(w.heap.size + 2), 6, none⟩ (.int .i64 X)).setCell ⟨(w.heap.size + 2), 7, none⟩ (.int .i64 C)).cell? ⟨(w.heap.size + 1), 4, none⟩ = some (.int .i64 0) := cell_set1 (cell_set1 (cell_set1 (re4_u3) (by omega)) (by omega)) (by omega)
  have re5_W6 : (((u3.setCell ⟨(w.heap.size + 2), 5, none⟩ (.slice (some ⟨j, 0, none⟩) ns ns)).setCell ⟨(w.heap.size + 2), 6, none⟩ (.int .i64 X)).setCell ⟨(w.heap.size + 2), 7, none⟩ (.int .i64 C)).cell? ⟨(w.heap.size + 1), 5, none⟩ = some (.slice none 0 0) := cell_set1 (cell_set1 (cell_set1 (re5_u3) (by omega)) (by omega)) (by omega)
  have re6_W6 : (((u3.setCell ⟨(w.heap.size + 2), 5, none⟩ (.slice (some ⟨j, 0, none⟩) ns ns)).setCell ⟨(w.heap.size + 2), 6, none⟩ (.int .i64 X)).setCell ⟨(w.heap.size + 2), 7, none⟩ (.int .i64 C)).cell? ⟨(w.heap.size + 1), 6, none⟩ = some (.int .i64 0) := cell_set1 (cell_set1 (cell_set1 (re6_u3) (by omega)) (by omega)) (by omega)
  have re7_W6 : (((u3.setCell ⟨(w.heap.size + 2), 5, none⟩ (.slice (some ⟨j, 0, none⟩) ns ns)).setCell ⟨(w.heap.size + 2), 6, none⟩ (.int .i64 X)).setCell ⟨(w.heap.size + 2), 7, none⟩ (.int .i64 C)).cell? ⟨(w.heap.size + 1), 7, none⟩ = some (.int .i64 0) := cell_set1 (cell_set1 (cell_set1 (re7_u3) (by omega)) (by omega)) (by omega)
  have reF_W6 : ∀ o, (((u3.setCell ⟨(w.heap.size + 2), 5, none⟩ (.slice (some ⟨j, 0, none⟩) ns ns)).setCell ⟨(w.heap.size + 2), 6, none⟩ (.int .i64 X)).setCell ⟨(w.heap.size + 2), 7, none⟩ (.int .i64 C)).frozen? ⟨(w.heap.size + 1), o, none⟩ = false := fun o => frz_set1 (frz_set1 (frz_set1 ((reF_u3 o))))
  have reL_W6 : (w.heap.size + 1) < (((u3.setCell ⟨(w.heap.size + 2), 5, none⟩ (.slice (some ⟨j, 0, none⟩) ns ns)).setCell ⟨(w.heap.size + 2), 6, none⟩ (.int .i64 X)).setCell ⟨(w.heap.size + 2), 7, none⟩ (.int .i64 C)).heap.size := by simpa using reL_u3
  have ouF_W6 : ∀ o, (((u3.setCell ⟨(w.heap.size + 2), 5, none⟩ (.slice (some ⟨j, 0, none⟩) ns ns)).setCell ⟨(w.heap.size + 2), 6, none⟩ (.int .i64 X)).setCell ⟨(w.heap.size + 2), 7, none⟩ (.int .i64 C)).frozen? ⟨(w.heap.size + 2), o, none⟩ = false := fun o => frz_set1 (frz_set1 (frz_set1 ((ouF_u3 o))))
  have ouL_W6 : (w.heap.size + 2) < (((u3.setCell ⟨(w.heap.size + 2), 5, none⟩ (.slice (some ⟨j, 0, none⟩) ns ns)).setCell ⟨(w.heap.size + 2), 6, none⟩ (.int .i64 X)).setCell ⟨(w.heap.size + 2), 7, none⟩ (.int .i64 C)).heap.size := by simpa using ouL_u3
  have oG_W6 : Hid (OwnG KPl 68 (((u3.setCell ⟨(w.heap.size + 2), 5, none⟩ (.slice (some ⟨j, 0, none⟩) ns ns)).setCell ⟨(w.heap.size + 2), 6, none⟩ (.int .i64 X)).setCell ⟨(w.heap.size + 2), 7, none⟩ (.int .i64 C)) (w.heap.size + 3) (.slice (some ⟨g, 0, none⟩) np np) (ps)) := hidP (OwnG.grown (OwnG.grown (OwnG.grown (oG_u3.out) (grown_cellG _ _ _ _) (OwnG.ne_of oG_u3.out (by omega))) (grown_cellG _ _ _ _) (OwnG.ne_of oG_u3.out (by omega))) (grown_cellG _ _ _ _) (OwnG.ne_of oG_u3.out (by omega)))
  have oH_W6 : Hid (OwnG KBk 71 (((u3.setCell ⟨(w.heap.size + 2), 5, none⟩ (.slice (some ⟨j, 0, none⟩) ns ns)).setCell ⟨(w.heap.size + 2), 6, none⟩ (.int .i64 X)).setCell ⟨(w.heap.size + 2), 7, none⟩ (.int .i64 C)) (w.heap.size + 3) (.slice (some ⟨h, 0, none⟩) nb nb) (bs)) := hidP (OwnG.grown (OwnG.grown (OwnG.grown (oH_u3.out) (grown_cellG _ _ _ _) (OwnG.ne_of oH_u3.out (by omega))) (grown_cellG _ _ _ _) (OwnG.ne_of oH_u3.out (by omega))) (grown_cellG _ _ _ _) (OwnG.ne_of oH_u3.out (by omega)))
  have oI_W6 : Hid (OwnG KLs 74 (((u3.setCell ⟨(w.heap.size + 2), 5, none⟩ (.slice (some ⟨j, 0, none⟩) ns ns)).setCell ⟨(w.heap.size + 2), 6, none⟩ (.int .i64 X)).setCell ⟨(w.heap.size + 2), 7, none⟩ (.int .i64 C)) (w.heap.size + 3) (.slice (some ⟨i, 0, none⟩) nl nl) (ls)) := hidP (OwnG.grown (OwnG.grown (OwnG.grown (oI_u3.out) (grown_cellG _ _ _ _) (OwnG.ne_of oI_u3.out (by omega))) (grown_cellG _ _ _ _) (OwnG.ne_of oI_u3.out (by omega))) (grown_cellG _ _ _ _) (OwnG.ne_of oI_u3.out (by omega)))
  have oJ_W6 : Hid (OwnG KSs 77 (((u3.setCell ⟨(w.heap.size + 2), 5, none⟩ (.slice (some ⟨j, 0, none⟩) ns ns)).setCell ⟨(w.heap.size + 2), 6, none⟩ (.int .i64 X)).setCell ⟨(w.heap.size + 2), 7, none⟩ (.int .i64 C)) (w.heap.size + 3) (.slice (some ⟨j, 0, none⟩) ns ns) (ss)) := hidP (OwnG.grown (OwnG.grown (OwnG.grown (oJ_u3.out) (grown_cellG _ _ _ _) (OwnG.ne_of oJ_u3.out (by omega))) (grown_cellG _ _ _ _) (OwnG.ne_of oJ_u3.out (by omega))) (grown_cellG _ _ _ _) (OwnG.ne_of oJ_u3.out (by omega)))
  have acc_W6 : Hid (Below w.heap.size w (((u3.setCell ⟨(w.heap.size + 2), 5, none⟩ (.slice (some ⟨j, 0, none⟩) ns ns)).setCell ⟨(w.heap.size + 2), 6, none⟩ (.int .i64 X)).setCell ⟨(w.heap.size + 2), 7, none⟩ (.int .i64 C))) := hidP (Below.setCell (Below.setCell (Below.setCell (acc_u3.out) (by try dsimp only; omega) _) (by try dsimp only; omega) _) (by try dsimp only; omega) _)
  have sz_W6 : Hid ((((u3.setCell ⟨(w.heap.size + 2), 5, none⟩ (.slice (some ⟨j, 0, none⟩) ns ns)).setCell ⟨(w.heap.size + 2), 6, none⟩ (.int .i64 X)).setCell ⟨(w.heap.size + 2), 7, none⟩ (.int .i64 C)).heap.size = u3.heap.size) := hidP (by simp)
  generalize ((u3.setCell ⟨(w.heap.size + 2), 5, none⟩ (.slice (some ⟨j, 0, none⟩) ns ns)).setCell ⟨(w.heap.size + 2), 6, none⟩ (.int .i64 X)).setCell ⟨(w.heap.size + 2), 7, none⟩ (.int .i64 C) = W6 at *
  clear ou0_u3 ou1_u3 ou2_u3 ou3_u3 ou4_u3 ou5_u3 ou6_u3 ou7_u3 la0_u3 la1_u3 la2_u3 la3_u3 la4_u3 la5_u3 la6_u3 la7_u3 laF_u3 laL_u3 re0_u3 re1_u3 re2_u3 re3_u3 re4_u3 re5_u3 re6_u3 re7_u3 reF_u3 reL_u3 ouF_u3 ouL_u3 oG_u3 oH_u3 oI_u3 oJ_u3 acc_u3
  clear la0_W6 la1_W6 la2_W6 la3_W6 la4_W6 la5_W6 la6_W6 la7_W6 laF_W6 laL_W6
  clear ou0_W6 ou1_W6 ou2_W6 ou3_W6 ou4_W6 ou5_W6 ou6_W6 ou7_W6 ouF_W6 ouL_W6
  have re0_W7 : ((((((((W6.setCell ⟨(w.heap.size + 1), 0, none⟩ (.slice (some ⟨g, 0, none⟩) np np)).setCell ⟨(w.heap.size + 1), 1, none⟩ (.slice (some ⟨h, 0, none⟩) nb nb)).setCell ⟨(w.heap.size + 1), 2, none⟩ (.slice (some ⟨i, 0, none⟩) nl nl)).setCell ⟨(w.heap.size + 1), 3, none⟩ (.int .i64 T)).setCell ⟨(w.heap.size + 1), 4, none⟩ (.int .i64 N)).setCell ⟨(w.heap.size + 1), 5, none⟩ (.slice (some ⟨j, 0, none⟩) ns ns)).setCell ⟨(w.heap.size + 1), 6, none⟩ (.int .i64 X)).setCell ⟨(w.heap.size + 1), 7, none⟩ (.int .i64 C)).cell? ⟨(w.heap.size + 1), 0, none⟩ = some (.slice (some ⟨g, 0, none⟩) np np) := by simp [go_sem, re0_W6]
  have re1_W7 : ((((((((W6.setCell ⟨(w.heap.size + 1), 0, none⟩ (.slice (some ⟨g, 0, none⟩) np np)).setCell ⟨(w.heap.size + 1), 1, none⟩ (.slice (some ⟨h, 0, none⟩) nb nb)).setCell ⟨(w.heap.size + 1), 2, none⟩ (.slice (some ⟨i, 0, none⟩) nl nl)).setCell ⟨(w.heap.size + 1), 3, none⟩ (.int .i64 T)).setCell ⟨(w.heap.size + 1), 4, none⟩ (.int .i64 N)).setCell ⟨(w.heap.size + 1), 5, none⟩ (.slice (some ⟨j, 0, none⟩) ns ns)).setCell ⟨(w.heap.size + 1), 6, none⟩ (.int .i64 X)).setCell ⟨(w.heap.size + 1), 7, none⟩ (.int .i64 C)).cell? ⟨(w.heap.size + 1), 1, none⟩ = some (.slice (some ⟨h, 0, none⟩) nb nb) := by simp [go_sem, re1_W6]
  have re2_W7 : ((((((((W6.setCell ⟨(w.heap.size + 1), 0, none⟩ (.slice (some ⟨g, 0, none⟩) np np)).setCell ⟨(w.heap.size + 1), 1, none⟩ (.slice (some ⟨h, 0, none⟩) nb nb)).setCell ⟨(w.heap.size + 1), 2, none⟩ (.slice (some ⟨i, 0, none⟩) nl nl)).setCell ⟨(w.heap.size + 1), 3, none⟩ (.int .i64 T)).setCell ⟨(w.heap.size + 1), 4, none⟩ (.int .i64 N)).setCell ⟨(w.heap.size + 1), 5, none⟩ (.slice (some ⟨j, 0, none⟩) ns ns)).setCell ⟨(w.heap.size + 1), 6, none⟩ (.int .i64 X)).setCell ⟨(w.heap.size + 1), 7, none⟩ (.int .i64 C)).cell? ⟨(w.heap.size + 1), 2, none⟩ = some (.slice (some ⟨i, 0, none⟩) nl nl) := by simp [go_sem, re2_W6]
  have re3_W7 : ((((((((W6.setCell ⟨(w.heap.size + 1), 0, none⟩ (.slice (some ⟨g, 0, none⟩) np np)).setCell ⟨(w.heap.size + 1), 1, none⟩ (.slice (some ⟨h, 0, none⟩) nb nb)).setCell ⟨(w.heap.size + 1), 2, none⟩ (.slice (some ⟨i, 0, none⟩) nl nl)).setCell ⟨(w.heap.size + 1), 3, none⟩ (.int .i64 T)).setCell ⟨(w.heap.size + 1), 4, none⟩ (.int .i64 N)).setCell ⟨(w.heap.size + 1), 5, none⟩ (.slice (some ⟨j, 0, none⟩) ns ns)).setCell ⟨(w.heap.size + 1), 6, none⟩ (.int .i64 X)).setCell ⟨(w.heap.size + 1), 7, none⟩ (.int .i64 C)).cell? ⟨(w.heap.size + 1), 3, none⟩ = some (.int .i64 T) := by simp [go_sem, re3_W6]
  have re4_W7 : ((((((((W6.setCell ⟨(w.heap.size + 1), 0, none⟩ (.slice (some ⟨g, 0, none⟩) np np)).setCell ⟨(w.heap.size + 1), 1, none⟩ (.slice (some ⟨h, 0, none⟩) nb nb)).setCell ⟨(w.heap.size + 1), 2, none⟩ (.slice (some ⟨i, 0, none⟩) nl nl)).setCell ⟨(w.heap.size + 1), 3, none⟩ (.int .i64 T)).setCell ⟨(w.heap.size + 1), 4, none⟩ (.int .i64 N)).setCell ⟨(w.heap.size + 1), 5, none⟩ (.slice (some ⟨j, 0, none⟩) ns ns)).setCell ⟨(w.heap.size + 1), 6, none⟩ (.int .i64 X)).setCell ⟨(w.heap.size + 1), 7, none⟩ (.int .i64 C)).cell? ⟨(w.heap.size + 1), 4, none⟩ = some (.int .i64 N) := by simp [go_sem, re4_W6]
  have re5_W7 : ((((((((W6.setCell ⟨(w.heap.size + 1), 0, none⟩ (.slice (some ⟨g, 0, none⟩) np np)).setCell ⟨(w.heap.size + 1), 1, none⟩ (.slice (some ⟨h, 0, none⟩) nb nb)).setCell ⟨(w.heap.size + 1), 2, none⟩ (.slice (some ⟨i, 0, none⟩) nl nl)).setCell ⟨(w.heap.size + 1), 3, none⟩ (.int .i64 T)).setCell ⟨(w.heap.size + 1), 4, none⟩ (.int .i64 N)).setCell ⟨(w.heap.size + 1), 5, none⟩ (.slice (some ⟨j, 0, none⟩) ns ns)).setCell ⟨(w.heap.size + 1), 6, none⟩ (.int .i64 X)).setCell ⟨(w.heap.size + 1), 7, none⟩ (.int .i64 C)).cell? ⟨(w.heap.size + 1), 5, none⟩ = some (.slice (some ⟨j, 0, none⟩) ns ns) := by simp [go_sem, re5_W6]
  have re6_W7 : ((((((((W6.setCell ⟨(w.heap.size + 1), 0, none⟩ (.slice (some ⟨g, 0, none⟩) np np)).setCell ⟨(w.heap.size + 1), 1, none⟩ (.slice (some ⟨h, 0, none⟩) nb nb)).setCell ⟨(w.heap.size + 1), 2, none⟩ (.slice (some ⟨i, 0, none⟩) nl nl)).setCell ⟨(w.heap.size + 1), 3, none⟩ (.int .i64 T)).setCell ⟨(w.heap.size + 1), 4, none⟩ (.int .i64 N)).setCell ⟨(w.heap.size + 1), 5, none⟩ (.slice (some ⟨j, 0, none⟩) ns ns)).setCell ⟨(w.heap.size + 1), 6, none⟩ (.int .i64 X)).setCell ⟨(w.heap.size + 1), 7, none⟩ (.int .i64 C)).cell? ⟨(w.heap.size + 1), 6, none⟩ = some (.int .i64 X) := by simp [go_sem, re6_W6]
  have re7_W7 : ((((((((W6.setCell ⟨(w.heap.size + 1), 0, none⟩ (.slice (some ⟨g, 0, none⟩) np np)).setCell ⟨(w.heap.size + 1), 1, none⟩ (.slice (some ⟨h, 0, none⟩) nb nb)).setCell ⟨(w.heap.size + 1), 2, none⟩ (.slice (some ⟨i, 0, none⟩) nl nl)).setCell ⟨(w.heap.size + 1), 3, none⟩ (.int .i64 T)).setCell ⟨(w.heap.size + 1), 4, none⟩ (.int .i64 N)).setCell ⟨(w.heap.size + 1), 5, none⟩ (.slice (some ⟨j, 0, none⟩) ns ns)).setCell ⟨(w.heap.size + 1), 6, none⟩ (.int .i64 X)).setCell ⟨(w.heap.size + 1), 7, none⟩ (.int .i64 C)).cell? ⟨(w.heap.size + 1), 7, none⟩ = some (.int .i64 C) := by simp [go_sem, re7_W6]
  have reF_W7 : ∀ o, ((((((((W6.setCell ⟨(w.heap.size + 1), 0, none⟩ (.slice (some ⟨g, 0, none⟩) np np)).setCell ⟨(w.heap.size + 1), 1, none⟩ (.slice (some ⟨h, 0, none⟩) nb nb)).setCell ⟨(w.heap.size + 1), 2, none⟩ (.slice (some ⟨i, 0, none⟩) nl nl)).setCell ⟨(w.heap.size + 1), 3, none⟩ (.int .i64 T)).setCell ⟨(w.heap.size + 1), 4, none⟩ (.int .i64 N)).setCell ⟨(w.heap.size + 1), 5, none⟩ (.slice (some ⟨j, 0, none⟩) ns ns)).setCell ⟨(w.heap.size + 1), 6, none⟩ (.int .i64 X)).setCell ⟨(w.heap.size + 1), 7, none⟩ (.int .i64 C)).frozen? ⟨(w.heap.size + 1), o, none⟩ = false := fun o => frz_set1 (frz_set1 (frz_set1 (frz_set1 (frz_set1 (frz_set1 (frz_set1 (frz_set1 ((reF_W6 o)))))))))
  have reL_W7 : (w.heap.size + 1) < ((((((((W6.setCell ⟨(w.heap.size + 1), 0, none⟩ (.slice (some ⟨g, 0, none⟩) np np)).setCell ⟨(w.heap.size + 1), 1, none⟩ (.slice (some ⟨h, 0, none⟩) nb nb)).setCell ⟨(w.heap.size + 1), 2, none⟩ (.slice (some ⟨i, 0, none⟩) nl nl)).setCell ⟨(w.heap.size + 1), 3, none⟩ (.int .i64 T)).setCell ⟨(w.heap.size + 1), 4, none⟩ (.int .i64 N)).setCell ⟨(w.heap.size + 1), 5, none⟩ (.slice (some ⟨j, 0, none⟩) ns ns)).setCell ⟨(w.heap.size + 1), 6, none⟩ (.int .i64 X)).setCell ⟨(w.heap.size + 1), 7, none⟩ (.int .i64 C)).heap.size := by simpa using reL_W6
  have oG_W7 : Hid (OwnG KPl 68 ((((((((W6.setCell ⟨(w.heap.size + 1), 0, none⟩ (.slice (some ⟨g, 0, none⟩) np np)).setCell ⟨(w.heap.size + 1), 1, none⟩ (.slice (some ⟨h, 0, none⟩) nb nb)).setCell ⟨(w.heap.size + 1), 2, none⟩ (.slice (some ⟨i, 0, none⟩) nl nl)).setCell ⟨(w.heap.size + 1), 3, none⟩ (.int .i64 T)).setCell ⟨(w.heap.size + 1), 4, none⟩ (.int .i64 N)).setCell ⟨(w.heap.size + 1), 5, none⟩ (.slice (some ⟨j, 0, none⟩) ns ns)).setCell ⟨(w.heap.size + 1), 6, none⟩ (.int .i64 X)).setCell ⟨(w.heap.size + 1), 7, none⟩ (.int .i64 C)) (w.heap.size + 3) (.slice (some ⟨g, 0, none⟩) np np) (ps)) := hidP (OwnG.grown (OwnG.grown (OwnG.grown (OwnG.grown (OwnG.grown (OwnG.grown (OwnG.grown (OwnG.grown (oG_W6.out) (grown_cellG _ _ _ _) (OwnG.ne_of oG_W6.out (by omega))) (grown_cellG _ _ _ _) (OwnG.ne_of oG_W6.out (by omega))) (grown_cellG _ _ _ _) (OwnG.ne_of oG_W6.out (by omega))) (grown_cellG _ _ _ _) (OwnG.ne_of oG_W6.out (by omega))) (grown_cellG _ _ _ _) (OwnG.ne_of oG_W6.out (by omega))) (grown_cellG _ _ _ _) (OwnG.ne_of oG_W6.out (by omega))) (grown_cellG _ _ _ _) (OwnG.ne_of oG_W6.out (by omega))) (grown_cellG _ _ _ _) (OwnG.ne_of oG_W6.out (by omega)))
  have oH_W7 : Hid (OwnG KBk 71 ((((((((W6.setCell ⟨(w.heap.size + 1), 0, none⟩ (.slice (some ⟨g, 0, none⟩) np np)).setCell ⟨(w.heap.size + 1), 1, none⟩ (.slice (some ⟨h, 0, none⟩) nb nb)).setCell ⟨(w.heap.size + 1), 2, none⟩ (.slice (some ⟨i, 0, none⟩) nl nl)).setCell ⟨(w.heap.size + 1), 3, none⟩ (.int .i64 T)).setCell ⟨(w.heap.size + 1), 4, none⟩ (.int .i64 N)).setCell ⟨(w.heap.size + 1), 5, none⟩ (.slice (some ⟨j, 0, none⟩) ns ns)).setCell ⟨(w.heap.size + 1), 6, none⟩ (.int .i64 X)).setCell ⟨(w.heap.size + 1), 7, none⟩ (.int .i64 C)) (w.heap.size + 3) (.slice (some ⟨h, 0, none⟩) nb nb) (bs)) := hidP (OwnG.grown (OwnG.grown (OwnG.grown (OwnG.grown (OwnG.grown (OwnG.grown (OwnG.grown (OwnG.grown (oH_W6.out) (grown_cellG _ _ _ _) (OwnG.ne_of oH_W6.out (by omega))) (grown_cellG _ _ _ _) (OwnG.ne_of oH_W6.out (by omega))) (grown_cellG _ _ _ _) (OwnG.ne_of oH_W6.out (by omega))) (grown_cellG _ _ _ _) (OwnG.ne_of oH_W6.out (by omega))) (grown_cellG _ _ _ _) (OwnG.ne_of oH_W6.out (by omega))) (grown_cellG _ _ _ _) (OwnG.ne_of oH_W6.out (by omega))) (grown_cellG _ _ _ _) (OwnG.ne_of oH_W6.out (by omega))) (grown_cellG _ _ _ _) (OwnG.ne_of oH_W6.out (by omega)))
  have oI_W7 : Hid (OwnG KLs 74 ((((((((W6.setCell ⟨(w.heap.size + 1), 0, none⟩ (.slice (some ⟨g, 0, none⟩) np np)).setCell ⟨(w.heap.size + 1), 1, none⟩ (.slice (some ⟨h, 0, none⟩) nb nb)).setCell ⟨(w.heap.size + 1), 2, none⟩ (.slice (some ⟨i, 0, none⟩) nl nl)).setCell ⟨(w.heap.size + 1), 3, none⟩ (.int .i64 T)).setCell ⟨(w.heap.size + 1), 4, none⟩ (.int .i64 N)).setCell ⟨(w.heap.size + 1), 5, none⟩ (.slice (some ⟨j, 0, none⟩) ns ns)).setCell ⟨(w.heap.size + 1), 6, none⟩ (.int .i64 X)).setCell ⟨(w.heap.size + 1), 7, none⟩ (.int .i64 C)) (w.heap.size + 3) (.slice (some ⟨i, 0, none⟩) nl nl) (ls)) := hidP (OwnG.grown (OwnG.grown (OwnG.grown (OwnG.grown (OwnG.grown (OwnG.grown (OwnG.grown (OwnG.grown (oI_W6.out) (grown_cellG _ _ _ _) (OwnG.ne_of oI_W6.out (by omega))) (grown_cellG _ _ _ _) (OwnG.ne_of oI_W6.out (by omega))) (grown_cellG _ _ _ _) (OwnG.ne_of oI_W6.out (by omega))) (grown_cellG _ _ _ _) (OwnG.ne_of oI_W6.out (by omega))) (grown_cellG _ _ _ _) (OwnG.ne_of oI_W6.out (by omega))) (grown_cellG _ _ _ _) (OwnG.ne_of oI_W6.out (by omega))) (grown_cellG _ _ _ _) (OwnG.ne_of oI_W6.out (by omega))) (grown_cellG _ _ _ _) (OwnG.ne_of oI_W6.out (by omega)))
  have oJ_W7 : Hid (OwnG KSs 77 ((((((((W6.setCell ⟨(w.heap.size + 1), 0, none⟩ (.slice (some ⟨g, 0, none⟩) np np)).setCell ⟨(w.heap.size + 1), 1, none⟩ (.slice (some ⟨h, 0, none⟩) nb nb)).setCell ⟨(w.heap.size + 1), 2, none⟩ (.slice (some ⟨i, 0, none⟩) nl nl)).setCell ⟨(w.heap.size + 1), 3, none⟩ (.int .i64 T)).setCell ⟨(w.heap.size + 1), 4, none⟩ (.int .i64 N)).setCell ⟨(w.heap.size + 1), 5, none⟩ (.slice (some ⟨j, 0, none⟩) ns ns)).setCell ⟨(w.heap.size + 1), 6, none⟩ (.int .i64 X)).setCell ⟨(w.heap.size + 1), 7, none⟩ (.int .i64 C)) (w.heap.size + 3) (.slice (some ⟨j, 0, none⟩) ns ns) (ss)) := hidP (OwnG.grown (OwnG.grown (OwnG.grown (OwnG.grown (OwnG.grown (OwnG.grown (OwnG.grown (OwnG.grown (oJ_W6.out) (grown_cellG _ _ _ _) (OwnG.ne_of oJ_W6.out (by omega))) (grown_cellG _ _ _ _) (OwnG.ne_of oJ_W6.out (by omega))) (grown_cellG _ _ _ _) (OwnG.ne_of oJ_W6.out (by omega))) (grown_cellG _ _ _ _) (OwnG.ne_of oJ_W6.out (by omega))) (grown_cellG _ _ _ _) (OwnG.ne_of oJ_W6.out (by omega))) (grown_cellG _ _ _ _) (OwnG.ne_of oJ_W6.out (by omega))) (grown_cellG _ _ _ _) (OwnG.ne_of oJ_W6.out (by omega))) (grown_cellG _ _ _ _) (OwnG.ne_of oJ_W6.out (by omega)))
  have acc_W7 : Hid (Below w.heap.size w ((((((((W6.setCell ⟨(w.heap.size + 1), 0, none⟩ (.slice (some ⟨g, 0, none⟩) np np)).setCell ⟨(w.heap.size + 1), 1, none⟩ (.slice (some ⟨h, 0, none⟩) nb nb)).setCell ⟨(w.heap.size + 1), 2, none⟩ (.slice (some ⟨i, 0, none⟩) nl nl)).setCell ⟨(w.heap.size + 1), 3, none⟩ (.int .i64 T)).setCell ⟨(w.heap.size + 1), 4, none⟩ (.int .i64 N)).setCell ⟨(w.heap.size + 1), 5, none⟩ (.slice (some ⟨j, 0, none⟩) ns ns)).setCell ⟨(w.heap.size + 1), 6, none⟩ (.int .i64 X)).setCell ⟨(w.heap.size + 1), 7, none⟩ (.int .i64 C))) := hidP (Below.setCell (Below.setCell (Below.setCell (Below.setCell (Below.setCell (Below.setCell (Below.setCell (Below.setCell (acc_W6.out) (by try dsimp only; omega) _) (by try dsimp only; omega) _) (by try dsimp only; omega) _) (by try dsimp only; omega) _) (by try dsimp only; omega) _) (by try dsimp only; omega) _) (by try dsimp only; omega) _) (by try dsimp only; omega) _)
  have sz_W7 : Hid (((((((((W6.setCell ⟨(w.heap.size + 1), 0, none⟩ (.slice (some ⟨g, 0, none⟩) np np)).setCell ⟨(w.heap.size + 1), 1, none⟩ (.slice (some ⟨h, 0, none⟩) nb nb)).setCell ⟨(w.heap.size + 1), 2, none⟩ (.slice (some ⟨i, 0, none⟩) nl nl)).setCell ⟨(w.heap.size + 1), 3, none⟩ (.int .i64 T)).setCell ⟨(w.heap.size + 1), 4, none⟩ (.int .i64 N)).setCell ⟨(w.heap.size + 1), 5, none⟩ (.slice (some ⟨j, 0, none⟩) ns ns)).setCell ⟨(w.heap.size + 1), 6, none⟩ (.int .i64 X)).setCell ⟨(w.heap.size + 1), 7, none⟩ (.int .i64 C)).heap.size = W6.heap.size) := hidP (by simp)
  generalize (((((((W6.setCell ⟨(w.heap.size + 1), 0, none⟩ (.slice (some ⟨g, 0, none⟩) np np)).setCell ⟨(w.heap.size + 1), 1, none⟩ (.slice (some ⟨h, 0, none⟩) nb nb)).setCell ⟨(w.heap.size + 1), 2, none⟩ (.slice (some ⟨i, 0, none⟩) nl nl)).setCell ⟨(w.heap.size + 1), 3, none⟩ (.int .i64 T)).setCell ⟨(w.heap.size + 1), 4, none⟩ (.int .i64 N)).setCell ⟨(w.heap.size + 1), 5, none⟩ (.slice (some ⟨j, 0, none⟩) ns ns)).setCell ⟨(w.heap.size + 1), 6, none⟩ (.int .i64 X)).setCell ⟨(w.heap.size + 1), 7, none⟩ (.int .i64 C) = W7 at *
  clear re0_W6 re1_W6 re2_W6 re3_W6 re4_W6 re5_W6 re6_W6 re7_W6 reF_W6 reL_W6 oG_W6 oH_W6 oI_W6 oJ_W6 acc_W6
  refine bodyPost_ret (v := .agg #[.slice (some ⟨g, 0, none⟩) np np, .slice (some ⟨h, 0, none⟩) nb nb, .slice (some ⟨i, 0, none⟩) nl nl, .int .i64 T, .int .i64 N, .slice (some ⟨j, 0, none⟩) ns ns, .int .i64 X, .int .i64 C]) (by simp [results, Tryz.results7, go_sem, re0_W7, re1_W7, re2_W7, re3_W7, re4_W7, re5_W7, re6_W7, re7_W7]) rfl ⟨g, h, i, j, rfl, oG_W7.out.mono (by omega), oH_W7.out.mono (by omega), oI_W7.out.mono (by omega), oJ_W7.out.mono (by omega), HAp.out, acc_W7.out⟩

end Go.Proofs.YtngcbhbcocnbeaaGreat
namespace Go.Proofs.YtngcbhbcocnbeaaGreat
open Go.RowKit

/-- The figures of k ahead of out. -/
def mtR (k : Nat) (out : ByteArray) : ByteArray := if _h : k = 0 then out else mtR (k / 10) (strOfNums [48 + (k : Int) % 10] ++ out)
  termination_by k
  decreasing_by omega
theorem mtR_zero (out : ByteArray) : mtR 0 out = out := by unfold mtR; rw [dif_pos rfl]
theorem mtR_step {k : Nat} (h : k ≠ 0) (out : ByteArray) : mtR k out = mtR (k / 10) (strOfNums [48 + (k : Int) % 10] ++ out) := by conv => lhs; unfold mtR; rw [dif_neg h]
def mtT (k : Nat) : ByteArray := ⟨#[109]⟩ ++ mtR k ⟨#[]⟩
theorem ret_ba9 {a b : ByteArray} (h : a = b) : Ending.returned (.string a) = .returned (.string b) := by rw [h]
theorem ba_size (a b : ByteArray) : (a ++ b).size = a.size + b.size := by simp

theorem cvt1 (w : World) (c : Int) : (convert 35 9 (.slice (some ⟨w.heap.size, 0, none⟩) 1 1)).run Tryz.prog (w.alloc (.cells #[.int .u8 c] 5)) = .ok (.string (strOfNums [c])) (w.alloc (.cells #[.int .u8 c] 5)) :=
  run_convert_bytes_arg _ 35 5 Tryz.underlying35 Tryz.underlying5 w.heap.size 0 1 1 [c] rfl (by
    intro i hi
    have : i = 0 := by omega
    subst this
    simp [go_sem]) 9 Tryz.underlying9

set_option maxHeartbeats 1000000 in
theorem markText_any (k : Nat) (hk : 0 < k) (h9 : k ≤ 90000000000) (w : World) :
    Calls Tryz.prog 106 #[.int .i64 k] w fun e w' => e = .returned (.string (mtT k)) ∧ Below w.heap.size w w' := by
  have d1 : decide ((k : Int) ≤ 0) = false := decide_eq_false (by omega)
  go_enter Tryz.func106, Tryz.ntmps106
  go_wp2_with fail
  go_loopw [0, 3] (fun t0 t3 wr => ∃ (J : Int) (m : Nat) (out : ByteArray), t0 = .int .i64 J ∧ t3 = .string out ∧ 0 ≤ J ∧ J ≤ 90000000000 ∧ J.toNat < 10 ^ m ∧ out.size + m ≤ 20 ∧ mtR k ⟨#[]⟩ = mtR J.toNat out ∧ Below w.heap.size w wr) (fun t0 _ _ => (intOf t0).toNat)
  case atStart => exact ⟨k, 19, ⟨#[]⟩, rfl, rfl, by omega, by omega, by omega, by show 0 + 19 ≤ 20; omega, rfl, Below.refl _ _⟩
  case round =>
    obtain ⟨J, m, out, rfl, rfl, hJ0, hj9, hjm, hsz, heq, hbel⟩ := hrel
    have HM := hidP (And.intro hjm hsz)
    have hsz2 : out.size ≤ 20 := by omega
    clear hjm hsz
    by_cases h0 : J = 0
    · subst h0
      have HE : Hid (mtR k ⟨#[]⟩ = out) := hidP (heq.trans (mtR_zero out))
      have HB := hidP hbel
      clear heq hbel
      go_wp2_with fail
      go_ret
      exact ⟨ret_ba9 (by unfold mtT; rw [HE.out]), HB.out⟩
    · have g1 : decide ((0 : Int) < J) = true := decide_eq_true (by omega)
      have hst := mtR_step (k := J.toNat) (by omega) out
      rw [show ((J.toNat : Nat) : Int) = J by omega] at hst
      rw [hst] at heq
      clear hst
      have HE := hidP heq
      have HB := hidP hbel
      have hcv := cvt1 wr (48 + J % 10)
      have hw8 : IntKind.u8.wrap (48 + J % 10) = 48 + J % 10 := by simp [IntKind.wrap, IntKind.bits, IntKind.signed]; omega
      have hss : (strOfNums [48 + J % 10]).size = 1 := rfl
      clear heq hbel
      have HJ := hidP (And.intro hJ0 hj9)
      go_wp2_with fail
      go_roundw
      case rel =>
        have h10 : (J / 10).toNat = J.toNat / 10 := by have := HJ.out; omega
        have hm : m ≠ 0 := by
          intro h; have h1 := HM.out.1; rw [h] at h1; have h2 := HJ.out; omega
        refine ⟨J / 10, m - 1, _, rfl, rfl, by have := HJ.out; omega, by have := HJ.out; omega, ?_, ?_, ?_, HB.out.alloc HB.out.size _⟩
        · rw [h10]
          apply Nat.div_lt_of_lt_mul
          have := HM.out.1
          rw [show m = (m - 1) + 1 by omega, Nat.pow_succ, Nat.mul_comm] at this
          exact this
        · rw [ba_size, hss]; have := HM.out.2; omega
        · rw [h10]; exact HE.out
      case measure => simp [intOf]; have := HJ.out; omega

theorem markText_int (J : Int) (h0 : 0 < J) (h9 : J ≤ 90000000000) (w : World) :
    Calls Tryz.prog 106 #[.int .i64 J] w fun e w' => e = .returned (.string (mtT J.toNat)) ∧ Below w.heap.size w w' := by
  have := markText_any J.toNat (by omega) (by omega) w
  rw [show ((J.toNat : Nat) : Int) = J by omega] at this
  exact this

end Go.Proofs.YtngcbhbcocnbeaaGreat
namespace Go.Proofs.YtngcbhbcocnbeaaGreat
open Go.RowKit

theorem toI64 (x : Int) (h0 : 0 ≤ x) (h1 : x ≤ 90000000000) : (BitVec.ofInt 64 x).toInt = x := by
  rw [BitVec.toInt_ofInt, Int.bmod_def]
  split <;> omega

theorem grown_cell (w : World) (g o : Nat) (v : Value) : w.grownBy (w.setCell ⟨g, o, none⟩ v) (some g) :=
  ⟨rfl, rfl, rfl, by simp, fun k _ hk => heap_setCell_other w ⟨g, o, none⟩ k v (fun e => hk (by simp [e]))⟩

end Go.Proofs.YtngcbhbcocnbeaaGreat
namespace Go.Proofs.YtngcbhbcocnbeaaGreat
open Go.RowKit

/-- The marks of the j-th pool, and of the j-th block. -/
def mkPl (k : Int) (j : Nat) : Pl := ⟨⟨(k + 5 * (j : Int)) % 3 == 0, BitVec.ofInt 64 (k + 5 * (j : Int) + 1), BitVec.ofInt 64 (k + 5 * (j : Int) + 1 + 1), k + 5 * (j : Int) + 1 + 1 + 1⟩, k + 5 * (j : Int) + 1 + 1 + 1 + 1⟩
def mkBk (k : Int) (j : Nat) : Bk := ⟨⟨(k + 5 * (j : Int)) % 3 == 0, BitVec.ofInt 64 (k + 5 * (j : Int) + 1), BitVec.ofInt 64 (k + 5 * (j : Int) + 1 + 1), k + 5 * (j : Int) + 1 + 1 + 1⟩, mtT (k + 5 * (j : Int) + 1 + 1 + 1 + 1).toNat⟩
theorem ownsRow_later {w w' : World} {B k n : Nat} {t : TypeId} {v : Value} {xs : List Value} (h : w.ownsRow B t k v n xs) (hb : Below w.heap.size w w') : w'.ownsRow B t k v n xs := by
  refine ⟨h.1, ?_⟩
  rcases h.2 with h' | ⟨g, c, cur, h1, h2, h3, h4⟩
  · exact Or.inl h'
  · refine Or.inr ⟨g, c, cur, h1, h2, ?_, h4⟩
    have hg : g < w.heap.size := by
      rcases Nat.lt_or_ge g w.heap.size with h' | h'
      · exact h'
      · rw [Array.getElem?_eq_none h'] at h3; cases h3
    exact (hb.block g hg).trans h3
theorem grown_of {w w' : World} (h : Below w.heap.size w w') (r : Option Nat) : w.grownBy w' r := ⟨h.os, h.tape, h.output, h.size, fun k hk _ => h.block k hk⟩

set_option maxHeartbeats 2000000 in
theorem markPoolS_any (a : Option Addr) (n cap B : Nat) (ps : List Pl) (k : Int) (w : World) (hn : n = ps.length) (h : OwnG KPl 68 w B (.slice a n cap) ps) (hl : n ≤ 9000000000) (k0 : 0 < k) (k1 : k ≤ 9000000000) :
    Calls Tryz.prog 74 #[.slice a n cap, .int .i64 k] w fun e w' => e = .returned (.int .i64 (k + 5 * n)) ∧ OwnG KPl 68 w' B (.slice a n cap) (mksG (mkPl k) n) ∧ w.grownBy w' (Value.slice a n cap).ownBlock := by
  have hn' : ps.length = n := hn.symm
  clear hn
  by_cases h0 : n = 0
  · subst h0
    have HO := hidP h
    have HZ : Hid (ps = []) := List.length_eq_zero_iff.1 hn'
    clear h hn'
    go_enter Tryz.func74, Tryz.ntmps74
    go_wp2
    refine wp_loop_rounds 1 ?_
    rw [rounds_succ]
    go_wp2
    go_ret
    refine ⟨by simp, ?_, World.grownBy.refl _ _⟩
    have := HO.out; rw [HZ.out] at this; simpa [mksG] using this
  · obtain ⟨g, rfl⟩ : ∃ g, a = some ⟨g, 0, none⟩ := by
      rcases h.2 with ⟨hv, _⟩ | ⟨g, cap', cur, hv, _⟩
      · simp at hv; omega
      · simp at hv; exact ⟨g, hv.1⟩
    have HO : Hid (OwnG KPl 68 w B (.slice (some ⟨g, 0, none⟩) n cap) (mksG (mkPl k) 0 ++ ps.drop 0)) := by
      refine hidP ?_; simpa [mksG] using h
    have HN : Hid (ps.length = n) := hn'
    clear h hn'
    go_enter Tryz.func74, Tryz.ntmps74
    go_wp2
    go_loopw [1, 5] (fun t1 t5 wr => ∃ i : Nat, i ≤ n ∧ t5 = .int .i64 i ∧ t1 = .int .i64 (k + 5 * i) ∧ OwnG KPl 68 wr B (.slice (some ⟨g, 0, none⟩) n cap) (mksG (mkPl k) i ++ ps.drop i) ∧ w.grownBy wr (some g)) (fun _ t5 _ => n - (intOf t5).toNat)
    case atStart => exact ⟨0, Nat.zero_le _, rfl, by simp, HO.out, World.grownBy.refl _ _⟩
    case round =>
      obtain ⟨i, hi, rfl, rfl, hown, hgr⟩ := hrel
      have hlen : n = (mksG (mkPl k) i ++ ps.drop i).length := by rw [List.length_append, mksG_len, List.length_drop, HN.out]; omega
      by_cases hlt : i < n
      · obtain ⟨f0, f1, f2, f3, f4⟩ := frzPl hown i
        have e1 : (mkPl k i).p.H.toInt = k + 5 * (i : Int) + 1 := toI64 _ (by omega) (by omega)
        have e2 : (mkPl k i).p.L.toInt = k + 5 * (i : Int) + 1 + 1 := toI64 _ (by omega) (by omega)
        have e3 : (mkPl k i).p.b = k + 5 * (i : Int) + 1 + 1 + 1 := rfl
        have e0 : (mkPl k i).p.s = ((k + 5 * (i : Int)) % 3 == 0) := rfl
        have e4 : (mkPl k i).n = k + 5 * (i : Int) + 1 + 1 + 1 + 1 := rfl
        have hput' := putPl hown hlen i hlt (mkPl k i)
        rw [mksG_step (mkPl k) n i ps HN.out hlt, e0, e1, e2, e3, e4] at hput'
        clear e0 e1 e2 e3 e4
        obtain ⟨q', hp', _, c0, c1, c2, c3, c4⟩ := rowPl0 hown i (by rw [← hlen]; exact hlt)
        have HS := hidP hput'
        have HG := hidP hgr
        clear hown hgr HO hput' hlen
        go_wp2_with fail
        go_roundw
        case rel => exact ⟨i + 1, by omega, by go_num, by go_num, HS.out, ((((HG.out.trans (grown_cell _ g _ _)).trans (grown_cell _ g _ _)).trans (grown_cell _ g _ _)).trans (grown_cell _ g _ _)).trans (grown_cell _ g _ _)⟩
        case measure => simp [intOf]; omega
      · have hin : i = n := by omega
        subst hin
        have HS : Hid (OwnG KPl 68 wr B (.slice (some ⟨g, 0, none⟩) i cap) (mksG (mkPl k) i)) := by
          rw [List.drop_of_length_le (by rw [HN.out]; exact Nat.le_refl _), List.append_nil] at hown
          exact hidP hown
        have HG := hidP hgr
        clear hown hgr HO hlen
        go_wp2
        go_ret
        exact ⟨rfl, HS.out, HG.out⟩

set_option maxHeartbeats 2000000 in
theorem markBlockS_any (a : Option Addr) (n cap B : Nat) (ps : List Bk) (k : Int) (w : World) (hn : n = ps.length) (h : OwnG KBk 71 w B (.slice a n cap) ps) (hl : n ≤ 9000000000) (k0 : 0 < k) (k1 : k ≤ 9000000000) :
    Calls Tryz.prog 75 #[.slice a n cap, .int .i64 k] w fun e w' => e = .returned (.int .i64 (k + 5 * n)) ∧ OwnG KBk 71 w' B (.slice a n cap) (mksG (mkBk k) n) ∧ w.grownBy w' (Value.slice a n cap).ownBlock := by
  have hn' : ps.length = n := hn.symm
  clear hn
  by_cases h0 : n = 0
  · subst h0
    have HO := hidP h
    have HZ : Hid (ps = []) := List.length_eq_zero_iff.1 hn'
    clear h hn'
    go_enter Tryz.func75, Tryz.ntmps75
    go_wp2
    refine wp_loop_rounds 1 ?_
    rw [rounds_succ]
    go_wp2
    go_ret
    refine ⟨by simp, ?_, World.grownBy.refl _ _⟩
    have := HO.out; rw [HZ.out] at this; simpa [mksG] using this
  · obtain ⟨g, rfl⟩ : ∃ g, a = some ⟨g, 0, none⟩ := by
      rcases h.2 with ⟨hv, _⟩ | ⟨g, cap', cur, hv, _⟩
      · simp at hv; omega
      · simp at hv; exact ⟨g, hv.1⟩
    have HO : Hid (OwnG KBk 71 w B (.slice (some ⟨g, 0, none⟩) n cap) (mksG (mkBk k) 0 ++ ps.drop 0)) := by
      refine hidP ?_; simpa [mksG] using h
    have HN : Hid (ps.length = n) := hn'
    clear h hn'
    go_enter Tryz.func75, Tryz.ntmps75
    go_wp2
    go_loopw [1, 5] (fun t1 t5 wr => ∃ i : Nat, i ≤ n ∧ t5 = .int .i64 i ∧ t1 = .int .i64 (k + 5 * i) ∧ OwnG KBk 71 wr B (.slice (some ⟨g, 0, none⟩) n cap) (mksG (mkBk k) i ++ ps.drop i) ∧ w.grownBy wr (some g)) (fun _ t5 _ => n - (intOf t5).toNat)
    case atStart => exact ⟨0, Nat.zero_le _, rfl, by simp, HO.out, World.grownBy.refl _ _⟩
    case round =>
      obtain ⟨i, hi, rfl, rfl, hown, hgr⟩ := hrel
      have hlen : n = (mksG (mkBk k) i ++ ps.drop i).length := by rw [List.length_append, mksG_len, List.length_drop, HN.out]; omega
      by_cases hlt : i < n
      · obtain ⟨f0, f1, f2, f3, f4⟩ := frzBk hown i
        have e1 : (mkBk k i).p.H.toInt = k + 5 * (i : Int) + 1 := toI64 _ (by omega) (by omega)
        have e2 : (mkBk k i).p.L.toInt = k + 5 * (i : Int) + 1 + 1 := toI64 _ (by omega) (by omega)
        have e3 : (mkBk k i).p.b = k + 5 * (i : Int) + 1 + 1 + 1 := rfl
        have e0 : (mkBk k i).p.s = ((k + 5 * (i : Int)) % 3 == 0) := rfl
        have hcs : KBk.cs (mkBk k i) = [.bool ((k + 5 * (i : Int)) % 3 == 0), .int .i64 (k + 5 * (i : Int) + 1), .int .i64 (k + 5 * (i : Int) + 1 + 1), .int .i64 (k + 5 * (i : Int) + 1 + 1 + 1)] ++ [.string (mtT (k + 5 * (i : Int) + 1 + 1 + 1 + 1).toNat)] := by
          show ([.bool (mkBk k i).p.s, .int .i64 (mkBk k i).p.H.toInt, .int .i64 (mkBk k i).p.L.toInt, .int .i64 (mkBk k i).p.b, .string (mkBk k i).t] : List Value) = _
          rw [e0, e1, e2, e3]; rfl
        have hfl := gflat_set KBk (mksG (mkBk k) i ++ ps.drop i) i (mkBk k i) (by rw [← hlen]; exact hlt)
        rw [mksG_step (mkBk k) n i ps HN.out hlt, hcs] at hfl
        have hlen2 : (mksG (mkBk k) (i + 1) ++ ps.drop (i + 1)).length = n := by rw [List.length_append, mksG_len, List.length_drop, HN.out]; omega
        have hraw : wr.ownsRow B 71 5 (.slice (some ⟨g, 0, none⟩) n cap) n (gflat KBk (mksG (mkBk k) i ++ ps.drop i)) := by
          have := hown; unfold OwnG at this; rw [← hlen] at this; exact this
        have h4 := puts_own [.bool ((k + 5 * (i : Int)) % 3 == 0), .int .i64 (k + 5 * (i : Int) + 1), .int .i64 (k + 5 * (i : Int) + 1 + 1), .int .i64 (k + 5 * (i : Int) + 1 + 1 + 1)] wr _ (i * 5) hraw
        obtain ⟨q', hp', _, c0, c1, c2, c3, c4⟩ := rowBk0 hown i (by rw [← hlen]; exact hlt)
        have c4' := World.ownsRow.cellAt h4 (i * 5 + 4) (by omega)
        have HF := hidP hfl
        have H4 := hidP h4
        have HL2 := hidP hlen2
        have HG := hidP hgr
        have HM := hidP (markText_int (k + 5 * (i : Int) + 1 + 1 + 1 + 1) (by omega) (by omega))
        have F4 := hidP (fun (w2 : World) (hb : Below ((((wr.setCell ⟨g, i * 5, none⟩ (.bool ((k + 5 * (i : Int)) % 3 == 0))).setCell ⟨g, i * 5 + 1, none⟩ (.int .i64 (k + 5 * (i : Int) + 1))).setCell ⟨g, i * 5 + 2, none⟩ (.int .i64 (k + 5 * (i : Int) + 1 + 1))).setCell ⟨g, i * 5 + 3, none⟩ (.int .i64 (k + 5 * (i : Int) + 1 + 1 + 1))).heap.size ((((wr.setCell ⟨g, i * 5, none⟩ (.bool ((k + 5 * (i : Int)) % 3 == 0))).setCell ⟨g, i * 5 + 1, none⟩ (.int .i64 (k + 5 * (i : Int) + 1))).setCell ⟨g, i * 5 + 2, none⟩ (.int .i64 (k + 5 * (i : Int) + 1 + 1))).setCell ⟨g, i * 5 + 3, none⟩ (.int .i64 (k + 5 * (i : Int) + 1 + 1 + 1))) w2) => And.intro (World.ownsRow.stored (ownsRow_later (show ((((wr.setCell ⟨g, i * 5, none⟩ (.bool ((k + 5 * (i : Int)) % 3 == 0))).setCell ⟨g, i * 5 + 1, none⟩ (.int .i64 (k + 5 * (i : Int) + 1))).setCell ⟨g, i * 5 + 2, none⟩ (.int .i64 (k + 5 * (i : Int) + 1 + 1))).setCell ⟨g, i * 5 + 3, none⟩ (.int .i64 (k + 5 * (i : Int) + 1 + 1 + 1))).ownsRow B 71 5 (.slice (some ⟨g, 0, none⟩) n cap) n _ from h4) hb) (i * 5 + 4) (.string (mtT (k + 5 * (i : Int) + 1 + 1 + 1 + 1).toNat))).1 (World.ownsRow.frozenAt (ownsRow_later (show ((((wr.setCell ⟨g, i * 5, none⟩ (.bool ((k + 5 * (i : Int)) % 3 == 0))).setCell ⟨g, i * 5 + 1, none⟩ (.int .i64 (k + 5 * (i : Int) + 1))).setCell ⟨g, i * 5 + 2, none⟩ (.int .i64 (k + 5 * (i : Int) + 1 + 1))).setCell ⟨g, i * 5 + 3, none⟩ (.int .i64 (k + 5 * (i : Int) + 1 + 1 + 1))).ownsRow B 71 5 (.slice (some ⟨g, 0, none⟩) n cap) n _ from h4) hb) (i * 5 + 4)))
        have hg4 : g < ((((wr.setCell ⟨g, i * 5, none⟩ (.bool ((k + 5 * (i : Int)) % 3 == 0))).setCell ⟨g, i * 5 + 1, none⟩ (.int .i64 (k + 5 * (i : Int) + 1))).setCell ⟨g, i * 5 + 2, none⟩ (.int .i64 (k + 5 * (i : Int) + 1 + 1))).setCell ⟨g, i * 5 + 3, none⟩ (.int .i64 (k + 5 * (i : Int) + 1 + 1 + 1))).heap.size := by simp; exact hp'
        have c4s : ((((wr.setCell ⟨g, i * 5, none⟩ (.bool ((k + 5 * (i : Int)) % 3 == 0))).setCell ⟨g, i * 5 + 1, none⟩ (.int .i64 (k + 5 * (i : Int) + 1))).setCell ⟨g, i * 5 + 2, none⟩ (.int .i64 (k + 5 * (i : Int) + 1 + 1))).setCell ⟨g, i * 5 + 3, none⟩ (.int .i64 (k + 5 * (i : Int) + 1 + 1 + 1))).cell? ⟨g, i * 5 + 4, none⟩ = some (.string q'.t) := by simp [go_sem, c4]
        have C4 := hidP (And.intro hg4 c4s)
        clear hown hgr HO hlen e0 e1 e2 e3 hcs hfl hraw h4 hlen2 c4' hg4 c4s
        go_wp2_with fail
        refine (HM.out _).mono ?_
        rintro e w2 ⟨rfl, hb2⟩
        have c4t := (hb2.cell C4.out.1).trans C4.out.2
        have fz := (F4.out w2 hb2).2
        have HS := hidP (F4.out w2 hb2).1
        have HG2 := hidP (((((HG.out.trans (grown_cell _ g _ _)).trans (grown_cell _ g _ _)).trans (grown_cell _ g _ _)).trans (grown_cell _ g _ _)).trans (grown_of hb2 (some g)))
        clear hb2 F4
        go_wp2_with fail
        go_roundw
        case rel =>
          refine ⟨i + 1, by omega, by go_num, by go_num, ?_, HG2.out.trans (grown_cell _ g _ _)⟩
          unfold OwnG
          rw [HL2.out, ← HF.out]
          exact HS.out
        case measure => simp [intOf]; omega
      · have hin : i = n := by omega
        subst hin
        have HS : Hid (OwnG KBk 71 wr B (.slice (some ⟨g, 0, none⟩) i cap) (mksG (mkBk k) i)) := by
          rw [List.drop_of_length_le (by rw [HN.out]; exact Nat.le_refl _), List.append_nil] at hown
          exact hidP hown
        have HG := hidP hgr
        clear hown hgr HO hlen
        go_wp2
        go_ret
        exact ⟨rfl, HS.out, HG.out⟩

end Go.Proofs.YtngcbhbcocnbeaaGreat
namespace Go.Proofs.YtngcbhbcocnbeaaGreat
open Go.RowKit

set_option maxHeartbeats 1000000 in
theorem markPlan_any (ap : Option Addr) (np cp : Nat) (ab : Option Addr) (nb cb : Nat) (ps : List Pl) (bs : List Bk) (B : Nat) (k : Int) (w : World) (hnp : np = ps.length) (hnb : nb = bs.length) (hO1 : OwnG KPl 68 w B (.slice ap np cp) ps) (hO2 : OwnG KBk 71 w B (.slice ab nb cb) bs) (hne : ∀ k, (Value.slice ap np cp).ownBlock = some k → (Value.slice ab nb cb).ownBlock ≠ some k) (h1 : np ≤ 2000000) (h2 : nb ≤ 2000000) (k0 : 0 < k) (k1 : k ≤ 1000) :
    Calls Tryz.prog 43 #[.agg #[.slice ap np cp, .slice ab nb cb], .int .i64 k] w fun e w' => e = .returned (.int .i64 (k + 5 * np + 5 * nb)) ∧ OwnG KPl 68 w' B (.slice ap np cp) (mksG (mkPl k) np) ∧ OwnG KBk 71 w' B (.slice ab nb cb) (mksG (mkBk (k + 5 * np)) nb) ∧ ∃ wm, w.grownBy wm (Value.slice ap np cp).ownBlock ∧ wm.grownBy w' (Value.slice ab nb cb).ownBlock := by
  have hl1 := fun k hk => (OwnG.lt hO1 k hk).2
  have HO := hidP (And.intro hO1 hO2)
  have HNE := hidP hne
  have HN := hidP (And.intro hnp hnb)
  have HL1 := hidP hl1
  clear hO1 hO2 hne hnp hnb hl1
  go_enter Tryz.func43, Tryz.ntmps43
  go_wp2_with fail
  obtain ⟨u0, u1⟩ := box2 (u := .slice ap np cp) (v := .slice ab nb cb) w 40
  have uB := alloc_below w (.cells #[.slice ap np cp, .slice ab nb cb] 40)
  have uL := alloc_lt w (.cells #[.slice ap np cp, .slice ab nb cb] 40)
  have uS : (w.alloc (.cells #[.slice ap np cp, .slice ab nb cb] 40)).heap.size = w.heap.size + 1 := by simp
  generalize w.alloc (.cells #[.slice ap np cp, .slice ab nb cb] 40) = W1 at *
  refine (markPoolS_any ap np cp B ps k W1 HN.out.1 (HO.out.1.later uB) (by omega) k0 (by omega)).mono ?_
  rintro e w2 ⟨rfl, o2, g2⟩
  have hob := OwnG.grown (HO.out.2.later uB) g2 (fun j hj h => HNE.out j h hj)
  have c1 : w2.cell? ⟨w.heap.size, 1, none⟩ = some (.slice ab nb cb) := (World.cell?_of_block (g2.block w.heap.size uL (fun e => by have := HL1.out _ e.symm; omega))).trans u1
  have G2 := hidP ((grown_of uB _).trans g2)
  have O2 := hidP (And.intro o2 hob)
  clear g2 o2 hob uB uS u0 u1 uL
  go_wp2_with fail
  refine (markBlockS_any ab nb cb B bs (k + 5 * np) w2 HN.out.2 O2.out.2 (by omega) (by omega) (by omega)).mono ?_
  rintro e w3 ⟨rfl, o3, g3⟩
  have op := OwnG.grown O2.out.1 g3 (fun j hj h => HNE.out j hj h)
  have F := hidP (And.intro op (And.intro o3 g3))
  clear op o3 g3 c1
  go_wp2_with fail
  go_ret
  exact ⟨rfl, F.out.1, F.out.2.1, w2, G2.out, F.out.2.2⟩

end Go.Proofs.YtngcbhbcocnbeaaGreat
namespace Go.Proofs.YtngcbhbcocnbeaaGreat
open Go.RowKit

def Ad.cs (q : Ad) : List Value := [.bool q.s, .int .i64 q.H.toInt, .int .i64 q.L.toInt]

end Go.Proofs.YtngcbhbcocnbeaaGreat
namespace Go.Proofs.YtngcbhbcocnbeaaGreat
open Go.RowKit

/-- The marks of the j-th lease, and of the j-th address. -/
def mkLs (k : Int) (j : Nat) : Ls := ⟨⟨(k + 6 * (j : Int)) % 3 == 0, BitVec.ofInt 64 (k + 6 * (j : Int) + 1), BitVec.ofInt 64 (k + 6 * (j : Int) + 1 + 1)⟩, mtT (k + 6 * (j : Int) + 1 + 1 + 1).toNat, k + 6 * (j : Int) + 1 + 1 + 1 + 1, k + 6 * (j : Int) + 1 + 1 + 1 + 1 + 1⟩
set_option maxHeartbeats 2000000 in
theorem markLeaseS_any (a : Option Addr) (n cap B : Nat) (ps : List Ls) (k : Int) (w : World) (hn : n = ps.length) (h : OwnG KLs 74 w B (.slice a n cap) ps) (hl : n ≤ 9000000) (k0 : 0 < k) (k1 : k ≤ 9000000000) :
    Calls Tryz.prog 76 #[.slice a n cap, .int .i64 k] w fun e w' => e = .returned (.int .i64 (k + 6 * n)) ∧ OwnG KLs 74 w' B (.slice a n cap) (mksG (mkLs k) n) ∧ w.grownBy w' (Value.slice a n cap).ownBlock := by
  have hn' : ps.length = n := hn.symm
  clear hn
  by_cases h0 : n = 0
  · subst h0
    have HO := hidP h
    have HZ : Hid (ps = []) := List.length_eq_zero_iff.1 hn'
    clear h hn'
    go_enter Tryz.func76, Tryz.ntmps76
    go_wp2
    refine wp_loop_rounds 1 ?_
    rw [rounds_succ]
    go_wp2
    go_ret
    refine ⟨by simp, ?_, World.grownBy.refl _ _⟩
    have := HO.out; rw [HZ.out] at this; simpa [mksG] using this
  · obtain ⟨g, rfl⟩ : ∃ g, a = some ⟨g, 0, none⟩ := by
      rcases h.2 with ⟨hv, _⟩ | ⟨g, cap', cur, hv, _⟩
      · simp at hv; omega
      · simp at hv; exact ⟨g, hv.1⟩
    have HO : Hid (OwnG KLs 74 w B (.slice (some ⟨g, 0, none⟩) n cap) (mksG (mkLs k) 0 ++ ps.drop 0)) := by
      refine hidP ?_; simpa [mksG] using h
    have HN : Hid (ps.length = n) := hn'
    clear h hn'
    go_enter Tryz.func76, Tryz.ntmps76
    go_wp2
    go_loopw [1, 5] (fun t1 t5 wr => ∃ i : Nat, i ≤ n ∧ t5 = .int .i64 i ∧ t1 = .int .i64 (k + 6 * (i : Int)) ∧ OwnG KLs 74 wr B (.slice (some ⟨g, 0, none⟩) n cap) (mksG (mkLs k) i ++ ps.drop i) ∧ w.grownBy wr (some g)) (fun _ t5 _ => n - (intOf t5).toNat)
    case atStart => exact ⟨0, Nat.zero_le _, rfl, by simp, HO.out, World.grownBy.refl _ _⟩
    case round =>
      obtain ⟨i, hi, rfl, rfl, hown, hgr⟩ := hrel
      have hlen : n = (mksG (mkLs k) i ++ ps.drop i).length := by rw [List.length_append, mksG_len, List.length_drop, HN.out]; omega
      by_cases hlt : i < n
      · obtain ⟨f0, f1, f2, f3, f4, f5⟩ := frzLs hown i
        have e1 : (mkLs k i).a.H.toInt = k + 6 * (i : Int) + 1 := toI64 _ (by omega) (by omega)
        have e2 : (mkLs k i).a.L.toInt = k + 6 * (i : Int) + 1 + 1 := toI64 _ (by omega) (by omega)
        have e0 : (mkLs k i).a.s = ((k + 6 * (i : Int)) % 3 == 0) := rfl
        have hcs : KLs.cs (mkLs k i) = [.bool ((k + 6 * (i : Int)) % 3 == 0), .int .i64 (k + 6 * (i : Int) + 1), .int .i64 (k + 6 * (i : Int) + 1 + 1)] ++ [.string (mtT (k + 6 * (i : Int) + 1 + 1 + 1).toNat), .int .i64 (k + 6 * (i : Int) + 1 + 1 + 1 + 1), .int .i64 (k + 6 * (i : Int) + 1 + 1 + 1 + 1 + 1)] := by
          show ([.bool (mkLs k i).a.s, .int .i64 (mkLs k i).a.H.toInt, .int .i64 (mkLs k i).a.L.toInt, .string (mkLs k i).t, .int .i64 (mkLs k i).k, .int .i64 (mkLs k i).u] : List Value) = _
          rw [e0, e1, e2]; rfl
        have hfl := gflat_set KLs (mksG (mkLs k) i ++ ps.drop i) i (mkLs k i) (by rw [← hlen]; exact hlt)
        rw [mksG_step (mkLs k) n i ps HN.out hlt, hcs] at hfl
        have hlen2 : (mksG (mkLs k) (i + 1) ++ ps.drop (i + 1)).length = n := by rw [List.length_append, mksG_len, List.length_drop, HN.out]; omega
        have hraw : wr.ownsRow B 74 6 (.slice (some ⟨g, 0, none⟩) n cap) n (gflat KLs (mksG (mkLs k) i ++ ps.drop i)) := by
          have := hown; unfold OwnG at this; rw [← hlen] at this; exact this
        have h3 := puts_own [.bool ((k + 6 * (i : Int)) % 3 == 0), .int .i64 (k + 6 * (i : Int) + 1), .int .i64 (k + 6 * (i : Int) + 1 + 1)] wr _ (i * 6) hraw
        obtain ⟨q', hp', _, c0, c1, c2, c3, c4, c5⟩ := rowLs0 hown i (by rw [← hlen]; exact hlt)
        have HF := hidP hfl
        have HL2 := hidP hlen2
        have HG := hidP hgr
        have HM := hidP (markText_int (k + 6 * (i : Int) + 1 + 1 + 1) (by omega) (by omega))
        have F3 := hidP (fun (w2 : World) (hb : Below (((wr.setCell ⟨g, i * 6, none⟩ (.bool ((k + 6 * (i : Int)) % 3 == 0))).setCell ⟨g, i * 6 + 1, none⟩ (.int .i64 (k + 6 * (i : Int) + 1))).setCell ⟨g, i * 6 + 2, none⟩ (.int .i64 (k + 6 * (i : Int) + 1 + 1))).heap.size (((wr.setCell ⟨g, i * 6, none⟩ (.bool ((k + 6 * (i : Int)) % 3 == 0))).setCell ⟨g, i * 6 + 1, none⟩ (.int .i64 (k + 6 * (i : Int) + 1))).setCell ⟨g, i * 6 + 2, none⟩ (.int .i64 (k + 6 * (i : Int) + 1 + 1))) w2) => puts_own [.string (mtT (k + 6 * (i : Int) + 1 + 1 + 1).toNat), .int .i64 (k + 6 * (i : Int) + 1 + 1 + 1 + 1), .int .i64 (k + 6 * (i : Int) + 1 + 1 + 1 + 1 + 1)] w2 _ (i * 6 + 3) (ownsRow_later (show (((wr.setCell ⟨g, i * 6, none⟩ (.bool ((k + 6 * (i : Int)) % 3 == 0))).setCell ⟨g, i * 6 + 1, none⟩ (.int .i64 (k + 6 * (i : Int) + 1))).setCell ⟨g, i * 6 + 2, none⟩ (.int .i64 (k + 6 * (i : Int) + 1 + 1))).ownsRow B 74 6 (.slice (some ⟨g, 0, none⟩) n cap) n _ from h3) hb))
        have Z3 := hidP (fun (w2 : World) (hb : Below (((wr.setCell ⟨g, i * 6, none⟩ (.bool ((k + 6 * (i : Int)) % 3 == 0))).setCell ⟨g, i * 6 + 1, none⟩ (.int .i64 (k + 6 * (i : Int) + 1))).setCell ⟨g, i * 6 + 2, none⟩ (.int .i64 (k + 6 * (i : Int) + 1 + 1))).heap.size (((wr.setCell ⟨g, i * 6, none⟩ (.bool ((k + 6 * (i : Int)) % 3 == 0))).setCell ⟨g, i * 6 + 1, none⟩ (.int .i64 (k + 6 * (i : Int) + 1))).setCell ⟨g, i * 6 + 2, none⟩ (.int .i64 (k + 6 * (i : Int) + 1 + 1))) w2) (o : Nat) => World.ownsRow.frozenAt (ownsRow_later (show (((wr.setCell ⟨g, i * 6, none⟩ (.bool ((k + 6 * (i : Int)) % 3 == 0))).setCell ⟨g, i * 6 + 1, none⟩ (.int .i64 (k + 6 * (i : Int) + 1))).setCell ⟨g, i * 6 + 2, none⟩ (.int .i64 (k + 6 * (i : Int) + 1 + 1))).ownsRow B 74 6 (.slice (some ⟨g, 0, none⟩) n cap) n _ from h3) hb) o)
        have hg3 : g < (((wr.setCell ⟨g, i * 6, none⟩ (.bool ((k + 6 * (i : Int)) % 3 == 0))).setCell ⟨g, i * 6 + 1, none⟩ (.int .i64 (k + 6 * (i : Int) + 1))).setCell ⟨g, i * 6 + 2, none⟩ (.int .i64 (k + 6 * (i : Int) + 1 + 1))).heap.size := by simp; exact hp'
        have c3s : (((wr.setCell ⟨g, i * 6, none⟩ (.bool ((k + 6 * (i : Int)) % 3 == 0))).setCell ⟨g, i * 6 + 1, none⟩ (.int .i64 (k + 6 * (i : Int) + 1))).setCell ⟨g, i * 6 + 2, none⟩ (.int .i64 (k + 6 * (i : Int) + 1 + 1))).cell? ⟨g, i * 6 + 3, none⟩ = some (.string q'.t) := by simp [go_sem, c3]
        have c4s : (((wr.setCell ⟨g, i * 6, none⟩ (.bool ((k + 6 * (i : Int)) % 3 == 0))).setCell ⟨g, i * 6 + 1, none⟩ (.int .i64 (k + 6 * (i : Int) + 1))).setCell ⟨g, i * 6 + 2, none⟩ (.int .i64 (k + 6 * (i : Int) + 1 + 1))).cell? ⟨g, i * 6 + 4, none⟩ = some (.int .i64 q'.k) := by simp [go_sem, c4]
        have c5s : (((wr.setCell ⟨g, i * 6, none⟩ (.bool ((k + 6 * (i : Int)) % 3 == 0))).setCell ⟨g, i * 6 + 1, none⟩ (.int .i64 (k + 6 * (i : Int) + 1))).setCell ⟨g, i * 6 + 2, none⟩ (.int .i64 (k + 6 * (i : Int) + 1 + 1))).cell? ⟨g, i * 6 + 5, none⟩ = some (.int .i64 q'.u) := by simp [go_sem, c5]
        have C3 := hidP (And.intro hg3 (And.intro c3s (And.intro c4s c5s)))
        clear hown hgr HO hlen e0 e1 e2 hcs hfl hraw h3 hlen2 hg3 c3s c4s c5s
        go_wp2_with fail
        refine (HM.out _).mono ?_
        rintro e w2 ⟨rfl, hb2⟩
        have c3t := (hb2.cell C3.out.1).trans C3.out.2.1
        have c4t := (hb2.cell C3.out.1).trans C3.out.2.2.1
        have c5t := (hb2.cell C3.out.1).trans C3.out.2.2.2
        have fz3 := Z3.out w2 hb2 (i * 6 + 3)
        have fz4 := Z3.out w2 hb2 (i * 6 + 4)
        have fz5 := Z3.out w2 hb2 (i * 6 + 5)
        have HS := hidP (F3.out w2 hb2)
        have HG2 := hidP ((((HG.out.trans (grown_cell _ g _ _)).trans (grown_cell _ g _ _)).trans (grown_cell _ g _ _)).trans (grown_of hb2 (some g)))
        clear hb2 F3 Z3 c0 c1 c2 c3 c4 c5 f0 f1 f2 f3 f4 f5
        go_wp2_with fail
        go_roundw
        case rel =>
          refine ⟨i + 1, by omega, by go_num, by go_num, ?_, ((HG2.out.trans (grown_cell _ g _ _)).trans (grown_cell _ g _ _)).trans (grown_cell _ g _ _)⟩
          unfold OwnG
          rw [HL2.out, ← HF.out]
          exact HS.out
        case measure => simp [intOf]; omega
      · have hin : i = n := by omega
        subst hin
        have HS : Hid (OwnG KLs 74 wr B (.slice (some ⟨g, 0, none⟩) i cap) (mksG (mkLs k) i)) := by
          rw [List.drop_of_length_le (by rw [HN.out]; exact Nat.le_refl _), List.append_nil] at hown
          exact hidP hown
        have HG := hidP hgr
        clear hown hgr HO hlen
        go_wp2
        go_ret
        exact ⟨rfl, HS.out, HG.out⟩

set_option maxHeartbeats 1000000 in
theorem markBook_any (a : Option Addr) (n c B : Nat) (T N : Int) (ls : List Ls) (k : Int) (w : World) (hn : n = ls.length) (h : OwnG KLs 74 w B (.slice a n c) ls) (hl : n ≤ 9000000) (k0 : 0 < k) (k1 : k ≤ 9000000000) :
    Calls Tryz.prog 44 #[.agg #[.slice a n c, .int .i64 T, .int .i64 N], .int .i64 k] w fun e w' => e = .returned (.int .i64 (k + 6 * n)) ∧ OwnG KLs 74 w' B (.slice a n c) (mksG (mkLs k) n) ∧ w.grownBy w' (Value.slice a n c).ownBlock := by
  have HM := hidP (fun W (h' : Below w.heap.size w W) => markLeaseS_any a n c B ls k W hn (h.later h') hl k0 k1)
  clear hn h
  go_enter Tryz.func44, Tryz.ntmps44
  go_wp2_with fail
  refine (HM.out _ (alloc_below w _)).mono ?_
  rintro e w2 ⟨rfl, ho, hg⟩
  have HO := hidP (And.intro ho hg)
  clear ho hg
  go_wp2_with fail
  go_ret
  exact ⟨rfl, HO.out.1, (grown_of (alloc_below w _) _).trans HO.out.2⟩

end Go.Proofs.YtngcbhbcocnbeaaGreat
namespace Go.Proofs.YtngcbhbcocnbeaaGreat
open Go.RowKit

/-- The marks of the j-th session. -/
def mkSs (k : Int) (j : Nat) : Ss := ⟨k + 4 * (j : Int), k + 4 * (j : Int) + 1, mtT (k + 4 * (j : Int) + 1 + 1).toNat, k + 4 * (j : Int) + 1 + 1 + 1⟩
set_option maxHeartbeats 2000000 in
theorem markSessionS_any (a : Option Addr) (n cap B : Nat) (ps : List Ss) (k : Int) (w : World) (hn : n = ps.length) (h : OwnG KSs 77 w B (.slice a n cap) ps) (hl : n ≤ 9000000) (k0 : 0 < k) (k1 : k ≤ 9000000000) :
    Calls Tryz.prog 77 #[.slice a n cap, .int .i64 k] w fun e w' => e = .returned (.int .i64 (k + 4 * n)) ∧ OwnG KSs 77 w' B (.slice a n cap) (mksG (mkSs k) n) ∧ w.grownBy w' (Value.slice a n cap).ownBlock := by
  have hn' : ps.length = n := hn.symm
  clear hn
  by_cases h0 : n = 0
  · subst h0
    have HO := hidP h
    have HZ : Hid (ps = []) := List.length_eq_zero_iff.1 hn'
    clear h hn'
    go_enter Tryz.func77, Tryz.ntmps77
    go_wp2
    refine wp_loop_rounds 1 ?_
    rw [rounds_succ]
    go_wp2
    go_ret
    refine ⟨by simp, ?_, World.grownBy.refl _ _⟩
    have := HO.out; rw [HZ.out] at this; simpa [mksG] using this
  · obtain ⟨g, rfl⟩ : ∃ g, a = some ⟨g, 0, none⟩ := by
      rcases h.2 with ⟨hv, _⟩ | ⟨g, cap', cur, hv, _⟩
      · simp at hv; omega
      · simp at hv; exact ⟨g, hv.1⟩
    have HO : Hid (OwnG KSs 77 w B (.slice (some ⟨g, 0, none⟩) n cap) (mksG (mkSs k) 0 ++ ps.drop 0)) := by
      refine hidP ?_; simpa [mksG] using h
    have HN : Hid (ps.length = n) := hn'
    clear h hn'
    go_enter Tryz.func77, Tryz.ntmps77
    go_wp2
    go_loopw [1, 5] (fun t1 t5 wr => ∃ i : Nat, i ≤ n ∧ t5 = .int .i64 i ∧ t1 = .int .i64 (k + 4 * (i : Int)) ∧ OwnG KSs 77 wr B (.slice (some ⟨g, 0, none⟩) n cap) (mksG (mkSs k) i ++ ps.drop i) ∧ w.grownBy wr (some g)) (fun _ t5 _ => n - (intOf t5).toNat)
    case atStart => exact ⟨0, Nat.zero_le _, rfl, by simp, HO.out, World.grownBy.refl _ _⟩
    case round =>
      obtain ⟨i, hi, rfl, rfl, hown, hgr⟩ := hrel
      have hlen : n = (mksG (mkSs k) i ++ ps.drop i).length := by rw [List.length_append, mksG_len, List.length_drop, HN.out]; omega
      by_cases hlt : i < n
      · obtain ⟨f0, f1, f2, f3⟩ := frzSs hown i
        have hcs : KSs.cs (mkSs k i) = [.int .i64 (k + 4 * (i : Int)), .int .i64 (k + 4 * (i : Int) + 1)] ++ [.string (mtT (k + 4 * (i : Int) + 1 + 1).toNat), .int .i64 (k + 4 * (i : Int) + 1 + 1 + 1)] := rfl
        have hfl := gflat_set KSs (mksG (mkSs k) i ++ ps.drop i) i (mkSs k i) (by rw [← hlen]; exact hlt)
        rw [mksG_step (mkSs k) n i ps HN.out hlt, hcs] at hfl
        have hlen2 : (mksG (mkSs k) (i + 1) ++ ps.drop (i + 1)).length = n := by rw [List.length_append, mksG_len, List.length_drop, HN.out]; omega
        have hraw : wr.ownsRow B 77 4 (.slice (some ⟨g, 0, none⟩) n cap) n (gflat KSs (mksG (mkSs k) i ++ ps.drop i)) := by
          have := hown; unfold OwnG at this; rw [← hlen] at this; exact this
        have h3 := puts_own [.int .i64 (k + 4 * (i : Int)), .int .i64 (k + 4 * (i : Int) + 1)] wr _ (i * 4) hraw
        obtain ⟨q', hp', _, c0, c1, c2, c3⟩ := rowSs0 hown i (by rw [← hlen]; exact hlt)
        have HF := hidP hfl
        have HL2 := hidP hlen2
        have HG := hidP hgr
        have HM := hidP (markText_int (k + 4 * (i : Int) + 1 + 1) (by omega) (by omega))
        have F3 := hidP (fun (w2 : World) (hb : Below ((wr.setCell ⟨g, i * 4, none⟩ (.int .i64 (k + 4 * (i : Int)))).setCell ⟨g, i * 4 + 1, none⟩ (.int .i64 (k + 4 * (i : Int) + 1))).heap.size ((wr.setCell ⟨g, i * 4, none⟩ (.int .i64 (k + 4 * (i : Int)))).setCell ⟨g, i * 4 + 1, none⟩ (.int .i64 (k + 4 * (i : Int) + 1))) w2) => puts_own [.string (mtT (k + 4 * (i : Int) + 1 + 1).toNat), .int .i64 (k + 4 * (i : Int) + 1 + 1 + 1)] w2 _ (i * 4 + 2) (ownsRow_later (show ((wr.setCell ⟨g, i * 4, none⟩ (.int .i64 (k + 4 * (i : Int)))).setCell ⟨g, i * 4 + 1, none⟩ (.int .i64 (k + 4 * (i : Int) + 1))).ownsRow B 77 4 (.slice (some ⟨g, 0, none⟩) n cap) n _ from h3) hb))
        have Z3 := hidP (fun (w2 : World) (hb : Below ((wr.setCell ⟨g, i * 4, none⟩ (.int .i64 (k + 4 * (i : Int)))).setCell ⟨g, i * 4 + 1, none⟩ (.int .i64 (k + 4 * (i : Int) + 1))).heap.size ((wr.setCell ⟨g, i * 4, none⟩ (.int .i64 (k + 4 * (i : Int)))).setCell ⟨g, i * 4 + 1, none⟩ (.int .i64 (k + 4 * (i : Int) + 1))) w2) (o : Nat) => World.ownsRow.frozenAt (ownsRow_later (show ((wr.setCell ⟨g, i * 4, none⟩ (.int .i64 (k + 4 * (i : Int)))).setCell ⟨g, i * 4 + 1, none⟩ (.int .i64 (k + 4 * (i : Int) + 1))).ownsRow B 77 4 (.slice (some ⟨g, 0, none⟩) n cap) n _ from h3) hb) o)
        have hg3 : g < ((wr.setCell ⟨g, i * 4, none⟩ (.int .i64 (k + 4 * (i : Int)))).setCell ⟨g, i * 4 + 1, none⟩ (.int .i64 (k + 4 * (i : Int) + 1))).heap.size := by simp; exact hp'
        have c2s : ((wr.setCell ⟨g, i * 4, none⟩ (.int .i64 (k + 4 * (i : Int)))).setCell ⟨g, i * 4 + 1, none⟩ (.int .i64 (k + 4 * (i : Int) + 1))).cell? ⟨g, i * 4 + 2, none⟩ = some (.string q'.t) := by simp [go_sem, c2]
        have c3s : ((wr.setCell ⟨g, i * 4, none⟩ (.int .i64 (k + 4 * (i : Int)))).setCell ⟨g, i * 4 + 1, none⟩ (.int .i64 (k + 4 * (i : Int) + 1))).cell? ⟨g, i * 4 + 3, none⟩ = some (.int .i64 q'.u) := by simp [go_sem, c3]
        have C3 := hidP (And.intro hg3 (And.intro c2s c3s))
        clear hown hgr HO hlen hcs hfl hraw h3 hlen2 hg3 c2s c3s
        go_wp2_with fail
        refine (HM.out _).mono ?_
        rintro e w2 ⟨rfl, hb2⟩
        have c2t := (hb2.cell C3.out.1).trans C3.out.2.1
        have c3t := (hb2.cell C3.out.1).trans C3.out.2.2
        have fz2 := Z3.out w2 hb2 (i * 4 + 2)
        have fz3 := Z3.out w2 hb2 (i * 4 + 3)
        have HS := hidP (F3.out w2 hb2)
        have HG2 := hidP (((HG.out.trans (grown_cell _ g _ _)).trans (grown_cell _ g _ _)).trans (grown_of hb2 (some g)))
        clear hb2 F3 Z3 c0 c1 c2 c3 f0 f1 f2 f3
        go_wp2_with fail
        go_roundw
        case rel =>
          refine ⟨i + 1, by omega, by go_num, by go_num, ?_, (HG2.out.trans (grown_cell _ g _ _)).trans (grown_cell _ g _ _)⟩
          unfold OwnG
          rw [HL2.out, ← HF.out]
          exact HS.out
        case measure => simp [intOf]; omega
      · have hin : i = n := by omega
        subst hin
        have HS : Hid (OwnG KSs 77 wr B (.slice (some ⟨g, 0, none⟩) i cap) (mksG (mkSs k) i)) := by
          rw [List.drop_of_length_le (by rw [HN.out]; exact Nat.le_refl _), List.append_nil] at hown
          exact hidP hown
        have HG := hidP hgr
        clear hown hgr HO hlen
        go_wp2
        go_ret
        exact ⟨rfl, HS.out, HG.out⟩

set_option maxHeartbeats 1000000 in
theorem markDesk_any (a : Option Addr) (n c B : Nat) (N : Int) (ls : List Ss) (k : Int) (w : World) (hn : n = ls.length) (h : OwnG KSs 77 w B (.slice a n c) ls) (hl : n ≤ 9000000) (k0 : 0 < k) (k1 : k ≤ 9000000000) :
    Calls Tryz.prog 45 #[.agg #[.slice a n c, .int .i64 N], .int .i64 k] w fun e w' => e = .returned (.int .i64 (k + 4 * n)) ∧ OwnG KSs 77 w' B (.slice a n c) (mksG (mkSs k) n) ∧ w.grownBy w' (Value.slice a n c).ownBlock := by
  have HM := hidP (fun W (h' : Below w.heap.size w W) => markSessionS_any a n c B ls k W hn (h.later h') hl k0 k1)
  clear hn h
  go_enter Tryz.func45, Tryz.ntmps45
  go_wp2_with fail
  refine (HM.out _ (alloc_below w _)).mono ?_
  rintro e w2 ⟨rfl, ho, hg⟩
  have HO := hidP (And.intro ho hg)
  clear ho hg
  go_wp2_with fail
  go_ret
  exact ⟨rfl, HO.out.1, (grown_of (alloc_below w _) _).trans HO.out.2⟩

end Go.Proofs.YtngcbhbcocnbeaaGreat
namespace Go.Proofs.YtngcbhbcocnbeaaGreat
open Go.RowKit

/-- Rows of bytes outside of the blocks from B to D stay as they are. -/
def Bys (B D : Nat) (w w' : World) : Prop := ∀ (B' : Nat) (v : Value) (zs : List Int), Own w B' v zs → (∀ k, v.ownBlock = some k → k < B ∨ D ≤ k) → Own w' B' v zs
theorem Bys.trans {B D : Nat} {u v w : World} (h : Bys B D u v) (k : Bys B D v w) : Bys B D u w := fun B' x zs h1 h2 => k B' x zs (h B' x zs h1 h2) h2
theorem Bys.grown {B D : Nat} {w w' : World} {g n c : Nat} (k : w.grownBy w' (Value.slice (some ⟨g, 0, none⟩) n c).ownBlock) (h1 : B ≤ g) (h2 : g < D) : Bys B D w w' := fun _ _ _ h3 h4 =>
  h3.kept (u := .slice (some ⟨g, 0, none⟩) n c) k (fun j hj hg => by have h5 := h4 j hj; simp [Value.ownBlock] at hg; omega)
theorem Bys.below {B D : Nat} {w w' : World} (k : Below w.heap.size w w') : Bys B D w w' := fun _ _ _ h3 _ => h3.later k
theorem ownb (g n c : Nat) : (Value.slice (some ⟨g, 0, none⟩) n c).ownBlock = some g := rfl

theorem cell_gr {w w' : World} {p i g n c : Nat} {v : Value} (h : w.cell? ⟨p, i, none⟩ = some v) (k : w.grownBy w' (Value.slice (some ⟨g, 0, none⟩) n c).ownBlock) (hne : p ≠ g) : w'.cell? ⟨p, i, none⟩ = some v := by
  rw [World.cell?_of_block (w := w) (k.block p (World.block_lt_of_cell? w _ h) (fun e => hne (by rw [ownb] at e; simpa using e)))]
  exact h
set_option maxRecDepth 10000 in
set_option maxHeartbeats 4000000 in
theorem markState_any (g h i j np nb nl ns B D : Nat) (T N X C : Int) (ps : List Pl) (bs : List Bk) (ls : List Ls) (ss : List Ss) (w : World) (hnp : np = ps.length) (hnb : nb = bs.length) (hnl : nl = ls.length) (hns : ns = ss.length) (hP : OwnG KPl 68 w B (.slice (some ⟨g, 0, none⟩) np np) ps) (hK : OwnG KBk 71 w B (.slice (some ⟨h, 0, none⟩) nb nb) bs) (hL : OwnG KLs 74 w B (.slice (some ⟨i, 0, none⟩) nl nl) ls) (hS : OwnG KSs 77 w B (.slice (some ⟨j, 0, none⟩) ns ns) ss) (ha : Apart g h i j) (hD : (g < D ∧ h < D) ∧ (i < D ∧ j < D)) (hDw : D ≤ w.heap.size)
    (hlp : np ≤ 1048576) (hlb : nb ≤ 1048576) (hll : nl ≤ 1048576) (hls : ns ≤ 1048576) :
    Calls Tryz.prog 11 #[.agg #[.slice (some ⟨g, 0, none⟩) np np, .slice (some ⟨h, 0, none⟩) nb nb, .slice (some ⟨i, 0, none⟩) nl nl, .int .i64 T, .int .i64 N, .slice (some ⟨j, 0, none⟩) ns ns, .int .i64 X, .int .i64 C], .int .i64 1] w fun e w' => (∃ m : Int, 0 ≤ m ∧ m ≤ 100000000 ∧ e = .returned (.int .i64 m)) ∧ Bys B D w w' ∧ Below B w w' := by
  have hg := (OwnG.lt hP g rfl).1
  have hh := (OwnG.lt hK h rfl).1
  have hi := (OwnG.lt hL i rfl).1
  have hj := (OwnG.lt hS j rfl).1
  have HA := hidP ha
  have HD := hidP hD
  have hBw : B ≤ w.heap.size := by have := hD.1.1; omega
  have HMp := hidP (fun W e1 e2 => markPlan_any (some ⟨g, 0, none⟩) np np (some ⟨h, 0, none⟩) nb nb ps bs B 1 W hnp hnb e1 e2 (fun k hk hk2 => by rw [ownb] at hk hk2; simp at hk hk2; exact HA.out.1.1 (hk.trans hk2.symm)) (by omega) (by omega) (by omega) (by omega))
  have HMb := hidP (fun W e1 => markBook_any (some ⟨i, 0, none⟩) nl nl B T N ls (1 + 5 * np + 5 * nb) W hnl e1 (by omega) (by omega) (by omega))
  have HMd := hidP (fun W e1 => markDesk_any (some ⟨j, 0, none⟩) ns ns B X ss (1 + 5 * np + 5 * nb + 6 * nl) W hns e1 (by omega) (by omega) (by omega))
  have OP := hidP hP
  have OK := hidP hK
  have OL := hidP hL
  have OS := hidP hS
  clear hP hK hL hS hnp hnb hnl hns ha hD
  go_enter Tryz.func11, Tryz.ntmps11
  go_wp2_with fail
  obtain ⟨x0, x1, x2, x3, x4, x5, x6, x7⟩ := bx8 w 48 (.slice (some ⟨g, 0, none⟩) np np) (.slice (some ⟨h, 0, none⟩) nb nb) (.slice (some ⟨i, 0, none⟩) nl nl) (.int .i64 T) (.int .i64 N) (.slice (some ⟨j, 0, none⟩) ns ns) (.int .i64 X) (.int .i64 C)
  have xB := alloc_below w (.cells #[.slice (some ⟨g, 0, none⟩) np np, .slice (some ⟨h, 0, none⟩) nb nb, .slice (some ⟨i, 0, none⟩) nl nl, .int .i64 T, .int .i64 N, .slice (some ⟨j, 0, none⟩) ns ns, .int .i64 X, .int .i64 C] 48)
  have xL : w.heap.size < (w.alloc (.cells #[.slice (some ⟨g, 0, none⟩) np np, .slice (some ⟨h, 0, none⟩) nb nb, .slice (some ⟨i, 0, none⟩) nl nl, .int .i64 T, .int .i64 N, .slice (some ⟨j, 0, none⟩) ns ns, .int .i64 X, .int .i64 C] 48)).heap.size := by simp
  generalize w.alloc (.cells #[.slice (some ⟨g, 0, none⟩) np np, .slice (some ⟨h, 0, none⟩) nb nb, .slice (some ⟨i, 0, none⟩) nl nl, .int .i64 T, .int .i64 N, .slice (some ⟨j, 0, none⟩) ns ns, .int .i64 X, .int .i64 C] 48) = W1 at *
  have KB := hidP (xB.mono (B' := B) hBw)
  have KY : Hid (Bys B D w W1) := hidP (Bys.below xB)
  have OL1 := hidP (OwnG.later OL.out xB)
  have OS1 := hidP (OwnG.later OS.out xB)
  refine (HMp.out _ (OwnG.later OP.out xB) (OwnG.later OK.out xB)).mono ?_
  rintro e W2 ⟨rfl, _, _, wm, r1, r2⟩
  have n1 : ∀ q, (some q : Option Nat) = (Value.slice (some ⟨g, 0, none⟩) np np).ownBlock → q = g := fun q e => by rw [ownb] at e; simpa using e
  have n2 : ∀ q, (some q : Option Nat) = (Value.slice (some ⟨h, 0, none⟩) nb nb).ownBlock → q = h := fun q e => by rw [ownb] at e; simpa using e
  have hgd := HD.out
  have hap := HA.out
  unfold Apart at hap
  have y0 := cell_gr (cell_gr x0 r1 (by omega)) r2 (by omega)
  have y1 := cell_gr (cell_gr x1 r1 (by omega)) r2 (by omega)
  have y2 := cell_gr (cell_gr x2 r1 (by omega)) r2 (by omega)
  have y3 := cell_gr (cell_gr x3 r1 (by omega)) r2 (by omega)
  have y4 := cell_gr (cell_gr x4 r1 (by omega)) r2 (by omega)
  have y5 := cell_gr (cell_gr x5 r1 (by omega)) r2 (by omega)
  have y6 := cell_gr (cell_gr x6 r1 (by omega)) r2 (by omega)
  have y7 := cell_gr (cell_gr x7 r1 (by omega)) r2 (by omega)
  have yL : w.heap.size < W2.heap.size := Nat.lt_of_lt_of_le xL (Nat.le_trans r1.size r2.size)
  have OL2 := hidP (OwnG.grown (OwnG.grown OL1.out r1 (fun k hk => by rw [ownb] at hk ⊢; simp at hk ⊢; omega)) r2 (fun k hk => by rw [ownb] at hk ⊢; simp at hk ⊢; omega))
  have OS2 := hidP (OwnG.grown (OwnG.grown OS1.out r1 (fun k hk => by rw [ownb] at hk ⊢; simp at hk ⊢; omega)) r2 (fun k hk => by rw [ownb] at hk ⊢; simp at hk ⊢; omega))
  have KY2 := hidP (KY.out.trans ((Bys.grown r1 hg hgd.1.1).trans (Bys.grown r2 hh hgd.1.2)))
  have hs1 := xB.size
  have hs2 := r1.size
  have KB2 := hidP (Below.grown (Below.grown KB.out r1 (by omega) (fun k hk => by rw [ownb] at hk; simp at hk; omega)) r2 (by omega) (fun k hk => by rw [ownb] at hk; simp at hk; omega))
  clear r1 r2 x0 x1 x2 x3 x4 x5 x6 x7 xB xL KB KY OL1 OS1 n1 n2 hs1 hs2
  go_wp2_with fail
  refine (HMb.out _ OL2.out).mono ?_
  rintro e W3 ⟨rfl, _, r3⟩
  have z0 := cell_gr y0 r3 (by omega)
  have z1 := cell_gr y1 r3 (by omega)
  have z2 := cell_gr y2 r3 (by omega)
  have z3 := cell_gr y3 r3 (by omega)
  have z4 := cell_gr y4 r3 (by omega)
  have z5 := cell_gr y5 r3 (by omega)
  have z6 := cell_gr y6 r3 (by omega)
  have z7 := cell_gr y7 r3 (by omega)
  have zL : w.heap.size < W3.heap.size := Nat.lt_of_lt_of_le yL r3.size
  have OS3 := hidP (OwnG.grown OS2.out r3 (fun k hk => by rw [ownb] at hk ⊢; simp at hk ⊢; omega))
  have KY3 := hidP (KY2.out.trans (Bys.grown r3 hi hgd.2.1))
  have hs3 := KB2.out.size
  have KB3 := hidP (Below.grown KB2.out r3 (by omega) (fun k hk => by rw [ownb] at hk; simp at hk; omega))
  clear r3 y0 y1 y2 y3 y4 y5 y6 y7 yL KB2 KY2 OL2 OS2
  go_wp2_with fail
  refine (HMd.out _ OS3.out).mono ?_
  rintro e W4 ⟨rfl, _, r4⟩
  have KY4 := hidP (KY3.out.trans (Bys.grown r4 hj hgd.2.2))
  have hs4 := KB3.out.size
  have KB4 := hidP (Below.grown KB3.out r4 (by omega) (fun k hk => by rw [ownb] at hk; simp at hk; omega))
  clear r4 z0 z1 z2 z3 z4 z5 z6 z7 zL KB3 KY3 OS3
  go_wp2_with fail
  go_ret
  exact ⟨⟨_, by omega, by omega, rfl⟩, KY4.out, KB4.out⟩

end Go.Proofs.YtngcbhbcocnbeaaGreat
namespace Go.Proofs.YtngcbhbcocnbeaaGreat
open Go.ChangeShapes Go.WideShapes Go.ChangeAt Go.RowKit Go.Joins Go.Deep

theorem Tryz.ownB9 : ownKnob Tryz.prog.godebug = none := by kernel_rfl
theorem Tryz.laidOutB9 : laidOutB Tryz.prog = true := by kernel_rfl
theorem slice_of {H : Type} {enc : TypeId × Value → H} {W : World} {t e : TypeId} {n : Nat} {u : Value} {y : DataW H × List MemPlace} (ht : Tryz.prog.underlying t = some (.slice e)) (h : DataW.trod enc Tryz.prog W 0 (fun _ => true) true n t [u] = some y) : ∃ a l c, u = .slice a l c := by
  rcases open_slice ht h with ⟨hcs, _⟩ | ⟨a', len', cap', m, n', D, Plc, hcs, _⟩
  · simp at hcs; exact ⟨_, _, _, hcs⟩
  · simp at hcs; exact ⟨_, _, _, hcs⟩
theorem array8 {α : Type} {cs : Array α} (h : cs.size = 8) : ∃ c0 c1 c2 c3 c4 c5 c6 c7, cs = #[c0, c1, c2, c3, c4, c5, c6, c7] := by
  obtain ⟨l⟩ := cs
  match l, h with
  | [c0, c1, c2, c3, c4, c5, c6, c7], _ => exact ⟨c0, c1, c2, c3, c4, c5, c6, c7, rfl⟩
set_option maxRecDepth 100000 in
set_option maxHeartbeats 1000000 in
theorem openState {H : Type} {enc : TypeId × Value → H} {W : World} {r : Reach} {b0 : Nat} {v : Value} {d : DataW H} {p : List MemPlace} (hv : Value.okWide Tryz.prog W r b0 33 v)
    (h : DataW.Trod enc Tryz.prog W 0 (fun _ => true) true 33 v d p) : ∃ (ap : Option Addr) (np cp : Nat) (ab : Option Addr) (nb cb : Nat) (al : Option Addr) (nl cl : Nat) (T N : Int) (aS : Option Addr) (ns cs : Nat) (X C : Int) (ps : List Pl) (bs : List Bk) (ls : List Ls) (ss : List Ss), v = .agg #[.slice ap np cp, .slice ab nb cb, .slice al nl cl, .int .i64 T, .int .i64 N, .slice aS ns cs, .int .i64 X, .int .i64 C] ∧ (np = ps.length ∧ nb = bs.length ∧ nl = ls.length ∧ ns = ss.length) ∧ (RowG KPl W ap ps ∧ RowG KBk W ab bs ∧ RowG KLs W al ls ∧ RowG KSs W aS ss) ∧ (np ≤ 9223372036854775807 ∧ nb ≤ 9223372036854775807 ∧ nl ≤ 9223372036854775807 ∧ ns ≤ 9223372036854775807) ∧ (∀ q ∈ bs, q.t.size ≤ 9223372036854775807) ∧ (∀ q ∈ ls, q.t.size ≤ 9223372036854775807) ∧ (∀ q ∈ ss, q.t.size ≤ 9223372036854775807) := by
  obtain ⟨cs, rfl, hsz⟩ := okWide_struct Tryz.underlying33 hv
  have hC : Tryz.prog.cellsOf 33 = 8 := by kernel_rfl
  obtain ⟨c0, c1, c2, c3, c4, c5, c6, c7, rfl⟩ := array8 (hsz.trans hC)
  obtain ⟨fuel, hf⟩ := h
  obtain ⟨xs, n, _, _, _, hlen, hx⟩ := DataW.trod_struct Tryz.underlying33 hf
  have kP : Tryz.prog.cellsOf 25 = 2 := by kernel_rfl
  have kB : Tryz.prog.cellsOf 28 = 3 := by kernel_rfl
  have kD : Tryz.prog.cellsOf 31 = 2 := by kernel_rfl
  have ki : Tryz.prog.cellsOf 3 = 1 := by kernel_rfl
  have k1 : Tryz.prog.cellsOf 22 = 1 := by kernel_rfl
  have k2 : Tryz.prog.cellsOf 23 = 1 := by kernel_rfl
  have k3 : Tryz.prog.cellsOf 26 = 1 := by kernel_rfl
  have k4 : Tryz.prog.cellsOf 29 = 1 := by kernel_rfl
  match xs, hlen with
  | [y0, y1, y2, y3], _ =>
    have f0 := hx 0 _ rfl; have f1 := hx 1 _ rfl; have f2 := hx 2 _ rfl; have f3 := hx 3 _ rfl
    simp [Value.cells, kP, kB, kD, ki] at f0 f1 f2 f3
    obtain ⟨z0, z1, m, _, _, g0, g1⟩ := trod_struct2 Tryz.underlying25 f0
    simp [k1, k2] at g0 g1
    obtain ⟨u0, u1, u2, m2, _, _, j0, j1, j2⟩ := trod_struct3 Tryz.underlying28 f1
    simp [k3, ki] at j0 j1 j2
    obtain ⟨w0, w1, m3, _, _, l0, l1⟩ := trod_struct2 Tryz.underlying31 f2
    simp [k4, ki] at l0 l1
    obtain ⟨ap, np, cp, rfl⟩ := slice_of Tryz.underlying22 g0
    obtain ⟨ab, nb, cb, rfl⟩ := slice_of Tryz.underlying23 g1
    obtain ⟨al, nl, cl, rfl⟩ := slice_of Tryz.underlying26 j0
    obtain ⟨aS, ns, cs, rfl⟩ := slice_of Tryz.underlying29 l0
    obtain ⟨ps, e1, q1, r1⟩ := openPl (enc := enc) (W := W) (a := ap) (len := np) (cap := cp) (d := z0.1) (p := z0.2) ⟨m, by simpa [Value.cells] using g0⟩
    obtain ⟨bs, e2, q2, r2, s2⟩ := openBk2 (enc := enc) (W := W) (a := ab) (len := nb) (cap := cb) (d := z1.1) (p := z1.2) ⟨m, by simpa [Value.cells] using g1⟩
    obtain ⟨ls, e3, q3, r3, s3⟩ := openLs (enc := enc) (W := W) (a := al) (len := nl) (cap := cl) (d := u0.1) (p := u0.2) ⟨m2, by simpa [Value.cells] using j0⟩
    obtain ⟨ss, e4, q4, r4, s4⟩ := openSs (enc := enc) (W := W) (a := aS) (len := ns) (cap := cs) (d := w0.1) (p := w0.2) ⟨m3, by simpa [Value.cells] using l0⟩
    obtain ⟨T, eT, _, _⟩ := DataW.trod_int Tryz.underlying3 j1
    obtain ⟨N, eN, _, _⟩ := DataW.trod_int Tryz.underlying3 j2
    obtain ⟨X, eX, _, _⟩ := DataW.trod_int Tryz.underlying3 l1
    obtain ⟨C, eC, _, _⟩ := DataW.trod_int Tryz.underlying3 f3
    simp at eT eN eX eC
    subst eT eN eX eC
    exact ⟨ap, np, cp, ab, nb, cb, al, nl, cl, T, N, aS, ns, cs, X, C, ps, bs, ls, ss, rfl, ⟨e1.symm, e2.symm, e3.symm, e4.symm⟩, ⟨r1, r2, r3, r4⟩, ⟨q1, q2, q3, q4⟩, s2, s3, s4⟩

end Go.Proofs.YtngcbhbcocnbeaaGreat
namespace Go.Proofs.YtngcbhbcocnbeaaGreat
open Go.RowKit

/-- The marks k, k + 1 .. of n bytes. -/
def mks (k : Int) (n : Nat) : List Int := (List.range n).map fun (j : Nat) => IntKind.u8.wrap (k + (j : Int))
theorem mks_len (k : Int) (n : Nat) : (mks k n).length = n := by simp [mks]
theorem mks_at (k : Int) (n j : Nat) (h : j < n) : (mks k n)[j]? = some (IntKind.u8.wrap (k + (j : Int))) := by simp [mks, h]
theorem mks_step (k : Int) (n i : Nat) (zs : List Int) (hl : zs.length = n) (hi : i < n) :
    (((mks k i ++ zs.drop i).map (Value.int .u8)).set i (.int .u8 (IntKind.u8.wrap (k + (i : Int))))) = (mks k (i + 1) ++ zs.drop (i + 1)).map (Value.int .u8) := by
  have e : mks k (i + 1) = mks k i ++ [IntKind.u8.wrap (k + (i : Int))] := by simp [mks, List.range_succ]
  have hd : zs.drop i = zs[i] :: zs.drop (i + 1) := List.drop_eq_getElem_cons (by omega)
  rw [e, hd, List.map_append, List.set_append_right _ _ (by simp [mks]), List.map_cons]
  simp [mks]

set_option maxRecDepth 10000 in
set_option maxHeartbeats 1000000 in
theorem markByteS_any (a : Option Addr) (cap B : Nat) (zs : List Int) (k : Int) (w : World) (h : Own w B (.slice a zs.length cap) zs) (hl : zs.length ≤ 9000000000) (k0 : 0 ≤ k) (k1 : k ≤ 9000000000) :
    Calls Tryz.prog 12 #[.slice a zs.length cap, .int .i64 k] w fun e w' => e = .returned (.int .i64 (k + zs.length)) ∧ Own w' B (.slice a zs.length cap) (mks k zs.length) ∧ w.grownBy w' (Value.slice a zs.length cap).ownBlock := by
  obtain ⟨n, hn⟩ : ∃ n, n = zs.length := ⟨_, rfl⟩
  rw [← hn]
  rw [← hn] at hl h
  have hn' : zs.length = n := hn.symm
  clear hn
  by_cases h0 : n = 0
  · subst h0
    have HO : Hid (Own w B (.slice a 0 cap) zs) := h
    have HZ : Hid (zs = []) := List.length_eq_zero_iff.1 hn'
    clear h hn'
    go_enter Tryz.func12, Tryz.ntmps12
    go_wp2
    refine wp_loop_rounds 1 ?_
    rw [rounds_succ]
    go_wp2
    go_ret
    refine ⟨by simp, ?_, World.grownBy.refl _ _⟩
    have := HO.out; rw [HZ.out] at this; simpa [mks] using this
  · obtain ⟨g, rfl⟩ : ∃ g, a = some ⟨g, 0, none⟩ := by
      rcases h.2 with ⟨hv, _⟩ | ⟨g, cap', cur, hv, _⟩
      · simp at hv; omega
      · simp at hv; exact ⟨g, hv.1⟩
    have HO : Hid (w.ownsRow B 5 1 (.slice (some ⟨g, 0, none⟩) n cap) n ((mks k 0 ++ zs.drop 0).map (Value.int .u8))) := by
      unfold Hid; unfold Own at h; rw [hn'] at h; simpa [mks] using h
    have HN : Hid (zs.length = n) := hn'
    clear h hn'
    go_enter Tryz.func12, Tryz.ntmps12
    go_wp2
    go_loopw [1, 5] (fun t1 t5 wr => ∃ i : Nat, i ≤ n ∧ t5 = .int .i64 i ∧ t1 = .int .i64 (k + i) ∧ wr.ownsRow B 5 1 (.slice (some ⟨g, 0, none⟩) n cap) n ((mks k i ++ zs.drop i).map (Value.int .u8)) ∧ w.grownBy wr (some g)) (fun _ t5 _ => n - (intOf t5).toNat)
    case atStart => exact ⟨0, Nat.zero_le _, rfl, by simp, HO.out, World.grownBy.refl _ _⟩
    case round =>
      obtain ⟨i, hi, rfl, rfl, hown, hgr⟩ := hrel
      by_cases hlt : i < n
      · have ce : ∃ v, wr.cell? ⟨g, i, none⟩ = some v := by
          have h := hown.cellAt i (by omega)
          rw [h, List.getElem?_eq_getElem (by have := HN.out; simp [mks]; omega)]
          exact ⟨_, rfl⟩
        obtain ⟨v0, ce⟩ := ce
        have cf := hown.frozenAt i
        have st := hown.stored i (.int .u8 (IntKind.u8.wrap (k + (i : Int))))
        rw [mks_step k n i zs HN.out hlt] at st
        have HS : Hid (_ ∧ _) := st
        have HG : Hid (w.grownBy wr (some g)) := hgr
        clear st hown hgr HO
        go_wp2
        go_roundw
        case rel => exact ⟨i + 1, by omega, by go_num, by go_num, HS.out.1, HG.out.trans HS.out.2⟩
        case measure => simp [intOf]; omega
      · have hin : i = n := by omega
        subst hin
        have HS : Hid (Own wr B (.slice (some ⟨g, 0, none⟩) i cap) (mks k i)) := by
          unfold Hid Own
          rw [mks_len]
          rw [List.drop_of_length_le (by rw [HN.out]; exact Nat.le_refl _), List.append_nil] at hown
          exact hown
        have HG : Hid (w.grownBy wr (some g)) := hgr
        clear hown hgr HO
        go_wp2
        go_ret
        exact ⟨rfl, HS.out, HG.out⟩

set_option maxRecDepth 10000 in
set_option maxHeartbeats 1000000 in
theorem heldByteS_any (a : Option Addr) (cap n : Nat) (k : Int) (w : World) (h : Byt w a (mks k n)) (hl : n ≤ 9000000000) (k0 : 0 ≤ k) (k1 : k ≤ 9000000000) :
    Calls Tryz.prog 13 #[.slice a n cap, .int .i64 k] w fun e w' => e = .returned (.int .i64 (k + n)) ∧ Below w.heap.size w w' := by
  have HB : Hid (Byt w a (mks k n)) := h
  clear h
  go_enter Tryz.func13, Tryz.ntmps13
  go_wp2
  go_loop [1, 5] (fun t1 t5 => ∃ i : Nat, i ≤ n ∧ t5 = .int .i64 i ∧ t1 = .int .i64 (k + i)) (fun _ t5 => n - (intOf t5).toNat)
  case atStart => exact ⟨0, Nat.zero_le _, rfl, by simp⟩
  case round =>
    obtain ⟨i, hi, rfl, rfl⟩ := hrel
    by_cases hlt : i < n
    · obtain ⟨p, o, z, rfl, hp, hc, hz⟩ := HB.out i (by rw [mks_len]; exact hlt)
      rw [mks_at k n i hlt] at hz
      have hz' : IntKind.u8.wrap (k + (i : Int)) = z := by simpa using hz
      subst hz'
      clear hz
      have hb1 : (IntKind.u8.wrap (k + (i : Int)) != IntKind.u8.wrap (k + (i : Int))) = false := by simp
      go_wp2
      go_round
      case rel => exact ⟨i + 1, by omega, by go_num, by go_num⟩
      case measure => simp [intOf]; omega
    · have hin : i = n := by omega
      subst hin
      go_wp2
      go_ret
      exact ⟨rfl, Below.refl _ _⟩

end Go.Proofs.YtngcbhbcocnbeaaGreat
namespace Go.Proofs.YtngcbhbcocnbeaaGreat
open Go.ChangeShapes Go.WideShapes Go.ChangeAt Go.RowKit Go.Joins Go.Deep

theorem frz_gr {w w' : World} {p o g n c : Nat} (k : w.grownBy w' (Value.slice (some ⟨g, 0, none⟩) n c).ownBlock) (hl : p < w.heap.size) (h : w.frozen? ⟨p, o, none⟩ = false) (hne : p ≠ g) : w'.frozen? ⟨p, o, none⟩ = false := by
  have e := k.block p hl (fun e => hne (by rw [ownb] at e; simpa using e))
  unfold World.frozen? at h ⊢
  rw [e]; exact h
set_option maxRecDepth 10000 in
set_option maxHeartbeats 8000000 in
theorem lawPutState (ap : Option Addr) (np cp : Nat) (ab : Option Addr) (nb cb : Nat) (al : Option Addr) (nl cl : Nat) (T N : Int) (aS : Option Addr) (ns cs : Nat) (X C : Int) (ps : List Pl) (bs : List Bk) (ls : List Ls) (ss : List Ss) (w : World) (hnp : np = ps.length) (hnb : nb = bs.length) (hnl : nl = ls.length) (hns : ns = ss.length) (hP : RowG KPl w ap ps) (hK : RowG KBk w ab bs) (hL : RowG KLs w al ls) (hS : RowG KSs w aS ss) (h9p : np ≤ 9223372036854775807) (h9b : nb ≤ 9223372036854775807) (h9l : nl ≤ 9223372036854775807) (h9s : ns ≤ 9223372036854775807) (hsb : ∀ q ∈ bs, q.t.size ≤ 9223372036854775807) (hsl : ∀ q ∈ ls, q.t.size ≤ 9223372036854775807) (hss : ∀ q ∈ ss, q.t.size ≤ 9223372036854775807) :
    Calls Tryz.prog 3 #[.agg #[.slice ap np cp, .slice ab nb cb, .slice al nl cl, .int .i64 T, .int .i64 N, .slice aS ns cs, .int .i64 X, .int .i64 C]] w fun e w' => e = .returned (.bool true) ∧ Below w.heap.size w w' := by
  have HSz := hidP (fun W h => szState_any ap np cp ab nb cb al nl cl T N aS ns cs X C ps bs ls ss W hnp hnb hnl hns (hK.later h) (hL.later h) (hS.later h) h9p h9b h9l h9s hsb hsl hss)
  by_cases ht : totS ps bs ls ss ≤ 1048576
  · rw [szT_yes ht] at HSz
    have n1 := totP_nn ps bs
    have n2 := totB_nn ls
    have n3 := totD_nn ss
    have hlp : np ≤ 1048576 := by unfold totS at ht; unfold totP at ht; omega
    have hlb : nb ≤ 1048576 := by unfold totS at ht; unfold totP at ht; omega
    have hll : nl ≤ 1048576 := by unfold totS at ht; unfold totB at ht; omega
    have hls : ns ≤ 1048576 := by unfold totS at ht; unfold totD at ht; omega
    have HTo := hidP (fun W h => toState2_any ap np cp ab nb cb al nl cl T N aS ns cs X C ps bs ls ss W hnp hnb hnl hns (hP.later h) (hK.later h) (hL.later h) (hS.later h) hlp hlb hll hls)
    have HEq := hidP (fun W g h i j g' h' i' j' e1 e2 e3 e4 e5 e6 e7 e8 => eqState_same (some ⟨g, 0, none⟩) np np (some ⟨h, 0, none⟩) nb nb (some ⟨i, 0, none⟩) nl nl T N (some ⟨j, 0, none⟩) ns ns X C ps bs ls ss (some ⟨g', 0, none⟩) np (some ⟨h', 0, none⟩) nb (some ⟨i', 0, none⟩) nl (some ⟨j', 0, none⟩) ns W hnp hnb hnl hns e1 e2 e3 e4 e5 e6 e7 e8 (by omega) (by omega) (by omega) (by omega))
    obtain ⟨Zf, hzl, hzf, hSp, hIm⟩ := putS_both np nb nl ns T N X C ps bs ls ss hnp hnb hnl hns hlp hlb hll hls hsb hsl
    have HSp := hidP hSp
    have HIm := hidP hIm
    have HMk := hidP (fun g h i j B D W e1 e2 e3 e4 e5 e6 e7 => markState_any g h i j np nb nl ns B D T N X C ps bs ls ss W hnp hnb hnl hns e1 e2 e3 e4 e5 e6 e7 hlp hlb hll hls)
    have d1 : decide (1048576 - totS ps bs ls ss < 0) = false := decide_eq_false (by omega)
    have d2 : ¬ (1048576 - totS ps bs ls ss < 0) := by omega
    generalize 1048576 - totS ps bs ls ss = z at *
    clear hP hK hL hS hnp hnb hnl hns hsb hsl hss ht n1 n2 n3 hSp hIm hzf
    go_enter Tryz.func3, Tryz.ntmps3
    go_wp2_with fail
    obtain ⟨ab0_W1, ab1_W1, ab2_W1, ab3_W1, ab4_W1, ab5_W1, ab6_W1, ab7_W1⟩ := bx8 w 33 (.slice ap np cp) (.slice ab nb cb) (.slice al nl cl) (.int .i64 T) (.int .i64 N) (.slice aS ns cs) (.int .i64 X) (.int .i64 C)
    have abF_W1 : ∀ o, (w.alloc (.cells #[.slice ap np cp, .slice ab nb cb, .slice al nl cl, .int .i64 T, .int .i64 N, .slice aS ns cs, .int .i64 X, .int .i64 C] 33)).frozen? ⟨w.heap.size, o, none⟩ = false := fun o => by simp [go_sem]
    have abL_W1 : w.heap.size < (w.alloc (.cells #[.slice ap np cp, .slice ab nb cb, .slice al nl cl, .int .i64 T, .int .i64 N, .slice aS ns cs, .int .i64 X, .int .i64 C] 33)).heap.size := by simp
    have ab_W1 := alloc_below w (.cells #[.slice ap np cp, .slice ab nb cb, .slice al nl cl, .int .i64 T, .int .i64 N, .slice aS ns cs, .int .i64 X, .int .i64 C] 33)
    have as_W1 : Hid ((w.alloc (.cells #[.slice ap np cp, .slice ab nb cb, .slice al nl cl, .int .i64 T, .int .i64 N, .slice aS ns cs, .int .i64 X, .int .i64 C] 33)).heap.size = w.heap.size + 1) := hidP (by simp)
    generalize w.alloc (.cells #[.slice ap np cp, .slice ab nb cb, .slice al nl cl, .int .i64 T, .int .i64 N, .slice aS ns cs, .int .i64 X, .int .i64 C] 33) = W1 at *
    have acc_W1 := hidP (ab_W1)
    have sz_W1 : Hid (w.heap.size ≤ W1.heap.size) := hidP ab_W1.size
    clear ab_W1 
    refine (HSz.out _ acc_W1.out).mono ?_
    rintro e w2 ⟨rfl, hb2⟩
    have ab0_w2 := (hb2.cell abL_W1).trans ab0_W1
    have ab1_w2 := (hb2.cell abL_W1).trans ab1_W1
    have ab2_w2 := (hb2.cell abL_W1).trans ab2_W1
    have ab3_w2 := (hb2.cell abL_W1).trans ab3_W1
    have ab4_w2 := (hb2.cell abL_W1).trans ab4_W1
    have ab5_w2 := (hb2.cell abL_W1).trans ab5_W1
    have ab6_w2 := (hb2.cell abL_W1).trans ab6_W1
    have ab7_w2 := (hb2.cell abL_W1).trans ab7_W1
    have abF_w2 : ∀ o, w2.frozen? ⟨w.heap.size, o, none⟩ = false := fun o => (hb2.frozen abL_W1).trans (abF_W1 o)
    have abL_w2 : w.heap.size < w2.heap.size := Nat.lt_of_lt_of_le abL_W1 hb2.size
    have acc_w2 := hidP (acc_W1.out.trans (hb2.mono acc_W1.out.size))
    have sz_w2 : Hid (W1.heap.size ≤ w2.heap.size) := hidP hb2.size
    clear hb2 ab0_W1 ab1_W1 ab2_W1 ab3_W1 ab4_W1 ab5_W1 ab6_W1 ab7_W1 abF_W1 abL_W1 acc_W1
    go_wp2_with fail
    refine (HTo.out _ acc_w2.out).mono ?_
    rintro e w3 ⟨g3, h3, i3, j3, rfl, og3, oh3, oi3, oj3, ap3, hb3⟩
    have OP3 := hidP og3
    have OQ3 := hidP oh3
    have OR3 := hidP oi3
    have OS3 := hidP oj3
    clear og3 oh3 oi3 oj3
    clear ap3
    have ab0_w3 := (hb3.cell abL_w2).trans ab0_w2
    have ab1_w3 := (hb3.cell abL_w2).trans ab1_w2
    have ab2_w3 := (hb3.cell abL_w2).trans ab2_w2
    have ab3_w3 := (hb3.cell abL_w2).trans ab3_w2
    have ab4_w3 := (hb3.cell abL_w2).trans ab4_w2
    have ab5_w3 := (hb3.cell abL_w2).trans ab5_w2
    have ab6_w3 := (hb3.cell abL_w2).trans ab6_w2
    have ab7_w3 := (hb3.cell abL_w2).trans ab7_w2
    have abF_w3 : ∀ o, w3.frozen? ⟨w.heap.size, o, none⟩ = false := fun o => (hb3.frozen abL_w2).trans (abF_w2 o)
    have abL_w3 : w.heap.size < w3.heap.size := Nat.lt_of_lt_of_le abL_w2 hb3.size
    have acc_w3 := hidP (acc_w2.out.trans (hb3.mono acc_w2.out.size))
    have sz_w3 : Hid (w2.heap.size ≤ w3.heap.size) := hidP hb3.size
    clear hb3 ab0_w2 ab1_w2 ab2_w2 ab3_w2 ab4_w2 ab5_w2 ab6_w2 ab7_w2 abF_w2 abL_w2 acc_w2
    go_wp2_with fail
    refine (HSp.out (some ⟨g3, 0, none⟩) (some ⟨h3, 0, none⟩) (some ⟨i3, 0, none⟩) (some ⟨j3, 0, none⟩) np nb nl ns _ OP3.out.row OQ3.out.row OR3.out.row OS3.out.row).mono ?_
    rintro e w4 ⟨g4, c4, rfl, ov, hb4⟩
    clear OP3 OQ3 OR3 OS3
    have OV := hidP ov
    have vB : Hid (g4 < w4.heap.size) := hidP (ov.lt g4 rfl).2
    clear ov
    have ab0_w4 := (hb4.cell abL_w3).trans ab0_w3
    have ab1_w4 := (hb4.cell abL_w3).trans ab1_w3
    have ab2_w4 := (hb4.cell abL_w3).trans ab2_w3
    have ab3_w4 := (hb4.cell abL_w3).trans ab3_w3
    have ab4_w4 := (hb4.cell abL_w3).trans ab4_w3
    have ab5_w4 := (hb4.cell abL_w3).trans ab5_w3
    have ab6_w4 := (hb4.cell abL_w3).trans ab6_w3
    have ab7_w4 := (hb4.cell abL_w3).trans ab7_w3
    have abF_w4 : ∀ o, w4.frozen? ⟨w.heap.size, o, none⟩ = false := fun o => (hb4.frozen abL_w3).trans (abF_w3 o)
    have abL_w4 : w.heap.size < w4.heap.size := Nat.lt_of_lt_of_le abL_w3 hb4.size
    have acc_w4 := hidP (acc_w3.out.trans (hb4.mono acc_w3.out.size))
    have sz_w4 : Hid (w3.heap.size ≤ w4.heap.size) := hidP hb4.size
    clear hb4 ab0_w3 ab1_w3 ab2_w3 ab3_w3 ab4_w3 ab5_w3 ab6_w3 ab7_w3 abF_w3 abL_w3 acc_w3
    have yv_w4 := hidP OV.out
    clear OV
    go_wp2_with fail
    refine (HTo.out _ acc_w4.out).mono ?_
    rintro e w5 ⟨g5, h5, i5, j5, rfl, og5, oh5, oi5, oj5, ap5, hb5⟩
    have HAp := hidP ap5
    have HDl : Hid ((g5 < w5.heap.size ∧ h5 < w5.heap.size) ∧ (i5 < w5.heap.size ∧ j5 < w5.heap.size)) := hidP ⟨⟨(OwnG.lt og5 g5 rfl).2, (OwnG.lt oh5 h5 rfl).2⟩, (OwnG.lt oi5 i5 rfl).2, (OwnG.lt oj5 j5 rfl).2⟩
    clear ap5
    have OP5 := hidP og5
    have OQ5 := hidP oh5
    have OR5 := hidP oi5
    have OS5 := hidP oj5
    clear og5 oh5 oi5 oj5
    have yv_w5 := hidP (yv_w4.out.later hb5)
    clear yv_w4
    have ab0_w5 := (hb5.cell abL_w4).trans ab0_w4
    have ab1_w5 := (hb5.cell abL_w4).trans ab1_w4
    have ab2_w5 := (hb5.cell abL_w4).trans ab2_w4
    have ab3_w5 := (hb5.cell abL_w4).trans ab3_w4
    have ab4_w5 := (hb5.cell abL_w4).trans ab4_w4
    have ab5_w5 := (hb5.cell abL_w4).trans ab5_w4
    have ab6_w5 := (hb5.cell abL_w4).trans ab6_w4
    have ab7_w5 := (hb5.cell abL_w4).trans ab7_w4
    have abF_w5 : ∀ o, w5.frozen? ⟨w.heap.size, o, none⟩ = false := fun o => (hb5.frozen abL_w4).trans (abF_w4 o)
    have abL_w5 : w.heap.size < w5.heap.size := Nat.lt_of_lt_of_le abL_w4 hb5.size
    have acc_w5 := hidP (acc_w4.out.trans (hb5.mono acc_w4.out.size))
    have sz_w5 : Hid (w4.heap.size ≤ w5.heap.size) := hidP hb5.size
    clear hb5 ab0_w4 ab1_w4 ab2_w4 ab3_w4 ab4_w4 ab5_w4 ab6_w4 ab7_w4 abF_w4 abL_w4 acc_w4
    have oP5_w5 := hidP (OP5.out)
    have oQ5_w5 := hidP (OQ5.out)
    have oR5_w5 := hidP (OR5.out)
    have oS5_w5 := hidP (OS5.out)
    clear OP5 OQ5 OR5 OS5
    go_wp2_with fail
    obtain ⟨xa0_W6, xa1_W6, xa2_W6, xa3_W6, xa4_W6, xa5_W6, xa6_W6, xa7_W6⟩ := bx8 w5 48 (.slice (some ⟨g5, 0, none⟩) np np) (.slice (some ⟨h5, 0, none⟩) nb nb) (.slice (some ⟨i5, 0, none⟩) nl nl) (.int .i64 T) (.int .i64 N) (.slice (some ⟨j5, 0, none⟩) ns ns) (.int .i64 X) (.int .i64 C)
    have xaF_W6 : ∀ o, (w5.alloc (.cells #[.slice (some ⟨g5, 0, none⟩) np np, .slice (some ⟨h5, 0, none⟩) nb nb, .slice (some ⟨i5, 0, none⟩) nl nl, .int .i64 T, .int .i64 N, .slice (some ⟨j5, 0, none⟩) ns ns, .int .i64 X, .int .i64 C] 48)).frozen? ⟨w5.heap.size, o, none⟩ = false := fun o => by simp [go_sem]
    have xaL_W6 : w5.heap.size < (w5.alloc (.cells #[.slice (some ⟨g5, 0, none⟩) np np, .slice (some ⟨h5, 0, none⟩) nb nb, .slice (some ⟨i5, 0, none⟩) nl nl, .int .i64 T, .int .i64 N, .slice (some ⟨j5, 0, none⟩) ns ns, .int .i64 X, .int .i64 C] 48)).heap.size := by simp
    have ab_W6 := alloc_below w5 (.cells #[.slice (some ⟨g5, 0, none⟩) np np, .slice (some ⟨h5, 0, none⟩) nb nb, .slice (some ⟨i5, 0, none⟩) nl nl, .int .i64 T, .int .i64 N, .slice (some ⟨j5, 0, none⟩) ns ns, .int .i64 X, .int .i64 C] 48)
    have as_W6 : Hid ((w5.alloc (.cells #[.slice (some ⟨g5, 0, none⟩) np np, .slice (some ⟨h5, 0, none⟩) nb nb, .slice (some ⟨i5, 0, none⟩) nl nl, .int .i64 T, .int .i64 N, .slice (some ⟨j5, 0, none⟩) ns ns, .int .i64 X, .int .i64 C] 48)).heap.size = w5.heap.size + 1) := hidP (by simp)
    generalize w5.alloc (.cells #[.slice (some ⟨g5, 0, none⟩) np np, .slice (some ⟨h5, 0, none⟩) nb nb, .slice (some ⟨i5, 0, none⟩) nl nl, .int .i64 T, .int .i64 N, .slice (some ⟨j5, 0, none⟩) ns ns, .int .i64 X, .int .i64 C] 48) = W6 at *
    have yv_W6 := hidP (yv_w5.out.later ab_W6)
    clear yv_w5
    have ab0_W6 := (ab_W6.cell abL_w5).trans ab0_w5
    have ab1_W6 := (ab_W6.cell abL_w5).trans ab1_w5
    have ab2_W6 := (ab_W6.cell abL_w5).trans ab2_w5
    have ab3_W6 := (ab_W6.cell abL_w5).trans ab3_w5
    have ab4_W6 := (ab_W6.cell abL_w5).trans ab4_w5
    have ab5_W6 := (ab_W6.cell abL_w5).trans ab5_w5
    have ab6_W6 := (ab_W6.cell abL_w5).trans ab6_w5
    have ab7_W6 := (ab_W6.cell abL_w5).trans ab7_w5
    have abF_W6 : ∀ o, W6.frozen? ⟨w.heap.size, o, none⟩ = false := fun o => (ab_W6.frozen abL_w5).trans (abF_w5 o)
    have abL_W6 : w.heap.size < W6.heap.size := Nat.lt_of_lt_of_le abL_w5 ab_W6.size
    have oP5_W6 := hidP (OwnG.later oP5_w5.out ab_W6)
    have oQ5_W6 := hidP (OwnG.later oQ5_w5.out ab_W6)
    have oR5_W6 := hidP (OwnG.later oR5_w5.out ab_W6)
    have oS5_W6 := hidP (OwnG.later oS5_w5.out ab_W6)
    have acc_W6 := hidP (acc_w5.out.trans (ab_W6.mono acc_w5.out.size))
    have sz_W6 : Hid (w5.heap.size ≤ W6.heap.size) := hidP ab_W6.size
    clear ab_W6 ab0_w5 ab1_w5 ab2_w5 ab3_w5 ab4_w5 ab5_w5 ab6_w5 ab7_w5 abF_w5 abL_w5 oP5_w5 oQ5_w5 oR5_w5 oS5_w5 acc_w5
    refine (HIm.out (some ⟨g5, 0, none⟩) (some ⟨h5, 0, none⟩) (some ⟨i5, 0, none⟩) (some ⟨j5, 0, none⟩) np nb nl ns _ oP5_W6.out.row oQ5_W6.out.row oR5_W6.out.row oS5_W6.out.row).mono ?_
    rintro e w7 ⟨g7, c7, rfl, og, hb7⟩
    have OGG := hidP og
    have gB : Hid (w5.heap.size ≤ g7) := hidP (by have h1 := (og.lt g7 rfl).1; have h2 := as_W6.out; omega)
    clear og
    have yv_w7 := hidP (yv_W6.out.later hb7)
    clear yv_W6
    have ab0_w7 := (hb7.cell abL_W6).trans ab0_W6
    have ab1_w7 := (hb7.cell abL_W6).trans ab1_W6
    have ab2_w7 := (hb7.cell abL_W6).trans ab2_W6
    have ab3_w7 := (hb7.cell abL_W6).trans ab3_W6
    have ab4_w7 := (hb7.cell abL_W6).trans ab4_W6
    have ab5_w7 := (hb7.cell abL_W6).trans ab5_W6
    have ab6_w7 := (hb7.cell abL_W6).trans ab6_W6
    have ab7_w7 := (hb7.cell abL_W6).trans ab7_W6
    have abF_w7 : ∀ o, w7.frozen? ⟨w.heap.size, o, none⟩ = false := fun o => (hb7.frozen abL_W6).trans (abF_W6 o)
    have abL_w7 : w.heap.size < w7.heap.size := Nat.lt_of_lt_of_le abL_W6 hb7.size
    have xa0_w7 := (hb7.cell xaL_W6).trans xa0_W6
    have xa1_w7 := (hb7.cell xaL_W6).trans xa1_W6
    have xa2_w7 := (hb7.cell xaL_W6).trans xa2_W6
    have xa3_w7 := (hb7.cell xaL_W6).trans xa3_W6
    have xa4_w7 := (hb7.cell xaL_W6).trans xa4_W6
    have xa5_w7 := (hb7.cell xaL_W6).trans xa5_W6
    have xa6_w7 := (hb7.cell xaL_W6).trans xa6_W6
    have xa7_w7 := (hb7.cell xaL_W6).trans xa7_W6
    have xaF_w7 : ∀ o, w7.frozen? ⟨w5.heap.size, o, none⟩ = false := fun o => (hb7.frozen xaL_W6).trans (xaF_W6 o)
    have xaL_w7 : w5.heap.size < w7.heap.size := Nat.lt_of_lt_of_le xaL_W6 hb7.size
    have oP5_w7 := hidP (OwnG.later oP5_W6.out hb7)
    have oQ5_w7 := hidP (OwnG.later oQ5_W6.out hb7)
    have oR5_w7 := hidP (OwnG.later oR5_W6.out hb7)
    have oS5_w7 := hidP (OwnG.later oS5_W6.out hb7)
    have acc_w7 := hidP (acc_W6.out.trans (hb7.mono acc_W6.out.size))
    have sz_w7 : Hid (W6.heap.size ≤ w7.heap.size) := hidP hb7.size
    clear hb7 ab0_W6 ab1_W6 ab2_W6 ab3_W6 ab4_W6 ab5_W6 ab6_W6 ab7_W6 abF_W6 abL_W6 xa0_W6 xa1_W6 xa2_W6 xa3_W6 xa4_W6 xa5_W6 xa6_W6 xa7_W6 xaF_W6 xaL_W6 oP5_W6 oQ5_W6 oR5_W6 oS5_W6 acc_W6
    have yg_w7 := hidP (OGG.out)
    clear OGG
    go_wp2_with fail
    refine (eqByteS_any _ _ _ _ Zf Zf _ yg_w7.out.bytA yv_w7.out.bytA (by omega) (by omega)).mono ?_
    rw [eqL_same]
    rintro e w8 ⟨rfl, hb8⟩
    have yv_w8 := hidP (yv_w7.out.later hb8)
    have yg_w8 := hidP (yg_w7.out.later hb8)
    clear yv_w7 yg_w7
    have ab0_w8 := (hb8.cell abL_w7).trans ab0_w7
    have ab1_w8 := (hb8.cell abL_w7).trans ab1_w7
    have ab2_w8 := (hb8.cell abL_w7).trans ab2_w7
    have ab3_w8 := (hb8.cell abL_w7).trans ab3_w7
    have ab4_w8 := (hb8.cell abL_w7).trans ab4_w7
    have ab5_w8 := (hb8.cell abL_w7).trans ab5_w7
    have ab6_w8 := (hb8.cell abL_w7).trans ab6_w7
    have ab7_w8 := (hb8.cell abL_w7).trans ab7_w7
    have abF_w8 : ∀ o, w8.frozen? ⟨w.heap.size, o, none⟩ = false := fun o => (hb8.frozen abL_w7).trans (abF_w7 o)
    have abL_w8 : w.heap.size < w8.heap.size := Nat.lt_of_lt_of_le abL_w7 hb8.size
    have xa0_w8 := (hb8.cell xaL_w7).trans xa0_w7
    have xa1_w8 := (hb8.cell xaL_w7).trans xa1_w7
    have xa2_w8 := (hb8.cell xaL_w7).trans xa2_w7
    have xa3_w8 := (hb8.cell xaL_w7).trans xa3_w7
    have xa4_w8 := (hb8.cell xaL_w7).trans xa4_w7
    have xa5_w8 := (hb8.cell xaL_w7).trans xa5_w7
    have xa6_w8 := (hb8.cell xaL_w7).trans xa6_w7
    have xa7_w8 := (hb8.cell xaL_w7).trans xa7_w7
    have xaF_w8 : ∀ o, w8.frozen? ⟨w5.heap.size, o, none⟩ = false := fun o => (hb8.frozen xaL_w7).trans (xaF_w7 o)
    have xaL_w8 : w5.heap.size < w8.heap.size := Nat.lt_of_lt_of_le xaL_w7 hb8.size
    have oP5_w8 := hidP (OwnG.later oP5_w7.out hb8)
    have oQ5_w8 := hidP (OwnG.later oQ5_w7.out hb8)
    have oR5_w8 := hidP (OwnG.later oR5_w7.out hb8)
    have oS5_w8 := hidP (OwnG.later oS5_w7.out hb8)
    have acc_w8 := hidP (acc_w7.out.trans (hb8.mono acc_w7.out.size))
    have sz_w8 : Hid (w7.heap.size ≤ w8.heap.size) := hidP hb8.size
    clear hb8 ab0_w7 ab1_w7 ab2_w7 ab3_w7 ab4_w7 ab5_w7 ab6_w7 ab7_w7 abF_w7 abL_w7 xa0_w7 xa1_w7 xa2_w7 xa3_w7 xa4_w7 xa5_w7 xa6_w7 xa7_w7 xaF_w7 xaL_w7 oP5_w7 oQ5_w7 oR5_w7 oS5_w7 acc_w7
    go_wp2_with fail
    have HSx : Hid (∀ x, Below w8.heap.size w8 x → (x.cell? ⟨w.heap.size, 0, none⟩ = some (.slice ap np cp) ∧ x.cell? ⟨w.heap.size, 1, none⟩ = some (.slice ab nb cb) ∧ x.cell? ⟨w.heap.size, 2, none⟩ = some (.slice al nl cl) ∧ x.cell? ⟨w.heap.size, 3, none⟩ = some (.int .i64 T) ∧ x.cell? ⟨w.heap.size, 4, none⟩ = some (.int .i64 N) ∧ x.cell? ⟨w.heap.size, 5, none⟩ = some (.slice aS ns cs) ∧ x.cell? ⟨w.heap.size, 6, none⟩ = some (.int .i64 X) ∧ x.cell? ⟨w.heap.size, 7, none⟩ = some (.int .i64 C) ∧ x.cell? ⟨w5.heap.size, 0, none⟩ = some (.slice (some ⟨g5, 0, none⟩) np np) ∧ x.cell? ⟨w5.heap.size, 1, none⟩ = some (.slice (some ⟨h5, 0, none⟩) nb nb) ∧ x.cell? ⟨w5.heap.size, 2, none⟩ = some (.slice (some ⟨i5, 0, none⟩) nl nl) ∧ x.cell? ⟨w5.heap.size, 3, none⟩ = some (.int .i64 T) ∧ x.cell? ⟨w5.heap.size, 4, none⟩ = some (.int .i64 N) ∧ x.cell? ⟨w5.heap.size, 5, none⟩ = some (.slice (some ⟨j5, 0, none⟩) ns ns) ∧ x.cell? ⟨w5.heap.size, 6, none⟩ = some (.int .i64 X) ∧ x.cell? ⟨w5.heap.size, 7, none⟩ = some (.int .i64 C) ∧ Below w8.heap.size w8 x)) := hidP fun x h =>
      ⟨(h.cell abL_w8).trans ab0_w8, (h.cell abL_w8).trans ab1_w8, (h.cell abL_w8).trans ab2_w8, (h.cell abL_w8).trans ab3_w8, (h.cell abL_w8).trans ab4_w8, (h.cell abL_w8).trans ab5_w8, (h.cell abL_w8).trans ab6_w8, (h.cell abL_w8).trans ab7_w8, (h.cell xaL_w8).trans xa0_w8, (h.cell xaL_w8).trans xa1_w8, (h.cell xaL_w8).trans xa2_w8, (h.cell xaL_w8).trans xa3_w8, (h.cell xaL_w8).trans xa4_w8, (h.cell xaL_w8).trans xa5_w8, (h.cell xaL_w8).trans xa6_w8, (h.cell xaL_w8).trans xa7_w8, h⟩
    refine wp_region_held_drew (S := (fun x => x.cell? ⟨w.heap.size, 0, none⟩ = some (.slice ap np cp) ∧ x.cell? ⟨w.heap.size, 1, none⟩ = some (.slice ab nb cb) ∧ x.cell? ⟨w.heap.size, 2, none⟩ = some (.slice al nl cl) ∧ x.cell? ⟨w.heap.size, 3, none⟩ = some (.int .i64 T) ∧ x.cell? ⟨w.heap.size, 4, none⟩ = some (.int .i64 N) ∧ x.cell? ⟨w.heap.size, 5, none⟩ = some (.slice aS ns cs) ∧ x.cell? ⟨w.heap.size, 6, none⟩ = some (.int .i64 X) ∧ x.cell? ⟨w.heap.size, 7, none⟩ = some (.int .i64 C) ∧ x.cell? ⟨w5.heap.size, 0, none⟩ = some (.slice (some ⟨g5, 0, none⟩) np np) ∧ x.cell? ⟨w5.heap.size, 1, none⟩ = some (.slice (some ⟨h5, 0, none⟩) nb nb) ∧ x.cell? ⟨w5.heap.size, 2, none⟩ = some (.slice (some ⟨i5, 0, none⟩) nl nl) ∧ x.cell? ⟨w5.heap.size, 3, none⟩ = some (.int .i64 T) ∧ x.cell? ⟨w5.heap.size, 4, none⟩ = some (.int .i64 N) ∧ x.cell? ⟨w5.heap.size, 5, none⟩ = some (.slice (some ⟨j5, 0, none⟩) ns ns) ∧ x.cell? ⟨w5.heap.size, 6, none⟩ = some (.int .i64 X) ∧ x.cell? ⟨w5.heap.size, 7, none⟩ = some (.int .i64 C) ∧ Below w8.heap.size w8 x)) (by kernel_rfl) ?_ (fun hHeld => ?_)
    · try dsimp only
      exact HSx.out _ ((Below.refl _ _).drew)
    refine tk 0 27 rfl ?_; simp only [pa]
    refine tk 1 28 rfl ?_; simp only [pa]
    refine wpAnyH_ready (rs := [2]) (by kernel_rfl) (by simp) ?_
    refine AllReadyH.cons rfl (fun K hK => ?_) AllReadyH.nil
    go_simp
    go_wp2_with (first | (go_at_call 7; refine (HTo.out _ (acc_w8.out.trans ((hHeld.2.2.2.2.2.2.2.2.2.2.2.2.2.2.2.2).mono acc_w8.out.size))).mono ?_; rintro e w9 ⟨g9, h9, i9, j9, rfl, og9, oh9, oi9, oj9, ap9, hb9⟩; have b9 := (hHeld.2.2.2.2.2.2.2.2.2.2.2.2.2.2.2.2).trans (hb9.mono (hHeld.2.2.2.2.2.2.2.2.2.2.2.2.2.2.2.2).size)))
    refine hK.out _ _ ?_ (fun hHeld => ?_)
    · try dsimp only
      exact HSx.out _ b9
    clear hK K
    refine wpAnyH_ready (rs := [3]) (by kernel_rfl) (by simp) ?_
    refine AllReadyH.cons rfl (fun K hK => ?_) AllReadyH.nil
    go_simp
    go_wp2_with (first | (go_at_call 10; refine (HEq.out _ g5 h5 i5 j5 g9 h9 i9 j9 (oP5_w8.out.row.later (hHeld.2.2.2.2.2.2.2.2.2.2.2.2.2.2.2.2)) (oQ5_w8.out.row.later (hHeld.2.2.2.2.2.2.2.2.2.2.2.2.2.2.2.2)) (oR5_w8.out.row.later (hHeld.2.2.2.2.2.2.2.2.2.2.2.2.2.2.2.2)) (oS5_w8.out.row.later (hHeld.2.2.2.2.2.2.2.2.2.2.2.2.2.2.2.2)) og9.row oh9.row oi9.row oj9.row).mono ?_; rintro e w10 ⟨rfl, hb10⟩; have b10 := (hHeld.2.2.2.2.2.2.2.2.2.2.2.2.2.2.2.2).trans (hb10.mono (hHeld.2.2.2.2.2.2.2.2.2.2.2.2.2.2.2.2).size)))
    refine hK.out _ _ ?_ (fun hHeld => ?_)
    · try dsimp only
      exact HSx.out _ b10
    clear hK K
    refine tk 4 31 rfl ?_; simp only [pa]
    have HE := hidP (hHeld.2.2.2.2.2.2.2.2.2.2.2.2.2.2.2.2)
    refine wpAnyH_done (by kernel_rfl) ?_ _
    clear hHeld
    have hb10' := HE.out
    clear HE hb9 hb10 b9 b10 HSx og9 oh9 oi9 oj9 ap9
    have yv_w10 := hidP (yv_w8.out.later hb10')
    have yg_w10 := hidP (yg_w8.out.later hb10')
    clear yv_w8 yg_w8
    have ab0_w10 := (hb10'.cell abL_w8).trans ab0_w8
    have ab1_w10 := (hb10'.cell abL_w8).trans ab1_w8
    have ab2_w10 := (hb10'.cell abL_w8).trans ab2_w8
    have ab3_w10 := (hb10'.cell abL_w8).trans ab3_w8
    have ab4_w10 := (hb10'.cell abL_w8).trans ab4_w8
    have ab5_w10 := (hb10'.cell abL_w8).trans ab5_w8
    have ab6_w10 := (hb10'.cell abL_w8).trans ab6_w8
    have ab7_w10 := (hb10'.cell abL_w8).trans ab7_w8
    have abF_w10 : ∀ o, w10.frozen? ⟨w.heap.size, o, none⟩ = false := fun o => (hb10'.frozen abL_w8).trans (abF_w8 o)
    have abL_w10 : w.heap.size < w10.heap.size := Nat.lt_of_lt_of_le abL_w8 hb10'.size
    have xa0_w10 := (hb10'.cell xaL_w8).trans xa0_w8
    have xa1_w10 := (hb10'.cell xaL_w8).trans xa1_w8
    have xa2_w10 := (hb10'.cell xaL_w8).trans xa2_w8
    have xa3_w10 := (hb10'.cell xaL_w8).trans xa3_w8
    have xa4_w10 := (hb10'.cell xaL_w8).trans xa4_w8
    have xa5_w10 := (hb10'.cell xaL_w8).trans xa5_w8
    have xa6_w10 := (hb10'.cell xaL_w8).trans xa6_w8
    have xa7_w10 := (hb10'.cell xaL_w8).trans xa7_w8
    have xaF_w10 : ∀ o, w10.frozen? ⟨w5.heap.size, o, none⟩ = false := fun o => (hb10'.frozen xaL_w8).trans (xaF_w8 o)
    have xaL_w10 : w5.heap.size < w10.heap.size := Nat.lt_of_lt_of_le xaL_w8 hb10'.size
    have oP5_w10 := hidP (OwnG.later oP5_w8.out hb10')
    have oQ5_w10 := hidP (OwnG.later oQ5_w8.out hb10')
    have oR5_w10 := hidP (OwnG.later oR5_w8.out hb10')
    have oS5_w10 := hidP (OwnG.later oS5_w8.out hb10')
    have acc_w10 := hidP (acc_w8.out.trans (hb10'.mono acc_w8.out.size))
    have sz_w10 : Hid (w8.heap.size ≤ w10.heap.size) := hidP hb10'.size
    clear hb10' ab0_w8 ab1_w8 ab2_w8 ab3_w8 ab4_w8 ab5_w8 ab6_w8 ab7_w8 abF_w8 abL_w8 xa0_w8 xa1_w8 xa2_w8 xa3_w8 xa4_w8 xa5_w8 xa6_w8 xa7_w8 xaF_w8 xaL_w8 oP5_w8 oQ5_w8 oR5_w8 oS5_w8 acc_w8
    go_wp2_with fail
    have hDw : w5.heap.size ≤ w10.heap.size := (by have := as_W1.out; have := sz_W1.out; have := sz_w2.out; have := sz_w3.out; have := sz_w4.out; have := sz_w5.out; have := as_W6.out; have := sz_W6.out; have := sz_w7.out; have := sz_w8.out; have := sz_w10.out; omega)
    have hBB : w.heap.size < w4.heap.size := (by have := as_W1.out; have := sz_W1.out; have := sz_w2.out; have := sz_w3.out; have := sz_w4.out; have := sz_w5.out; have := as_W6.out; have := sz_W6.out; have := sz_w7.out; have := sz_w8.out; have := sz_w10.out; omega)
    refine (HMk.out g5 h5 i5 j5 w4.heap.size w5.heap.size _ oP5_w10.out oQ5_w10.out oR5_w10.out oS5_w10.out HAp.out HDl.out hDw).mono ?_
    rintro e w11 ⟨⟨m, hm0, hm1, rfl⟩, hY, hKB⟩
    have yv_w11 := hidP (hY _ _ _ yv_w10.out (fun k hk => by have h1 := vB.out; rw [ownb] at hk; simp at hk; omega))
    have yg_w11 := hidP (hY _ _ _ yg_w10.out (fun k hk => by have h1 := gB.out; rw [ownb] at hk; simp at hk; omega))
    have ab0_w11 := (hKB.cell (p := ⟨w.heap.size, 0, none⟩) hBB).trans ab0_w10
    have ab1_w11 := (hKB.cell (p := ⟨w.heap.size, 1, none⟩) hBB).trans ab1_w10
    have ab2_w11 := (hKB.cell (p := ⟨w.heap.size, 2, none⟩) hBB).trans ab2_w10
    have ab3_w11 := (hKB.cell (p := ⟨w.heap.size, 3, none⟩) hBB).trans ab3_w10
    have ab4_w11 := (hKB.cell (p := ⟨w.heap.size, 4, none⟩) hBB).trans ab4_w10
    have ab5_w11 := (hKB.cell (p := ⟨w.heap.size, 5, none⟩) hBB).trans ab5_w10
    have ab6_w11 := (hKB.cell (p := ⟨w.heap.size, 6, none⟩) hBB).trans ab6_w10
    have ab7_w11 := (hKB.cell (p := ⟨w.heap.size, 7, none⟩) hBB).trans ab7_w10
    have abF_w11 : ∀ o, w11.frozen? ⟨w.heap.size, o, none⟩ = false := fun o => (hKB.frozen (p := ⟨w.heap.size, o, none⟩) hBB).trans (abF_w10 o)
    have abL_w11 : w.heap.size < w11.heap.size := Nat.lt_of_lt_of_le abL_w10 hKB.size
    have acc_w11 := hidP (acc_w10.out.trans (hKB.mono (Nat.le_of_lt hBB)))
    have sz_w11 : Hid (w10.heap.size ≤ w11.heap.size) := hidP hKB.size
    have dm : decide (m < 0) = false := decide_eq_false (by omega)
    have dm2 : ¬ m < 0 := by omega
    clear hY hKB yv_w10 yg_w10 abF_w10 abL_w10 acc_w10 oP5_w10 oQ5_w10 oR5_w10 oS5_w10 xaF_w10 xaL_w10 ab0_w10 xa0_w10 ab1_w10 xa1_w10 ab2_w10 xa2_w10 ab3_w10 xa3_w10 ab4_w10 xa4_w10 ab5_w10 xa5_w10 ab6_w10 xa6_w10 ab7_w10 xa7_w10 HMk HAp HDl hDw
    go_wp2_with fail
    refine (eqByteS_any _ _ _ _ Zf Zf _ yg_w11.out.bytA yv_w11.out.bytA (by omega) (by omega)).mono ?_
    rw [eqL_same]
    rintro e w12 ⟨rfl, hb12⟩
    have yv_w12 := hidP (yv_w11.out.later hb12)
    have yg_w12 := hidP (yg_w11.out.later hb12)
    clear yv_w11 yg_w11
    have ab0_w12 := (hb12.cell abL_w11).trans ab0_w11
    have ab1_w12 := (hb12.cell abL_w11).trans ab1_w11
    have ab2_w12 := (hb12.cell abL_w11).trans ab2_w11
    have ab3_w12 := (hb12.cell abL_w11).trans ab3_w11
    have ab4_w12 := (hb12.cell abL_w11).trans ab4_w11
    have ab5_w12 := (hb12.cell abL_w11).trans ab5_w11
    have ab6_w12 := (hb12.cell abL_w11).trans ab6_w11
    have ab7_w12 := (hb12.cell abL_w11).trans ab7_w11
    have abF_w12 : ∀ o, w12.frozen? ⟨w.heap.size, o, none⟩ = false := fun o => (hb12.frozen abL_w11).trans (abF_w11 o)
    have abL_w12 : w.heap.size < w12.heap.size := Nat.lt_of_lt_of_le abL_w11 hb12.size
    have acc_w12 := hidP (acc_w11.out.trans (hb12.mono acc_w11.out.size))
    have sz_w12 : Hid (w11.heap.size ≤ w12.heap.size) := hidP hb12.size
    clear hb12 ab0_w11 ab1_w11 ab2_w11 ab3_w11 ab4_w11 ab5_w11 ab6_w11 ab7_w11 abF_w11 abL_w11 acc_w11
    go_wp2_with fail
    refine (markByteS_any _ _ _ Zf 1 _ yg_w12.out (by omega) (by omega) (by omega)).mono ?_
    rintro e w13 ⟨rfl, om, gm⟩
    have nb : ∀ q : Nat, q ≠ g7 → (Value.slice (some ⟨g7, 0, none⟩) Zf.length c7).ownBlock ≠ some q := fun q hq e => hq (by rw [ownb] at e; simpa using e.symm)
    have hg7 : w.heap.size < g7 := by have h1 := gB.out; have := as_W1.out; have := sz_W1.out; have := sz_w2.out; have := sz_w3.out; have := sz_w4.out; have := sz_w5.out; have := as_W6.out; have := sz_W6.out; have := sz_w7.out; have := sz_w8.out; have := sz_w10.out; have := sz_w11.out; have := sz_w12.out; omega
    have yv_w13 := hidP (yv_w12.out.kept gm (fun k h1 h2 => by have q1 := vB.out; have q2 := gB.out; rw [ownb] at h1 h2; simp at h1 h2; have := as_W1.out; have := sz_W1.out; have := sz_w2.out; have := sz_w3.out; have := sz_w4.out; have := sz_w5.out; have := as_W6.out; have := sz_W6.out; have := sz_w7.out; have := sz_w8.out; have := sz_w10.out; have := sz_w11.out; have := sz_w12.out; omega))
    have ab0_w13 := cell_gr ab0_w12 gm (by omega)
    have ab1_w13 := cell_gr ab1_w12 gm (by omega)
    have ab2_w13 := cell_gr ab2_w12 gm (by omega)
    have ab3_w13 := cell_gr ab3_w12 gm (by omega)
    have ab4_w13 := cell_gr ab4_w12 gm (by omega)
    have ab5_w13 := cell_gr ab5_w12 gm (by omega)
    have ab6_w13 := cell_gr ab6_w12 gm (by omega)
    have ab7_w13 := cell_gr ab7_w12 gm (by omega)
    have abL_w13 : w.heap.size < w13.heap.size := Nat.lt_of_lt_of_le abL_w12 gm.size
    have abF_w13 : ∀ o, w13.frozen? ⟨w.heap.size, o, none⟩ = false := fun o => frz_gr gm abL_w12 (abF_w12 o) (by omega)
    have acc_w13 := hidP (Below.grown acc_w12.out gm acc_w12.out.size (fun k hk => by rw [ownb] at hk; simp at hk; omega))
    have yg_w13 := hidP om
    have sz_w13 : Hid (w12.heap.size ≤ w13.heap.size) := hidP gm.size
    clear gm om nb yv_w12 yg_w12 abF_w12 abL_w12 acc_w12 ab0_w12 ab1_w12 ab2_w12 ab3_w12 ab4_w12 ab5_w12 ab6_w12 ab7_w12
    go_wp2_with fail
    refine (heldByteS_any _ _ Zf.length 1 _ yg_w13.out.bytA (by omega) (by omega) (by omega)).mono ?_
    rintro e w14 ⟨rfl, hb14⟩
    have yv_w14 := hidP (yv_w13.out.later hb14)
    have yg_w14 := hidP (yg_w13.out.later hb14)
    clear yv_w13 yg_w13
    have ab0_w14 := (hb14.cell abL_w13).trans ab0_w13
    have ab1_w14 := (hb14.cell abL_w13).trans ab1_w13
    have ab2_w14 := (hb14.cell abL_w13).trans ab2_w13
    have ab3_w14 := (hb14.cell abL_w13).trans ab3_w13
    have ab4_w14 := (hb14.cell abL_w13).trans ab4_w13
    have ab5_w14 := (hb14.cell abL_w13).trans ab5_w13
    have ab6_w14 := (hb14.cell abL_w13).trans ab6_w13
    have ab7_w14 := (hb14.cell abL_w13).trans ab7_w13
    have abF_w14 : ∀ o, w14.frozen? ⟨w.heap.size, o, none⟩ = false := fun o => (hb14.frozen abL_w13).trans (abF_w13 o)
    have abL_w14 : w.heap.size < w14.heap.size := Nat.lt_of_lt_of_le abL_w13 hb14.size
    have acc_w14 := hidP (acc_w13.out.trans (hb14.mono acc_w13.out.size))
    have sz_w14 : Hid (w13.heap.size ≤ w14.heap.size) := hidP hb14.size
    clear hb14 ab0_w13 ab1_w13 ab2_w13 ab3_w13 ab4_w13 ab5_w13 ab6_w13 ab7_w13 abF_w13 abL_w13 acc_w13
    go_wp2_with fail
    refine (HTo.out _ acc_w14.out).mono ?_
    rintro e w15 ⟨g15, h15, i15, j15, rfl, og15, oh15, oi15, oj15, ap15, hb15⟩
    have OP15 := hidP og15
    have OQ15 := hidP oh15
    have OR15 := hidP oi15
    have OS15 := hidP oj15
    clear og15 oh15 oi15 oj15
    clear ap15
    have yv_w15 := hidP (yv_w14.out.later hb15)
    have yg_w15 := hidP (yg_w14.out.later hb15)
    clear yv_w14 yg_w14
    have ab0_w15 := (hb15.cell abL_w14).trans ab0_w14
    have ab1_w15 := (hb15.cell abL_w14).trans ab1_w14
    have ab2_w15 := (hb15.cell abL_w14).trans ab2_w14
    have ab3_w15 := (hb15.cell abL_w14).trans ab3_w14
    have ab4_w15 := (hb15.cell abL_w14).trans ab4_w14
    have ab5_w15 := (hb15.cell abL_w14).trans ab5_w14
    have ab6_w15 := (hb15.cell abL_w14).trans ab6_w14
    have ab7_w15 := (hb15.cell abL_w14).trans ab7_w14
    have abF_w15 : ∀ o, w15.frozen? ⟨w.heap.size, o, none⟩ = false := fun o => (hb15.frozen abL_w14).trans (abF_w14 o)
    have abL_w15 : w.heap.size < w15.heap.size := Nat.lt_of_lt_of_le abL_w14 hb15.size
    have acc_w15 := hidP (acc_w14.out.trans (hb15.mono acc_w14.out.size))
    have sz_w15 : Hid (w14.heap.size ≤ w15.heap.size) := hidP hb15.size
    clear hb15 ab0_w14 ab1_w14 ab2_w14 ab3_w14 ab4_w14 ab5_w14 ab6_w14 ab7_w14 abF_w14 abL_w14 acc_w14
    go_wp2_with fail
    refine (HIm.out (some ⟨g15, 0, none⟩) (some ⟨h15, 0, none⟩) (some ⟨i15, 0, none⟩) (some ⟨j15, 0, none⟩) np nb nl ns _ OP15.out.row OQ15.out.row OR15.out.row OS15.out.row).mono ?_
    rintro e w16 ⟨g16, c16, rfl, oh, hb16⟩
    clear OP15 OQ15 OR15 OS15
    have OHH := hidP oh
    clear oh
    have yv_w16 := hidP (yv_w15.out.later hb16)
    have yg_w16 := hidP (yg_w15.out.later hb16)
    clear yv_w15 yg_w15
    have ab0_w16 := (hb16.cell abL_w15).trans ab0_w15
    have ab1_w16 := (hb16.cell abL_w15).trans ab1_w15
    have ab2_w16 := (hb16.cell abL_w15).trans ab2_w15
    have ab3_w16 := (hb16.cell abL_w15).trans ab3_w15
    have ab4_w16 := (hb16.cell abL_w15).trans ab4_w15
    have ab5_w16 := (hb16.cell abL_w15).trans ab5_w15
    have ab6_w16 := (hb16.cell abL_w15).trans ab6_w15
    have ab7_w16 := (hb16.cell abL_w15).trans ab7_w15
    have abF_w16 : ∀ o, w16.frozen? ⟨w.heap.size, o, none⟩ = false := fun o => (hb16.frozen abL_w15).trans (abF_w15 o)
    have abL_w16 : w.heap.size < w16.heap.size := Nat.lt_of_lt_of_le abL_w15 hb16.size
    have acc_w16 := hidP (acc_w15.out.trans (hb16.mono acc_w15.out.size))
    have sz_w16 : Hid (w15.heap.size ≤ w16.heap.size) := hidP hb16.size
    clear hb16 ab0_w15 ab1_w15 ab2_w15 ab3_w15 ab4_w15 ab5_w15 ab6_w15 ab7_w15 abF_w15 abL_w15 acc_w15
    have yh_w16 := hidP OHH.out
    clear OHH
    go_wp2_with fail
    refine (eqByteS_any _ _ _ _ Zf Zf _ yh_w16.out.bytA yv_w16.out.bytA (by omega) (by omega)).mono ?_
    rw [eqL_same]
    rintro e w17 ⟨rfl, hb17⟩
    have yv_w17 := hidP (yv_w16.out.later hb17)
    have yg_w17 := hidP (yg_w16.out.later hb17)
    have yh_w17 := hidP (yh_w16.out.later hb17)
    clear yv_w16 yg_w16 yh_w16
    have ab0_w17 := (hb17.cell abL_w16).trans ab0_w16
    have ab1_w17 := (hb17.cell abL_w16).trans ab1_w16
    have ab2_w17 := (hb17.cell abL_w16).trans ab2_w16
    have ab3_w17 := (hb17.cell abL_w16).trans ab3_w16
    have ab4_w17 := (hb17.cell abL_w16).trans ab4_w16
    have ab5_w17 := (hb17.cell abL_w16).trans ab5_w16
    have ab6_w17 := (hb17.cell abL_w16).trans ab6_w16
    have ab7_w17 := (hb17.cell abL_w16).trans ab7_w16
    have abF_w17 : ∀ o, w17.frozen? ⟨w.heap.size, o, none⟩ = false := fun o => (hb17.frozen abL_w16).trans (abF_w16 o)
    have abL_w17 : w.heap.size < w17.heap.size := Nat.lt_of_lt_of_le abL_w16 hb17.size
    have acc_w17 := hidP (acc_w16.out.trans (hb17.mono acc_w16.out.size))
    have sz_w17 : Hid (w16.heap.size ≤ w17.heap.size) := hidP hb17.size
    clear hb17 ab0_w16 ab1_w16 ab2_w16 ab3_w16 ab4_w16 ab5_w16 ab6_w16 ab7_w16 abF_w16 abL_w16 acc_w16
    go_wp2_with fail
    refine (heldByteS_any _ _ Zf.length 1 _ yg_w17.out.bytA (by omega) (by omega) (by omega)).mono ?_
    rintro e w18 ⟨rfl, hb18⟩
    have yv_w18 := hidP (yv_w17.out.later hb18)
    have yg_w18 := hidP (yg_w17.out.later hb18)
    have yh_w18 := hidP (yh_w17.out.later hb18)
    clear yv_w17 yg_w17 yh_w17
    have ab0_w18 := (hb18.cell abL_w17).trans ab0_w17
    have ab1_w18 := (hb18.cell abL_w17).trans ab1_w17
    have ab2_w18 := (hb18.cell abL_w17).trans ab2_w17
    have ab3_w18 := (hb18.cell abL_w17).trans ab3_w17
    have ab4_w18 := (hb18.cell abL_w17).trans ab4_w17
    have ab5_w18 := (hb18.cell abL_w17).trans ab5_w17
    have ab6_w18 := (hb18.cell abL_w17).trans ab6_w17
    have ab7_w18 := (hb18.cell abL_w17).trans ab7_w17
    have abF_w18 : ∀ o, w18.frozen? ⟨w.heap.size, o, none⟩ = false := fun o => (hb18.frozen abL_w17).trans (abF_w17 o)
    have abL_w18 : w.heap.size < w18.heap.size := Nat.lt_of_lt_of_le abL_w17 hb18.size
    have acc_w18 := hidP (acc_w17.out.trans (hb18.mono acc_w17.out.size))
    have sz_w18 : Hid (w17.heap.size ≤ w18.heap.size) := hidP hb18.size
    clear hb18 ab0_w17 ab1_w17 ab2_w17 ab3_w17 ab4_w17 ab5_w17 ab6_w17 ab7_w17 abF_w17 abL_w17 acc_w17
    go_wp2_with fail
    go_ret
    exact ⟨rfl, acc_w18.out⟩
  · rw [szT_no ht] at HSz
    clear hP hK hL hS hnp hnb hnl hns hsb hsl hss ht
    go_enter Tryz.func3, Tryz.ntmps3
    go_wp2_with fail
    refine (HSz.out _ (alloc_below w _)).mono ?_
    rintro e w2 ⟨rfl, hb2⟩
    go_wp2_with fail
    go_ret
    exact ⟨rfl, (alloc_below w _).trans (hb2.mono (alloc_below w _).size)⟩

set_option maxRecDepth 100000 in
theorem putState_lifted (os : Os) (started : os.Started) (H : Type) (enc : TypeId × Value → H) :
    ReturnsInHanded {} Tryz.checked os 3 .any (Rows.fnExactPutStateSpec.pre6 enc Tryz.prog Tryz.f3 Rows.fnExactPutStateRow.domain false) (Rows.fnExactPutStateSpec.post enc Tryz.prog Tryz.f3 false true false false) := by
  refine returnsInHanded_of_change (C := Tryz.checked) Tryz.ownB9 started (by kernel_rfl) Tryz.func3
    (ChangeSpec.witness6 (enc := enc) (C := Tryz.checked) false ⟨#[], #[.agg #[.slice none 0 0, .slice none 0 0, .slice none 0 0, .int .i64 0, .int .i64 0, .slice none 0 0, .int .i64 0, .int .i64 0]], []⟩ 8 (by kernel_rfl) (by kernel_rfl) (by kernel_rfl) (by kernel_rfl)) ?_
  intro W base args ds gs before hval0 hW _ _
  have hval : ∀ (j : Nat) t v, Tryz.f3.params[j]? = some t → args[j]? = some v → Value.okWide Tryz.prog W .any base t v := hval0
  have hW' := hW
  obtain ⟨p, q, hA0, hV, rfl, _, _⟩ := hW
  have hA : DataW.TrodAll enc Tryz.prog W 0 (fun _ => true) true Tryz.f3.params.toList args.toList ds p := hA0
  rw [Tryz.params3] at hA hval
  obtain ⟨v0, d0, rfl, rfl, h0⟩ := trodAll_one hA
  obtain ⟨rfl, rfl⟩ := trodVars_none hV
  obtain ⟨ap, np, cp, ab, nb, cb, al, nl, cl, T, N, aS, ns, cs, X, C, ps, bs, ls, ss, rfl, ⟨hnp, hnb, hnl, hns⟩, ⟨hP, hK, hL, hS⟩, ⟨h9p, h9b, h9l, h9s⟩, hsb, hsl, hss⟩ := openState (hval 0 33 v0 rfl rfl) h0
  clear hA0 hval0
  simp only [List.append_nil] at hW'
  have hlt0 : ∀ x ∈ p, x.block < W.heap.size := fun x hx => by simpa using hW'.lt x hx
  refine (lawPutState ap np cp ab nb cb al nl cl T N aS ns cs X C ps bs ls ss W hnp hnb hnl hns hP hK hL hS h9p h9b h9l h9s hsb hsl hss).mono fun e W' ⟨he, hb⟩ => ?_
  subst he
  exact ⟨_, rfl, ⟨_, _, _, [], p, [], hW', trodAll_mk1 (shut_bool Tryz.underlying4 true), trodAll_mk1 (Below.trod Tryz.laidOutB9 (by kernel_rfl) (of_decide_eq_true (by kernel_rfl)) h0 hb hlt0), rfl, hb.frame _, fun h => by cases h⟩⟩

theorem putState_holds : Rows.FnExactPutStateSaid :=
  OpenClaim.holds_of_wide 3 Tryz.f3 rfl rfl rfl rfl rfl rfl rfl ⟨rfl, rfl, rfl, rfl, rfl⟩ rfl rfl rfl rfl rfl (by kernel_rfl) Tryz.func3 (by kernel_rfl)
    (of_decide_eq_true (by kernel_rfl)) (by unfold Func.isWrapper; rw [if_neg (of_decide_eq_false (by kernel_rfl))]; exact ⟨rfl, rfl⟩)
    (fun os started H enc _ => putState_lifted os started H enc)

end Go.Proofs.YtngcbhbcocnbeaaGreat
namespace Go.Proofs.YtngcbhbcocnbeaaGreat
open Go.RowKit

def poly : BitVec 32 := 3988292384#32
def st (x : BitVec 32) : BitVec 32 := (x >>> 1) ^^^ (if x.toNat % 2 = 1 then poly else 0#32)
def it : Nat → BitVec 32 → BitVec 32
  | 0, x => x
  | n + 1, x => st (it n x)
/-- One byte more. -/
def fed (x : BitVec 32) (z : Int) : BitVec 32 := it 8 (x ^^^ BitVec.ofInt 32 z)
def feds (x : BitVec 32) (zs : List Int) : BitVec 32 := zs.foldl fed x
def crc (zs : List Int) : Int := ((feds 4294967295#32 zs ^^^ 4294967295#32).toNat : Int)

theorem crc_bd (zs : List Int) : 0 ≤ crc zs ∧ crc zs < 4294967296 := by
  unfold crc; have := (feds 4294967295#32 zs ^^^ 4294967295#32).isLt; omega
theorem feds_snoc (x : BitVec 32) (zs : List Int) (k : Nat) (z : Int) (h : zs[k]? = some z) : feds x (zs.take (k + 1)) = fed (feds x (zs.take k)) z := by
  have hk : k < zs.length := by rcases Nat.lt_or_ge k zs.length with h1 | h1; exact h1; rw [List.getElem?_eq_none h1] at h; cases h
  have e : zs[k] = z := by rw [List.getElem?_eq_getElem hk] at h; simpa using h
  rw [List.take_succ_eq_append_getElem hk, e]; simp [feds]
theorem bv_bd (x : BitVec 32) : 0 ≤ (x.toNat : Int) ∧ (x.toNat : Int) < 4294967296 := by have := x.isLt; omega
theorem ofInt_nat (n : Nat) (w : Nat) (h : n < 2 ^ w) : (BitVec.ofInt w (n : Int)).toNat = n := by
  rw [BitVec.toNat_ofInt]
  have : ((n : Int) % ((2 ^ w : Nat) : Int)) = (n : Int) := Int.emod_eq_of_lt (by omega) (by exact_mod_cast h)
  rw [this]; rfl
theorem ofInt_bv (x : BitVec 32) : BitVec.ofInt 32 (x.toNat : Int) = x := by
  apply BitVec.eq_of_toNat_eq; rw [ofInt_nat _ _ x.isLt]
theorem byte_nat (z : Int) (h0 : 0 ≤ z) (h1 : z ≤ 255) : ((BitVec.ofInt 32 z).toNat : Int) = z := by
  obtain ⟨n, rfl⟩ := Int.eq_ofNat_of_zero_le h0
  rw [ofInt_nat _ _ (by omega)]
theorem xor_u32 (x y : BitVec 32) : bits .xor .u32 (x.toNat : Int) (y.toNat : Int) = ((x ^^^ y).toNat : Int) := by
  show IntKind.u32.wrap ((BitVec.ofInt 32 (x.toNat : Int) ^^^ BitVec.ofInt 32 (y.toNat : Int)).toNat : Int) = _
  rw [ofInt_bv, ofInt_bv, IntKind.wrap_u32]
  have := bv_bd (x ^^^ y); omega
theorem xor_i64 (x y : BitVec 32) : bits .xor .i64 (x.toNat : Int) (y.toNat : Int) = ((x ^^^ y).toNat : Int) := by
  show IntKind.i64.wrap ((BitVec.ofInt 64 (x.toNat : Int) ^^^ BitVec.ofInt 64 (y.toNat : Int)).toNat : Int) = _
  rw [BitVec.toNat_xor, ofInt_nat _ _ (by have := x.isLt; omega), ofInt_nat _ _ (by have := y.isLt; omega), ← BitVec.toNat_xor, IntKind.wrap_i64]
  have := bv_bd (x ^^^ y); omega
theorem half_nat (x : BitVec 32) : ((x >>> 1).toNat : Int) = (x.toNat : Int) / 2 := by
  rw [BitVec.toNat_ushiftRight, Nat.shiftRight_eq_div_pow]; omega
theorem and_u32 (x : BitVec 32) : bits .and .u32 (x.toNat : Int) 1 = ((x.toNat % 2 : Nat) : Int) := by
  show IntKind.u32.wrap ((BitVec.ofInt 32 (x.toNat : Int) &&& BitVec.ofInt 32 1).toNat : Int) = _
  rw [ofInt_bv, BitVec.toNat_and, show (BitVec.ofInt 32 1).toNat = 1 from rfl, Nat.and_one_is_mod, IntKind.wrap_u32]
  omega
theorem st_impl (y : BitVec 32) : bits .xor .u32 ((y.toNat : Int) / 2) (bits .and .u32 (y.toNat : Int) 1 * 3988292384 % 4294967296) = ((st y).toNat : Int) := by
  rw [and_u32, ← half_nat]
  unfold st
  by_cases h : y.toNat % 2 = 1
  · rw [if_pos h, h]; exact xor_u32 _ poly
  · have h0 : y.toNat % 2 = 0 := by omega
    rw [if_neg h, h0]; exact xor_u32 _ 0#32
theorem st_odd (y : BitVec 32) (h : (y.toNat : Int) % 2 = 1) : bits .xor .i64 ((y.toNat : Int) / 2) 3988292384 = ((st y).toNat : Int) := by
  unfold st; rw [if_pos (by omega), ← half_nat]; exact xor_i64 _ poly
theorem st_even (y : BitVec 32) (h : ¬ (y.toNat : Int) % 2 = 1) : (y.toNat : Int) / 2 = ((st y).toNat : Int) := by
  unfold st; rw [if_neg (by omega), ← half_nat, BitVec.xor_zero]

set_option maxRecDepth 10000 in
set_option maxHeartbeats 1000000 in
theorem iSum_any (a : Option Addr) (cap : Nat) (zs : List Int) (w : World) (hB : Byt w a zs) (ho : Oct zs) (hl : zs.length ≤ 9000000000) :
    Calls Tryz.prog 47 #[.slice a zs.length cap] w fun e w' => e = .returned (.int .i64 (crc zs)) ∧ w = w' := by
  obtain ⟨n, hn⟩ : ∃ n, n = zs.length := ⟨_, rfl⟩
  rw [← hn] at hl ⊢
  have HN : Hid (n = zs.length) := hn
  have HB : Hid (Byt w a zs) := hB
  have HO : Hid (Oct zs) := ho
  clear hB hn ho
  go_enter Tryz.func47, Tryz.ntmps47
  go_wp2
  go_loop [3, 9] (fun t3 t9 => ∃ k : Nat, k ≤ n ∧ t9 = .int .i64 k ∧ t3 = .int .u32 ((feds 4294967295#32 (zs.take k)).toNat : Int)) (fun _ t9 => n - (intOf t9).toNat)
  case atStart => exact ⟨0, Nat.zero_le _, rfl, rfl⟩
  case round =>
    obtain ⟨k, hk, rfl, rfl⟩ := hrel
    by_cases hlt : k < n
    · obtain ⟨p, o, z, rfl, hp, hc, hz⟩ := HB.out k (by rw [← HN.out]; exact hlt)
      obtain ⟨z0, z1⟩ := HO.out z (List.mem_of_getElem? hz)
      have HF : Hid (feds 4294967295#32 (zs.take (k + 1)) = fed (feds 4294967295#32 (zs.take k)) z) := feds_snoc _ _ _ _ hz
      clear hz
      generalize hg : feds 4294967295#32 (zs.take k) = X at HF ⊢
      have HG : Hid (feds 4294967295#32 (zs.take k) = X) := hg
      clear hg
      have xb := bv_bd X
      have HX : Hid (bits .xor .u32 (X.toNat : Int) z = ((it 0 (X ^^^ BitVec.ofInt 32 z)).toNat : Int)) := by
        have h := xor_u32 X (BitVec.ofInt 32 z); rw [byte_nat z z0 z1] at h; exact h
      go_wp2
      go_loop [3, 17] (fun t3 t17 => ∃ j : Nat, j ≤ 8 ∧ t17 = .int .i64 j ∧ t3 = .int .u32 ((it j (X ^^^ BitVec.ofInt 32 z)).toNat : Int)) (fun _ t17 => 8 - (intOf t17).toNat)
      case atStart => exact ⟨0, by omega, rfl, by rw [HX.out]⟩
      case round =>
        obtain ⟨j, hj, rfl, rfl⟩ := hrel
        generalize hY : it j (X ^^^ BitVec.ofInt 32 z) = Y
        have HY : Hid (it j (X ^^^ BitVec.ofInt 32 z) = Y) := hY
        clear hY
        have yb := bv_bd Y
        have HS : Hid (_ = _) := st_impl Y
        by_cases hjt : j < 8
        · go_wp2
          go_round
          case rel => exact ⟨j + 1, by omega, by go_num, by rw [it, HY.out, HS.out]⟩
          case measure => simp [intOf]; omega
        · have hj8 : j = 8 := by omega
          subst hj8
          have HE : Hid (feds 4294967295#32 (zs.take (k + 1)) = Y) := by
            unfold Hid; rw [HF.out, ← HY.out]; rfl
          go_wp2
          go_round
          case rel => exact ⟨k + 1, by omega, by go_num, by rw [HE.out]⟩
          case measure => simp [intOf]; omega
    · have hkn : zs.take k = zs := List.take_of_length_le (by have := HN.out; omega)
      have HC : Hid (bits .xor .u32 ((feds 4294967295#32 (zs.take k)).toNat : Int) 4294967295 = crc zs) := by
        unfold Hid; rw [hkn]; exact xor_u32 _ 4294967295#32
      clear hkn
      generalize (feds 4294967295#32 (zs.take k)).toNat = x at *
      have cb := crc_bd zs
      go_wp2
      go_ret
      refine ⟨?_, rfl⟩
      rw [HC.out, show wrap64 (crc zs) = crc zs from by simp only [wrap64]; omega]
      rfl

set_option maxRecDepth 10000 in
set_option maxHeartbeats 1000000 in
theorem sSum_any (a : Option Addr) (cap : Nat) (zs : List Int) (w : World) (hB : Byt w a zs) (ho : Oct zs) (hl : zs.length ≤ 9000000000) :
    Calls Tryz.prog 46 #[.slice a zs.length cap] w fun e w' => e = .returned (.int .i64 (crc zs)) ∧ w = w' := by
  obtain ⟨n, hn⟩ : ∃ n, n = zs.length := ⟨_, rfl⟩
  rw [← hn] at hl ⊢
  have HN : Hid (n = zs.length) := hn
  have HB : Hid (Byt w a zs) := hB
  have HO : Hid (Oct zs) := ho
  clear hB hn ho
  go_enter Tryz.func46, Tryz.ntmps46
  go_wp2
  go_loop [3, 4] (fun t3 t4 => ∃ k : Nat, k ≤ n ∧ t4 = .int .i64 k ∧ t3 = .int .i64 ((feds 4294967295#32 (zs.take k)).toNat : Int)) (fun _ t4 => n - (intOf t4).toNat)
  case atStart => exact ⟨0, Nat.zero_le _, rfl, rfl⟩
  case round =>
    obtain ⟨k, hk, rfl, rfl⟩ := hrel
    by_cases hlt : k < n
    · obtain ⟨p, o, z, rfl, hp, hc, hz⟩ := HB.out k (by rw [← HN.out]; exact hlt)
      obtain ⟨z0, z1⟩ := HO.out z (List.mem_of_getElem? hz)
      have HF : Hid (feds 4294967295#32 (zs.take (k + 1)) = fed (feds 4294967295#32 (zs.take k)) z) := feds_snoc _ _ _ _ hz
      clear hz
      generalize hg : feds 4294967295#32 (zs.take k) = X at HF ⊢
      have HG : Hid (feds 4294967295#32 (zs.take k) = X) := hg
      clear hg
      have xb := bv_bd X
      have HX : Hid (bits .xor .i64 (X.toNat : Int) z = ((it 0 (X ^^^ BitVec.ofInt 32 z)).toNat : Int)) := by
        have h := xor_i64 X (BitVec.ofInt 32 z); rw [byte_nat z z0 z1] at h; exact h
      go_wp2
      go_loop [3, 5] (fun t3 t5 => ∃ j : Nat, j ≤ 8 ∧ t5 = .int .i64 j ∧ t3 = .int .i64 ((it j (X ^^^ BitVec.ofInt 32 z)).toNat : Int)) (fun _ t5 => 8 - (intOf t5).toNat)
      case atStart => exact ⟨0, by omega, rfl, by rw [HX.out]⟩
      case round =>
        obtain ⟨j, hj, rfl, rfl⟩ := hrel
        generalize hY : it j (X ^^^ BitVec.ofInt 32 z) = Y
        have HY : Hid (it j (X ^^^ BitVec.ofInt 32 z) = Y) := hY
        clear hY
        have yb := bv_bd Y
        by_cases hjt : j < 8
        · by_cases hodd : (Y.toNat : Int) % 2 = 1
          · have HS : Hid (_ = _) := st_odd Y hodd
            go_wp2
            go_round
            case rel => exact ⟨j + 1, by omega, by go_num, by rw [it, HY.out, HS.out]⟩
            case measure => simp [intOf]; omega
          · have HS : Hid (_ = _) := st_even Y hodd
            have hev : (Y.toNat : Int) % 2 = 0 := by omega
            clear hodd
            go_wp2
            go_round
            case rel => exact ⟨j + 1, by omega, by go_num, by rw [it, HY.out, HS.out]⟩
            case measure => simp [intOf]; omega
        · have hj8 : j = 8 := by omega
          subst hj8
          have HE : Hid (feds 4294967295#32 (zs.take (k + 1)) = Y) := by
            unfold Hid; rw [HF.out, ← HY.out]; rfl
          go_wp2
          go_round
          case rel => exact ⟨k + 1, by omega, by go_num, by rw [HE.out]⟩
          case measure => simp [intOf]; omega
    · have hkn : zs.take k = zs := List.take_of_length_le (by have := HN.out; omega)
      have HC : Hid (bits .xor .i64 ((feds 4294967295#32 (zs.take k)).toNat : Int) 4294967295 = crc zs) := by
        unfold Hid; rw [hkn]; exact xor_i64 _ 4294967295#32
      clear hkn
      generalize (feds 4294967295#32 (zs.take k)).toNat = x at *
      go_wp2
      go_ret
      refine ⟨?_, rfl⟩
      rw [HC.out]
      rfl

end Go.Proofs.YtngcbhbcocnbeaaGreat
namespace Go.Proofs.YtngcbhbcocnbeaaGreat
open Go.RowKit

theorem oct_app {a b : List Int} (h : Oct a) (k : Oct b) : Oct (a ++ b) := fun z hz => by
  rcases List.mem_append.1 hz with h1 | h1
  · exact h z h1
  · exact k z h1
theorem oct_nil : Oct [] := fun z hz => by cases hz
theorem oct_flat : ∀ (zss : List (List Int)), (∀ zs ∈ zss, Oct zs) → Oct zss.flatten
  | [], _ => oct_nil
  | zs :: t, h => by rw [List.flatten_cons]; exact oct_app (h zs (List.mem_cons_self ..)) (oct_flat t (fun y hy => h y (List.mem_cons_of_mem _ hy)))
theorem oct_many {α : Type} (f : α → List Int) (xs : List α) (h : ∀ x, Oct (f x)) : Oct (manyB f xs) := oct_flat _ (fun zs hz => by
  obtain ⟨x, _, rfl⟩ := List.mem_map.1 hz
  exact h x)
theorem oct_nums (ns : List Int) : Oct (numsB ns) := oct_flat _ (fun zs hz => by
  obtain ⟨x, _, rfl⟩ := List.mem_map.1 hz
  exact numB_oct _)
theorem oct_txt (s : ByteArray) : Oct (txtB s) := oct_app (numB_oct _) (bys_oct s)
theorem oct_rows {α : Type} (f : α → List Int) (xs : List α) (h : ∀ x, Oct (f x)) : Oct (rowsB f xs) := oct_app (numB_oct _) (oct_many f xs h)
theorem oct_adr (s : Bool) (h l : Int) : Oct (adrB s h l) := by
  unfold adrB
  split
  · split
    · intro z hz
      rcases List.mem_cons.1 hz with rfl | hz
      · omega
      · rcases List.mem_append.1 hz with hz | hz
        · exact big_oct h 8 z hz
        · exact big_oct l 8 z hz
    · intro z hz
      rcases List.mem_cons.1 hz with rfl | hz
      · omega
      · exact big_oct l 4 z hz
  · intro z hz; cases hz
theorem oct_pfx (p : Pf) : Oct (pfxB p) := oct_app (oct_adr _ _ _) (numB_oct _)
theorem oct_pool (q : Pl) : Oct (poolB q) := oct_app (oct_pfx _) (numB_oct _)
theorem oct_block (q : Bk) : Oct (blockB q) := oct_app (oct_pfx _) (oct_txt _)
theorem oct_lease (q : Ls) : Oct (leaseB q) := oct_flat _ (fun zs hz => by
  simp only [List.mem_cons, List.not_mem_nil, or_false] at hz
  rcases hz with rfl | rfl | rfl
  · exact oct_adr _ _ _
  · exact oct_txt _
  · exact oct_nums _)
theorem oct_sess (q : Ss) : Oct (sessB q) := oct_flat _ (fun zs hz => by
  simp only [List.mem_cons, List.not_mem_nil, or_false] at hz
  rcases hz with rfl | rfl | rfl
  · exact oct_nums _
  · exact oct_txt _
  · exact numB_oct _)
theorem oct_parts (ps : List Pl) (bs : List Bk) (ls : List Ls) (T N : Int) (ss : List Ss) (X C : Int) : Oct (partsB ps bs ls T N ss X C).flatten := oct_flat _ (fun zs hz => by
  unfold partsB at hz
  simp only [List.mem_cons, List.not_mem_nil, or_false] at hz
  rcases hz with rfl | rfl | rfl | rfl | rfl | rfl | rfl
  · exact numB_oct _
  · exact oct_rows _ _ oct_pool
  · exact oct_rows _ _ oct_block
  · exact oct_nums _
  · exact oct_rows _ _ oct_lease
  · exact numB_oct _
  · exact oct_rows _ _ oct_sess)

set_option maxRecDepth 10000 in
set_option maxHeartbeats 4000000 in
theorem sSumS_any (ap : Option Addr) (np cp : Nat) (ab : Option Addr) (nb cb : Nat) (al : Option Addr) (nl cl : Nat) (T N : Int) (aS : Option Addr) (ns cs : Nat) (X C : Int) (w : World) (Zf : List Int) (hz : Zf.length ≤ 18000) (ho : Oct Zf)
    (hr : ∀ W : World, Below w.heap.size w W → Calls Tryz.prog 6 #[.agg #[.slice ap np cp, .slice ab nb cb, .slice al nl cl, .int .i64 T, .int .i64 N, .slice aS ns cs, .int .i64 X, .int .i64 C]] W fun e w' => ∃ g c, e = .returned (.slice (some ⟨g, 0, none⟩) Zf.length c) ∧ Own w' W.heap.size (.slice (some ⟨g, 0, none⟩) Zf.length c) Zf ∧ Below W.heap.size W w') :
    Calls Tryz.prog 14 #[.agg #[.slice ap np cp, .slice ab nb cb, .slice al nl cl, .int .i64 T, .int .i64 N, .slice aS ns cs, .int .i64 X, .int .i64 C]] w fun e w' => e = .returned (.int .i64 (crc Zf)) ∧ Below w.heap.size w w' := by
  have HR := hidP hr
  have HS := hidP (fun a c W h => sSum_any a c Zf W h ho (by omega))
  clear hr ho
  go_enter Tryz.func14, Tryz.ntmps14
  go_wp2_with fail
  refine (HR.out _ (alloc_below w _)).mono ?_
  rintro e W ⟨g, c, rfl, o, hb⟩
  have HO := hidP o
  have HB := hidP ((alloc_below w _).trans (hb.mono (alloc_below w _).size))
  clear o hb
  go_wp2_with fail
  refine (HS.out _ c _ HO.out.bytA).mono ?_
  rintro e W2 ⟨rfl, rfl⟩
  go_wp2_with fail
  go_ret
  exact ⟨rfl, HB.out⟩

set_option maxRecDepth 10000 in
set_option maxHeartbeats 4000000 in
theorem iSumS_any (ap : Option Addr) (np cp : Nat) (ab : Option Addr) (nb cb : Nat) (al : Option Addr) (nl cl : Nat) (T N : Int) (aS : Option Addr) (ns cs : Nat) (X C : Int) (w : World) (Zf : List Int) (hz : Zf.length ≤ 18000) (ho : Oct Zf)
    (hr : ∀ W : World, Below w.heap.size w W → Calls Tryz.prog 8 #[.agg #[.slice ap np cp, .slice ab nb cb, .slice al nl cl, .int .i64 T, .int .i64 N, .slice aS ns cs, .int .i64 X, .int .i64 C]] W fun e w' => ∃ g c, e = .returned (.slice (some ⟨g, 0, none⟩) Zf.length c) ∧ Own w' W.heap.size (.slice (some ⟨g, 0, none⟩) Zf.length c) Zf ∧ Below W.heap.size W w') :
    Calls Tryz.prog 15 #[.agg #[.slice ap np cp, .slice ab nb cb, .slice al nl cl, .int .i64 T, .int .i64 N, .slice aS ns cs, .int .i64 X, .int .i64 C]] w fun e w' => e = .returned (.int .i64 (crc Zf)) ∧ Below w.heap.size w w' := by
  have HR := hidP hr
  have HS := hidP (fun a c W h => iSum_any a c Zf W h ho (by omega))
  clear hr ho
  go_enter Tryz.func15, Tryz.ntmps15
  go_wp2_with fail
  refine (HR.out _ (alloc_below w _)).mono ?_
  rintro e W ⟨g, c, rfl, o, hb⟩
  have HO := hidP o
  have HB := hidP ((alloc_below w _).trans (hb.mono (alloc_below w _).size))
  clear o hb
  go_wp2_with fail
  refine (HS.out _ c _ HO.out.bytA).mono ?_
  rintro e W2 ⟨rfl, rfl⟩
  go_wp2_with fail
  go_ret
  exact ⟨rfl, HB.out⟩

end Go.Proofs.YtngcbhbcocnbeaaGreat
namespace Go.Proofs.YtngcbhbcocnbeaaGreat
open Go.ChangeShapes Go.WideShapes Go.ChangeAt Go.RowKit Go.Joins Go.Deep

set_option maxRecDepth 10000 in
set_option maxHeartbeats 8000000 in
theorem lawStateSum (ap : Option Addr) (np cp : Nat) (ab : Option Addr) (nb cb : Nat) (al : Option Addr) (nl cl : Nat) (T N : Int) (aS : Option Addr) (ns cs : Nat) (X C : Int) (ps : List Pl) (bs : List Bk) (ls : List Ls) (ss : List Ss) (w : World) (hnp : np = ps.length) (hnb : nb = bs.length) (hnl : nl = ls.length) (hns : ns = ss.length) (hP : RowG KPl w ap ps) (hK : RowG KBk w ab bs) (hL : RowG KLs w al ls) (hS : RowG KSs w aS ss) (h9p : np ≤ 9223372036854775807) (h9b : nb ≤ 9223372036854775807) (h9l : nl ≤ 9223372036854775807) (h9s : ns ≤ 9223372036854775807) (hsb : ∀ q ∈ bs, q.t.size ≤ 9223372036854775807) (hsl : ∀ q ∈ ls, q.t.size ≤ 9223372036854775807) (hss : ∀ q ∈ ss, q.t.size ≤ 9223372036854775807) :
    Calls Tryz.prog 4 #[.agg #[.slice ap np cp, .slice ab nb cb, .slice al nl cl, .int .i64 T, .int .i64 N, .slice aS ns cs, .int .i64 X, .int .i64 C]] w fun e w' => e = .returned (.bool true) ∧ Below w.heap.size w w' := by
  have HSz := hidP (fun W h => szState_any ap np cp ab nb cb al nl cl T N aS ns cs X C ps bs ls ss W hnp hnb hnl hns (hK.later h) (hL.later h) (hS.later h) h9p h9b h9l h9s hsb hsl hss)
  by_cases ht : totS ps bs ls ss ≤ 1048576
  · rw [szT_yes ht] at HSz
    have n1 := totP_nn ps bs
    have n2 := totB_nn ls
    have n3 := totD_nn ss
    have hlp : np ≤ 1048576 := by unfold totS at ht; unfold totP at ht; omega
    have hlb : nb ≤ 1048576 := by unfold totS at ht; unfold totP at ht; omega
    have hll : nl ≤ 1048576 := by unfold totS at ht; unfold totB at ht; omega
    have hls : ns ≤ 1048576 := by unfold totS at ht; unfold totD at ht; omega
    have HTo := hidP (fun W h => toState2_any ap np cp ab nb cb al nl cl T N aS ns cs X C ps bs ls ss W hnp hnb hnl hns (hP.later h) (hK.later h) (hL.later h) (hS.later h) hlp hlb hll hls)
    have HEq := hidP (fun W g h i j g' h' i' j' e1 e2 e3 e4 e5 e6 e7 e8 => eqState_same (some ⟨g, 0, none⟩) np np (some ⟨h, 0, none⟩) nb nb (some ⟨i, 0, none⟩) nl nl T N (some ⟨j, 0, none⟩) ns ns X C ps bs ls ss (some ⟨g', 0, none⟩) np (some ⟨h', 0, none⟩) nb (some ⟨i', 0, none⟩) nl (some ⟨j', 0, none⟩) ns W hnp hnb hnl hns e1 e2 e3 e4 e5 e6 e7 e8 (by omega) (by omega) (by omega) (by omega))
    obtain ⟨Zf, hzl, hzf, hSp, hIm⟩ := putS_both np nb nl ns T N X C ps bs ls ss hnp hnb hnl hns hlp hlb hll hls hsb hsl
    have hoc : Oct Zf := by
      rcases hzf with rfl | rfl
      · exact oct_nil
      · exact oct_parts _ _ _ _ _ _ _ _
    have HSp := hidP (fun g h i j W (e1 : RowG KPl W (some ⟨g, 0, none⟩) ps) (e2 : RowG KBk W (some ⟨h, 0, none⟩) bs) (e3 : RowG KLs W (some ⟨i, 0, none⟩) ls) (e4 : RowG KSs W (some ⟨j, 0, none⟩) ss) => sSumS_any (some ⟨g, 0, none⟩) np np (some ⟨h, 0, none⟩) nb nb (some ⟨i, 0, none⟩) nl nl T N (some ⟨j, 0, none⟩) ns ns X C W Zf hzl hoc (fun V h' => hSp _ _ _ _ np nb nl ns V (e1.later h') (e2.later h') (e3.later h') (e4.later h')))
    have HIm := hidP (fun g h i j W (e1 : RowG KPl W (some ⟨g, 0, none⟩) ps) (e2 : RowG KBk W (some ⟨h, 0, none⟩) bs) (e3 : RowG KLs W (some ⟨i, 0, none⟩) ls) (e4 : RowG KSs W (some ⟨j, 0, none⟩) ss) => iSumS_any (some ⟨g, 0, none⟩) np np (some ⟨h, 0, none⟩) nb nb (some ⟨i, 0, none⟩) nl nl T N (some ⟨j, 0, none⟩) ns ns X C W Zf hzl hoc (fun V h' => hIm _ _ _ _ np nb nl ns V (e1.later h') (e2.later h') (e3.later h') (e4.later h')))
    generalize crc Zf = r at *
    have d1 : decide (1048576 - totS ps bs ls ss < 0) = false := decide_eq_false (by omega)
    have d2 : ¬ (1048576 - totS ps bs ls ss < 0) := by omega
    generalize 1048576 - totS ps bs ls ss = z at *
    clear hP hK hL hS hnp hnb hnl hns hsb hsl hss ht n1 n2 n3 hSp hIm hzf hoc hzl
    go_enter Tryz.func4, Tryz.ntmps4
    go_wp2_with fail
    obtain ⟨ab0_W1, ab1_W1, ab2_W1, ab3_W1, ab4_W1, ab5_W1, ab6_W1, ab7_W1⟩ := bx8 w 33 (.slice ap np cp) (.slice ab nb cb) (.slice al nl cl) (.int .i64 T) (.int .i64 N) (.slice aS ns cs) (.int .i64 X) (.int .i64 C)
    have abF_W1 : ∀ o, (w.alloc (.cells #[.slice ap np cp, .slice ab nb cb, .slice al nl cl, .int .i64 T, .int .i64 N, .slice aS ns cs, .int .i64 X, .int .i64 C] 33)).frozen? ⟨w.heap.size, o, none⟩ = false := fun o => by simp [go_sem]
    have abL_W1 : w.heap.size < (w.alloc (.cells #[.slice ap np cp, .slice ab nb cb, .slice al nl cl, .int .i64 T, .int .i64 N, .slice aS ns cs, .int .i64 X, .int .i64 C] 33)).heap.size := by simp
    have ab_W1 := alloc_below w (.cells #[.slice ap np cp, .slice ab nb cb, .slice al nl cl, .int .i64 T, .int .i64 N, .slice aS ns cs, .int .i64 X, .int .i64 C] 33)
    have as_W1 : Hid ((w.alloc (.cells #[.slice ap np cp, .slice ab nb cb, .slice al nl cl, .int .i64 T, .int .i64 N, .slice aS ns cs, .int .i64 X, .int .i64 C] 33)).heap.size = w.heap.size + 1) := hidP (by simp)
    generalize w.alloc (.cells #[.slice ap np cp, .slice ab nb cb, .slice al nl cl, .int .i64 T, .int .i64 N, .slice aS ns cs, .int .i64 X, .int .i64 C] 33) = W1 at *
    have acc_W1 := hidP (ab_W1)
    have sz_W1 : Hid (w.heap.size ≤ W1.heap.size) := hidP ab_W1.size
    clear ab_W1 
    refine (HSz.out _ acc_W1.out).mono ?_
    rintro e w2 ⟨rfl, hb2⟩
    have ab0_w2 := (hb2.cell abL_W1).trans ab0_W1
    have ab1_w2 := (hb2.cell abL_W1).trans ab1_W1
    have ab2_w2 := (hb2.cell abL_W1).trans ab2_W1
    have ab3_w2 := (hb2.cell abL_W1).trans ab3_W1
    have ab4_w2 := (hb2.cell abL_W1).trans ab4_W1
    have ab5_w2 := (hb2.cell abL_W1).trans ab5_W1
    have ab6_w2 := (hb2.cell abL_W1).trans ab6_W1
    have ab7_w2 := (hb2.cell abL_W1).trans ab7_W1
    have abF_w2 : ∀ o, w2.frozen? ⟨w.heap.size, o, none⟩ = false := fun o => (hb2.frozen abL_W1).trans (abF_W1 o)
    have abL_w2 : w.heap.size < w2.heap.size := Nat.lt_of_lt_of_le abL_W1 hb2.size
    have acc_w2 := hidP (acc_W1.out.trans (hb2.mono acc_W1.out.size))
    have sz_w2 : Hid (W1.heap.size ≤ w2.heap.size) := hidP hb2.size
    clear hb2 ab0_W1 ab1_W1 ab2_W1 ab3_W1 ab4_W1 ab5_W1 ab6_W1 ab7_W1 abF_W1 abL_W1 acc_W1
    go_wp2_with fail
    refine (HTo.out _ acc_w2.out).mono ?_
    rintro e w3 ⟨g3, h3, i3, j3, rfl, og3, oh3, oi3, oj3, ap3, hb3⟩
    have OP3 := hidP og3
    have OQ3 := hidP oh3
    have OR3 := hidP oi3
    have OS3 := hidP oj3
    clear og3 oh3 oi3 oj3
    clear ap3
    have ab0_w3 := (hb3.cell abL_w2).trans ab0_w2
    have ab1_w3 := (hb3.cell abL_w2).trans ab1_w2
    have ab2_w3 := (hb3.cell abL_w2).trans ab2_w2
    have ab3_w3 := (hb3.cell abL_w2).trans ab3_w2
    have ab4_w3 := (hb3.cell abL_w2).trans ab4_w2
    have ab5_w3 := (hb3.cell abL_w2).trans ab5_w2
    have ab6_w3 := (hb3.cell abL_w2).trans ab6_w2
    have ab7_w3 := (hb3.cell abL_w2).trans ab7_w2
    have abF_w3 : ∀ o, w3.frozen? ⟨w.heap.size, o, none⟩ = false := fun o => (hb3.frozen abL_w2).trans (abF_w2 o)
    have abL_w3 : w.heap.size < w3.heap.size := Nat.lt_of_lt_of_le abL_w2 hb3.size
    have acc_w3 := hidP (acc_w2.out.trans (hb3.mono acc_w2.out.size))
    have sz_w3 : Hid (w2.heap.size ≤ w3.heap.size) := hidP hb3.size
    clear hb3 ab0_w2 ab1_w2 ab2_w2 ab3_w2 ab4_w2 ab5_w2 ab6_w2 ab7_w2 abF_w2 abL_w2 acc_w2
    go_wp2_with fail
    refine (HSp.out g3 h3 i3 j3 _ OP3.out.row OQ3.out.row OR3.out.row OS3.out.row).mono ?_
    rintro e w4 ⟨rfl, hb4⟩
    clear OP3 OQ3 OR3 OS3
    have ab0_w4 := (hb4.cell abL_w3).trans ab0_w3
    have ab1_w4 := (hb4.cell abL_w3).trans ab1_w3
    have ab2_w4 := (hb4.cell abL_w3).trans ab2_w3
    have ab3_w4 := (hb4.cell abL_w3).trans ab3_w3
    have ab4_w4 := (hb4.cell abL_w3).trans ab4_w3
    have ab5_w4 := (hb4.cell abL_w3).trans ab5_w3
    have ab6_w4 := (hb4.cell abL_w3).trans ab6_w3
    have ab7_w4 := (hb4.cell abL_w3).trans ab7_w3
    have abF_w4 : ∀ o, w4.frozen? ⟨w.heap.size, o, none⟩ = false := fun o => (hb4.frozen abL_w3).trans (abF_w3 o)
    have abL_w4 : w.heap.size < w4.heap.size := Nat.lt_of_lt_of_le abL_w3 hb4.size
    have acc_w4 := hidP (acc_w3.out.trans (hb4.mono acc_w3.out.size))
    have sz_w4 : Hid (w3.heap.size ≤ w4.heap.size) := hidP hb4.size
    clear hb4 ab0_w3 ab1_w3 ab2_w3 ab3_w3 ab4_w3 ab5_w3 ab6_w3 ab7_w3 abF_w3 abL_w3 acc_w3
    go_wp2_with fail
    refine (HTo.out _ acc_w4.out).mono ?_
    rintro e w5 ⟨g5, h5, i5, j5, rfl, og5, oh5, oi5, oj5, ap5, hb5⟩
    have OP5 := hidP og5
    have OQ5 := hidP oh5
    have OR5 := hidP oi5
    have OS5 := hidP oj5
    clear og5 oh5 oi5 oj5
    clear ap5
    have ab0_w5 := (hb5.cell abL_w4).trans ab0_w4
    have ab1_w5 := (hb5.cell abL_w4).trans ab1_w4
    have ab2_w5 := (hb5.cell abL_w4).trans ab2_w4
    have ab3_w5 := (hb5.cell abL_w4).trans ab3_w4
    have ab4_w5 := (hb5.cell abL_w4).trans ab4_w4
    have ab5_w5 := (hb5.cell abL_w4).trans ab5_w4
    have ab6_w5 := (hb5.cell abL_w4).trans ab6_w4
    have ab7_w5 := (hb5.cell abL_w4).trans ab7_w4
    have abF_w5 : ∀ o, w5.frozen? ⟨w.heap.size, o, none⟩ = false := fun o => (hb5.frozen abL_w4).trans (abF_w4 o)
    have abL_w5 : w.heap.size < w5.heap.size := Nat.lt_of_lt_of_le abL_w4 hb5.size
    have acc_w5 := hidP (acc_w4.out.trans (hb5.mono acc_w4.out.size))
    have sz_w5 : Hid (w4.heap.size ≤ w5.heap.size) := hidP hb5.size
    clear hb5 ab0_w4 ab1_w4 ab2_w4 ab3_w4 ab4_w4 ab5_w4 ab6_w4 ab7_w4 abF_w4 abL_w4 acc_w4
    have oP5_w5 := hidP (OP5.out)
    have oQ5_w5 := hidP (OQ5.out)
    have oR5_w5 := hidP (OR5.out)
    have oS5_w5 := hidP (OS5.out)
    clear OP5 OQ5 OR5 OS5
    go_wp2_with fail
    obtain ⟨xa0_W6, xa1_W6, xa2_W6, xa3_W6, xa4_W6, xa5_W6, xa6_W6, xa7_W6⟩ := bx8 w5 48 (.slice (some ⟨g5, 0, none⟩) np np) (.slice (some ⟨h5, 0, none⟩) nb nb) (.slice (some ⟨i5, 0, none⟩) nl nl) (.int .i64 T) (.int .i64 N) (.slice (some ⟨j5, 0, none⟩) ns ns) (.int .i64 X) (.int .i64 C)
    have xaF_W6 : ∀ o, (w5.alloc (.cells #[.slice (some ⟨g5, 0, none⟩) np np, .slice (some ⟨h5, 0, none⟩) nb nb, .slice (some ⟨i5, 0, none⟩) nl nl, .int .i64 T, .int .i64 N, .slice (some ⟨j5, 0, none⟩) ns ns, .int .i64 X, .int .i64 C] 48)).frozen? ⟨w5.heap.size, o, none⟩ = false := fun o => by simp [go_sem]
    have xaL_W6 : w5.heap.size < (w5.alloc (.cells #[.slice (some ⟨g5, 0, none⟩) np np, .slice (some ⟨h5, 0, none⟩) nb nb, .slice (some ⟨i5, 0, none⟩) nl nl, .int .i64 T, .int .i64 N, .slice (some ⟨j5, 0, none⟩) ns ns, .int .i64 X, .int .i64 C] 48)).heap.size := by simp
    have ab_W6 := alloc_below w5 (.cells #[.slice (some ⟨g5, 0, none⟩) np np, .slice (some ⟨h5, 0, none⟩) nb nb, .slice (some ⟨i5, 0, none⟩) nl nl, .int .i64 T, .int .i64 N, .slice (some ⟨j5, 0, none⟩) ns ns, .int .i64 X, .int .i64 C] 48)
    have as_W6 : Hid ((w5.alloc (.cells #[.slice (some ⟨g5, 0, none⟩) np np, .slice (some ⟨h5, 0, none⟩) nb nb, .slice (some ⟨i5, 0, none⟩) nl nl, .int .i64 T, .int .i64 N, .slice (some ⟨j5, 0, none⟩) ns ns, .int .i64 X, .int .i64 C] 48)).heap.size = w5.heap.size + 1) := hidP (by simp)
    generalize w5.alloc (.cells #[.slice (some ⟨g5, 0, none⟩) np np, .slice (some ⟨h5, 0, none⟩) nb nb, .slice (some ⟨i5, 0, none⟩) nl nl, .int .i64 T, .int .i64 N, .slice (some ⟨j5, 0, none⟩) ns ns, .int .i64 X, .int .i64 C] 48) = W6 at *
    have ab0_W6 := (ab_W6.cell abL_w5).trans ab0_w5
    have ab1_W6 := (ab_W6.cell abL_w5).trans ab1_w5
    have ab2_W6 := (ab_W6.cell abL_w5).trans ab2_w5
    have ab3_W6 := (ab_W6.cell abL_w5).trans ab3_w5
    have ab4_W6 := (ab_W6.cell abL_w5).trans ab4_w5
    have ab5_W6 := (ab_W6.cell abL_w5).trans ab5_w5
    have ab6_W6 := (ab_W6.cell abL_w5).trans ab6_w5
    have ab7_W6 := (ab_W6.cell abL_w5).trans ab7_w5
    have abF_W6 : ∀ o, W6.frozen? ⟨w.heap.size, o, none⟩ = false := fun o => (ab_W6.frozen abL_w5).trans (abF_w5 o)
    have abL_W6 : w.heap.size < W6.heap.size := Nat.lt_of_lt_of_le abL_w5 ab_W6.size
    have oP5_W6 := hidP (OwnG.later oP5_w5.out ab_W6)
    have oQ5_W6 := hidP (OwnG.later oQ5_w5.out ab_W6)
    have oR5_W6 := hidP (OwnG.later oR5_w5.out ab_W6)
    have oS5_W6 := hidP (OwnG.later oS5_w5.out ab_W6)
    have acc_W6 := hidP (acc_w5.out.trans (ab_W6.mono acc_w5.out.size))
    have sz_W6 : Hid (w5.heap.size ≤ W6.heap.size) := hidP ab_W6.size
    clear ab_W6 ab0_w5 ab1_w5 ab2_w5 ab3_w5 ab4_w5 ab5_w5 ab6_w5 ab7_w5 abF_w5 abL_w5 oP5_w5 oQ5_w5 oR5_w5 oS5_w5 acc_w5
    refine (HIm.out g5 h5 i5 j5 _ oP5_W6.out.row oQ5_W6.out.row oR5_W6.out.row oS5_W6.out.row).mono ?_
    rintro e w7 ⟨rfl, hb7⟩
    have ab0_w7 := (hb7.cell abL_W6).trans ab0_W6
    have ab1_w7 := (hb7.cell abL_W6).trans ab1_W6
    have ab2_w7 := (hb7.cell abL_W6).trans ab2_W6
    have ab3_w7 := (hb7.cell abL_W6).trans ab3_W6
    have ab4_w7 := (hb7.cell abL_W6).trans ab4_W6
    have ab5_w7 := (hb7.cell abL_W6).trans ab5_W6
    have ab6_w7 := (hb7.cell abL_W6).trans ab6_W6
    have ab7_w7 := (hb7.cell abL_W6).trans ab7_W6
    have abF_w7 : ∀ o, w7.frozen? ⟨w.heap.size, o, none⟩ = false := fun o => (hb7.frozen abL_W6).trans (abF_W6 o)
    have abL_w7 : w.heap.size < w7.heap.size := Nat.lt_of_lt_of_le abL_W6 hb7.size
    have xa0_w7 := (hb7.cell xaL_W6).trans xa0_W6
    have xa1_w7 := (hb7.cell xaL_W6).trans xa1_W6
    have xa2_w7 := (hb7.cell xaL_W6).trans xa2_W6
    have xa3_w7 := (hb7.cell xaL_W6).trans xa3_W6
    have xa4_w7 := (hb7.cell xaL_W6).trans xa4_W6
    have xa5_w7 := (hb7.cell xaL_W6).trans xa5_W6
    have xa6_w7 := (hb7.cell xaL_W6).trans xa6_W6
    have xa7_w7 := (hb7.cell xaL_W6).trans xa7_W6
    have xaF_w7 : ∀ o, w7.frozen? ⟨w5.heap.size, o, none⟩ = false := fun o => (hb7.frozen xaL_W6).trans (xaF_W6 o)
    have xaL_w7 : w5.heap.size < w7.heap.size := Nat.lt_of_lt_of_le xaL_W6 hb7.size
    have oP5_w7 := hidP (OwnG.later oP5_W6.out hb7)
    have oQ5_w7 := hidP (OwnG.later oQ5_W6.out hb7)
    have oR5_w7 := hidP (OwnG.later oR5_W6.out hb7)
    have oS5_w7 := hidP (OwnG.later oS5_W6.out hb7)
    have acc_w7 := hidP (acc_W6.out.trans (hb7.mono acc_W6.out.size))
    have sz_w7 : Hid (W6.heap.size ≤ w7.heap.size) := hidP hb7.size
    clear hb7 ab0_W6 ab1_W6 ab2_W6 ab3_W6 ab4_W6 ab5_W6 ab6_W6 ab7_W6 abF_W6 abL_W6 xa0_W6 xa1_W6 xa2_W6 xa3_W6 xa4_W6 xa5_W6 xa6_W6 xa7_W6 xaF_W6 xaL_W6 oP5_W6 oQ5_W6 oR5_W6 oS5_W6 acc_W6
    go_wp2_with fail
    have HSx : Hid (∀ x, Below w7.heap.size w7 x → (x.cell? ⟨w.heap.size, 0, none⟩ = some (.slice ap np cp) ∧ x.cell? ⟨w.heap.size, 1, none⟩ = some (.slice ab nb cb) ∧ x.cell? ⟨w.heap.size, 2, none⟩ = some (.slice al nl cl) ∧ x.cell? ⟨w.heap.size, 3, none⟩ = some (.int .i64 T) ∧ x.cell? ⟨w.heap.size, 4, none⟩ = some (.int .i64 N) ∧ x.cell? ⟨w.heap.size, 5, none⟩ = some (.slice aS ns cs) ∧ x.cell? ⟨w.heap.size, 6, none⟩ = some (.int .i64 X) ∧ x.cell? ⟨w.heap.size, 7, none⟩ = some (.int .i64 C) ∧ x.cell? ⟨w5.heap.size, 0, none⟩ = some (.slice (some ⟨g5, 0, none⟩) np np) ∧ x.cell? ⟨w5.heap.size, 1, none⟩ = some (.slice (some ⟨h5, 0, none⟩) nb nb) ∧ x.cell? ⟨w5.heap.size, 2, none⟩ = some (.slice (some ⟨i5, 0, none⟩) nl nl) ∧ x.cell? ⟨w5.heap.size, 3, none⟩ = some (.int .i64 T) ∧ x.cell? ⟨w5.heap.size, 4, none⟩ = some (.int .i64 N) ∧ x.cell? ⟨w5.heap.size, 5, none⟩ = some (.slice (some ⟨j5, 0, none⟩) ns ns) ∧ x.cell? ⟨w5.heap.size, 6, none⟩ = some (.int .i64 X) ∧ x.cell? ⟨w5.heap.size, 7, none⟩ = some (.int .i64 C) ∧ Below w7.heap.size w7 x)) := hidP fun x h =>
      ⟨(h.cell abL_w7).trans ab0_w7, (h.cell abL_w7).trans ab1_w7, (h.cell abL_w7).trans ab2_w7, (h.cell abL_w7).trans ab3_w7, (h.cell abL_w7).trans ab4_w7, (h.cell abL_w7).trans ab5_w7, (h.cell abL_w7).trans ab6_w7, (h.cell abL_w7).trans ab7_w7, (h.cell xaL_w7).trans xa0_w7, (h.cell xaL_w7).trans xa1_w7, (h.cell xaL_w7).trans xa2_w7, (h.cell xaL_w7).trans xa3_w7, (h.cell xaL_w7).trans xa4_w7, (h.cell xaL_w7).trans xa5_w7, (h.cell xaL_w7).trans xa6_w7, (h.cell xaL_w7).trans xa7_w7, h⟩
    refine wp_region_held_drew (S := (fun x => x.cell? ⟨w.heap.size, 0, none⟩ = some (.slice ap np cp) ∧ x.cell? ⟨w.heap.size, 1, none⟩ = some (.slice ab nb cb) ∧ x.cell? ⟨w.heap.size, 2, none⟩ = some (.slice al nl cl) ∧ x.cell? ⟨w.heap.size, 3, none⟩ = some (.int .i64 T) ∧ x.cell? ⟨w.heap.size, 4, none⟩ = some (.int .i64 N) ∧ x.cell? ⟨w.heap.size, 5, none⟩ = some (.slice aS ns cs) ∧ x.cell? ⟨w.heap.size, 6, none⟩ = some (.int .i64 X) ∧ x.cell? ⟨w.heap.size, 7, none⟩ = some (.int .i64 C) ∧ x.cell? ⟨w5.heap.size, 0, none⟩ = some (.slice (some ⟨g5, 0, none⟩) np np) ∧ x.cell? ⟨w5.heap.size, 1, none⟩ = some (.slice (some ⟨h5, 0, none⟩) nb nb) ∧ x.cell? ⟨w5.heap.size, 2, none⟩ = some (.slice (some ⟨i5, 0, none⟩) nl nl) ∧ x.cell? ⟨w5.heap.size, 3, none⟩ = some (.int .i64 T) ∧ x.cell? ⟨w5.heap.size, 4, none⟩ = some (.int .i64 N) ∧ x.cell? ⟨w5.heap.size, 5, none⟩ = some (.slice (some ⟨j5, 0, none⟩) ns ns) ∧ x.cell? ⟨w5.heap.size, 6, none⟩ = some (.int .i64 X) ∧ x.cell? ⟨w5.heap.size, 7, none⟩ = some (.int .i64 C) ∧ Below w7.heap.size w7 x)) (by kernel_rfl) ?_ (fun hHeld => ?_)
    · try dsimp only
      exact HSx.out _ ((Below.refl _ _).drew)
    refine tk 0 22 rfl ?_; simp only [pa]
    refine tk 1 23 rfl ?_; simp only [pa]
    refine wpAnyH_ready (rs := [2]) (by kernel_rfl) (by simp) ?_
    refine AllReadyH.cons rfl (fun K hK => ?_) AllReadyH.nil
    go_simp
    go_wp2_with (first | (go_at_call 7; refine (HTo.out _ (acc_w7.out.trans ((hHeld.2.2.2.2.2.2.2.2.2.2.2.2.2.2.2.2).mono acc_w7.out.size))).mono ?_; rintro e w8 ⟨g8, h8, i8, j8, rfl, og8, oh8, oi8, oj8, ap8, hb8⟩; have b8 := (hHeld.2.2.2.2.2.2.2.2.2.2.2.2.2.2.2.2).trans (hb8.mono (hHeld.2.2.2.2.2.2.2.2.2.2.2.2.2.2.2.2).size)))
    refine hK.out _ _ ?_ (fun hHeld => ?_)
    · try dsimp only
      exact HSx.out _ b8
    clear hK K
    refine wpAnyH_ready (rs := [3]) (by kernel_rfl) (by simp) ?_
    refine AllReadyH.cons rfl (fun K hK => ?_) AllReadyH.nil
    go_simp
    go_wp2_with (first | (go_at_call 10; refine (HEq.out _ g5 h5 i5 j5 g8 h8 i8 j8 (oP5_w7.out.row.later (hHeld.2.2.2.2.2.2.2.2.2.2.2.2.2.2.2.2)) (oQ5_w7.out.row.later (hHeld.2.2.2.2.2.2.2.2.2.2.2.2.2.2.2.2)) (oR5_w7.out.row.later (hHeld.2.2.2.2.2.2.2.2.2.2.2.2.2.2.2.2)) (oS5_w7.out.row.later (hHeld.2.2.2.2.2.2.2.2.2.2.2.2.2.2.2.2)) og8.row oh8.row oi8.row oj8.row).mono ?_; rintro e w9 ⟨rfl, hb9⟩; have b9 := (hHeld.2.2.2.2.2.2.2.2.2.2.2.2.2.2.2.2).trans (hb9.mono (hHeld.2.2.2.2.2.2.2.2.2.2.2.2.2.2.2.2).size)))
    refine hK.out _ _ ?_ (fun hHeld => ?_)
    · try dsimp only
      exact HSx.out _ b9
    clear hK K
    refine tk 4 26 rfl ?_; simp only [pa]
    have HE := hidP (hHeld.2.2.2.2.2.2.2.2.2.2.2.2.2.2.2.2)
    refine wpAnyH_done (by kernel_rfl) ?_ _
    clear hHeld
    go_wp2_with fail
    go_ret
    exact ⟨rfl, acc_w7.out.trans (HE.out.mono acc_w7.out.size)⟩
  · rw [szT_no ht] at HSz
    clear hP hK hL hS hnp hnb hnl hns hsb hsl hss ht
    go_enter Tryz.func4, Tryz.ntmps4
    go_wp2_with fail
    refine (HSz.out _ (alloc_below w _)).mono ?_
    rintro e w2 ⟨rfl, hb2⟩
    go_wp2_with fail
    go_ret
    exact ⟨rfl, (alloc_below w _).trans (hb2.mono (alloc_below w _).size)⟩

set_option maxRecDepth 100000 in
theorem stateSum_lifted (os : Os) (started : os.Started) (H : Type) (enc : TypeId × Value → H) :
    ReturnsInHanded {} Tryz.checked os 4 .any (Rows.fnExactStateSumSpec.pre6 enc Tryz.prog Tryz.f4 Rows.fnExactStateSumRow.domain false) (Rows.fnExactStateSumSpec.post enc Tryz.prog Tryz.f4 false true false false) := by
  refine returnsInHanded_of_change (C := Tryz.checked) Tryz.ownB9 started (by kernel_rfl) Tryz.func4
    (ChangeSpec.witness6 (enc := enc) (C := Tryz.checked) false ⟨#[], #[.agg #[.slice none 0 0, .slice none 0 0, .slice none 0 0, .int .i64 0, .int .i64 0, .slice none 0 0, .int .i64 0, .int .i64 0]], []⟩ 8 (by kernel_rfl) (by kernel_rfl) (by kernel_rfl) (by kernel_rfl)) ?_
  intro W base args ds gs before hval0 hW _ _
  have hval : ∀ (j : Nat) t v, Tryz.f4.params[j]? = some t → args[j]? = some v → Value.okWide Tryz.prog W .any base t v := hval0
  have hW' := hW
  obtain ⟨p, q, hA0, hV, rfl, _, _⟩ := hW
  have hA : DataW.TrodAll enc Tryz.prog W 0 (fun _ => true) true Tryz.f4.params.toList args.toList ds p := hA0
  rw [Tryz.params4] at hA hval
  obtain ⟨v0, d0, rfl, rfl, h0⟩ := trodAll_one hA
  obtain ⟨rfl, rfl⟩ := trodVars_none hV
  obtain ⟨ap, np, cp, ab, nb, cb, al, nl, cl, T, N, aS, ns, cs, X, C, ps, bs, ls, ss, rfl, ⟨hnp, hnb, hnl, hns⟩, ⟨hP, hK, hL, hS⟩, ⟨h9p, h9b, h9l, h9s⟩, hsb, hsl, hss⟩ := openState (hval 0 33 v0 rfl rfl) h0
  clear hA0 hval0
  simp only [List.append_nil] at hW'
  have hlt0 : ∀ x ∈ p, x.block < W.heap.size := fun x hx => by simpa using hW'.lt x hx
  refine (lawStateSum ap np cp ab nb cb al nl cl T N aS ns cs X C ps bs ls ss W hnp hnb hnl hns hP hK hL hS h9p h9b h9l h9s hsb hsl hss).mono fun e W' ⟨he, hb⟩ => ?_
  subst he
  exact ⟨_, rfl, ⟨_, _, _, [], p, [], hW', trodAll_mk1 (shut_bool Tryz.underlying4 true), trodAll_mk1 (Below.trod Tryz.laidOutB9 (by kernel_rfl) (of_decide_eq_true (by kernel_rfl)) h0 hb hlt0), rfl, hb.frame _, fun h => by cases h⟩⟩

theorem stateSum_holds : Rows.FnExactStateSumSaid :=
  OpenClaim.holds_of_wide 4 Tryz.f4 rfl rfl rfl rfl rfl rfl rfl ⟨rfl, rfl, rfl, rfl, rfl⟩ rfl rfl rfl rfl rfl (by kernel_rfl) Tryz.func4 (by kernel_rfl)
    (of_decide_eq_true (by kernel_rfl)) (by unfold Func.isWrapper; rw [if_neg (of_decide_eq_false (by kernel_rfl))]; exact ⟨rfl, rfl⟩)
    (fun os started H enc _ => stateSum_lifted os started H enc)

end Go.Proofs.YtngcbhbcocnbeaaGreat
namespace Go.Proofs.YtngcbhbcocnbeaaGreat

theorem putSum_both : Rows.FnExactPutStateSaid ∧ Rows.FnExactStateSumSaid := ⟨putState_holds, stateSum_holds⟩

end Go.Proofs.YtngcbhbcocnbeaaGreat
