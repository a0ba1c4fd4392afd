/-
  What held_holds needs, part 8.
-/
import Derived.Test.YtplocbpngikohaaGreatZH7
import Derived.Deep.RegionWith
import Derived.Deep.RegionHeld3
import Derived.ProofKit
import Derived.OpenShut
import Derived.Lib.SmallJoins
import Derived.Carry
import Derived.Deep.Slices
import Derived.ChangeMaps5
import Derived.ChangeSame
namespace Go.Proofs.YtplocbpngikohaaGreat
open Go.RowKit

theorem drew_cell (w : World) (p : Addr) : w.drew.cell? p = w.cell? p := by simp [go_sem]
theorem drew_frozen (w : World) (p : Addr) : w.drew.frozen? p = w.frozen? p := by simp [go_sem]
theorem drew_size_lt {w : World} {n : Nat} (h : n < w.heap.size) : n < w.drew.heap.size := by simpa using h
theorem allS_at (ls : List Ls) (f : Ls → Bool) (k : Nat) (q : Ls) (h : ls[k]? = some q) : (ls.drop k).all f = (f q && (ls.drop (k + 1)).all f) := by
  rw [drop_at h]; rfl
theorem all_lie {ps : List Pl} {bs : List Bk} (h : planB ps bs = true) (ls : List Ls) : ls.all (lieB bs) = ls.all (lieS bs) := by
  induction ls with
  | nil => rfl
  | cons l t ih => rw [List.all_cons, List.all_cons, ih, lie_same bs l (plan_pw h)]

set_option maxRecDepth 10000 in
set_option maxHeartbeats 4000000 in
theorem sStateOk_any (ap : Option Addr) (np cp : Nat) (ab : Option Addr) (nb cb : Nat) (al : Option Addr) (nl cl : Nat) (T N : Int) (aS : Option Addr) (ns cs : Nat) (X C : Int) (ps : List Pl) (bs : List Bk) (ls : List Ls) (ss : List Ss) (w : World) (hnp : np = ps.length) (hnb : nb = bs.length) (hnl : nl = ls.length) (hns : ns = ss.length) (hP : RowG KPl w ap ps) (hK : RowG KBk w ab bs) (hL : RowG KLs w al ls) (hS : RowG KSs w aS ss) (hlp : np ≤ 1048576) (hlb : nb ≤ 1048576) (hll : nl ≤ 1048576) (hls : ns ≤ 1048576) (hsb : ∀ q ∈ bs, q.t.size ≤ 9223372036854775807) (hsl : ∀ q ∈ ls, q.t.size ≤ 9223372036854775807) :
    Calls Tryz.prog 6 #[.agg #[.slice ap np cp, .slice ab nb cb, .slice al nl cl, .int .i64 T, .int .i64 N, .slice aS ns cs, .int .i64 X, .int .i64 C]] w fun e w' => e = .returned (.bool (stB ps bs ls T N ss X C)) ∧ Below w.heap.size w w' := by
  have HP := hidP (fun W h => sPlanOk_any ap np cp ab nb cb ps bs W hnp hnb (hP.later h) (hK.later h) (by omega) (by omega) hsb)
  have HB := hidP (fun W h => sBookOk_any al nl cl T N ls W hnl (hL.later h) hll hsl)
  have HD := hidP (fun W h => sDeskOk_any aS ns cs X ss W hns (hS.later h) hls)
  have HBO := hidP (fun s H L W h => sBlockOf_any s H L ap np cp ab nb cb ps bs W hnp hnb (hP.later h) (hK.later h) (by omega) (by omega) hsb)
  have HR := hidP hL
  have HN := hidP hnl
  have HA := hidP (fun h => all_lie (ps := ps) (bs := bs) h ls)
  unfold stB
  clear hP hK hL hS hnp hnb hnl hns hsb hsl
  generalize planB ps bs = r1 at *
  generalize bkB ls T N = r2 at *
  generalize dkB ss X = r3 at *
  cases r1
  · go_enter Tryz.func6, Tryz.ntmps6
    go_wp2_with fail
    obtain ⟨bx0_W1, bx1_W1, bx2_W1, bx3_W1, bx4_W1, bx5_W1, bx6_W1, bx7_W1⟩ := bx8 w 47 (.slice ap np cp) (.slice ab nb cb) (.slice al nl cl) (.int .i64 T) (.int .i64 N) (.slice aS ns cs) (.int .i64 X) (.int .i64 C)
    have bxF_W1 : ∀ o, (w.alloc (.cells #[.slice ap np cp, .slice ab nb cb, .slice al nl cl, .int .i64 T, .int .i64 N, .slice aS ns cs, .int .i64 X, .int .i64 C] 47)).frozen? ⟨w.heap.size, o, none⟩ = false := fun o => by simp [go_sem]
    have bxL_W1 : w.heap.size < (w.alloc (.cells #[.slice ap np cp, .slice ab nb cb, .slice al nl cl, .int .i64 T, .int .i64 N, .slice aS ns cs, .int .i64 X, .int .i64 C] 47)).heap.size := by simp
    have ab_W1 := alloc_below w (.cells #[.slice ap np cp, .slice ab nb cb, .slice al nl cl, .int .i64 T, .int .i64 N, .slice aS ns cs, .int .i64 X, .int .i64 C] 47)
    have as_W1 : Hid ((w.alloc (.cells #[.slice ap np cp, .slice ab nb cb, .slice al nl cl, .int .i64 T, .int .i64 N, .slice aS ns cs, .int .i64 X, .int .i64 C] 47)).heap.size = w.heap.size + 1) := hidP (by simp)
    generalize w.alloc (.cells #[.slice ap np cp, .slice ab nb cb, .slice al nl cl, .int .i64 T, .int .i64 N, .slice aS ns cs, .int .i64 X, .int .i64 C] 47) = W1 at *
    have acc_W1 := hidP (ab_W1)
    have sz_W1 : Hid (w.heap.size ≤ W1.heap.size) := hidP ab_W1.size
    clear ab_W1 
    refine (HP.out _ acc_W1.out).mono ?_
    rintro e u0 ⟨rfl, hb0⟩
    have bx0_u0 := (hb0.cell bxL_W1).trans bx0_W1
    have bx1_u0 := (hb0.cell bxL_W1).trans bx1_W1
    have bx2_u0 := (hb0.cell bxL_W1).trans bx2_W1
    have bx3_u0 := (hb0.cell bxL_W1).trans bx3_W1
    have bx4_u0 := (hb0.cell bxL_W1).trans bx4_W1
    have bx5_u0 := (hb0.cell bxL_W1).trans bx5_W1
    have bx6_u0 := (hb0.cell bxL_W1).trans bx6_W1
    have bx7_u0 := (hb0.cell bxL_W1).trans bx7_W1
    have bxF_u0 : ∀ o, u0.frozen? ⟨w.heap.size, o, none⟩ = false := fun o => (hb0.frozen bxL_W1).trans (bxF_W1 o)
    have bxL_u0 : w.heap.size < u0.heap.size := Nat.lt_of_lt_of_le bxL_W1 hb0.size
    have acc_u0 := hidP (acc_W1.out.trans (hb0.mono acc_W1.out.size))
    have sz_u0 : Hid (W1.heap.size ≤ u0.heap.size) := hidP hb0.size
    clear hb0 bx0_W1 bx1_W1 bx2_W1 bx3_W1 bx4_W1 bx5_W1 bx6_W1 bx7_W1 bxF_W1 bxL_W1 acc_W1
    go_wp2_with fail
    go_ret
    exact ⟨rfl, acc_u0.out⟩
  · cases r2
    · go_enter Tryz.func6, Tryz.ntmps6
      go_wp2_with fail
      obtain ⟨bx0_W1, bx1_W1, bx2_W1, bx3_W1, bx4_W1, bx5_W1, bx6_W1, bx7_W1⟩ := bx8 w 47 (.slice ap np cp) (.slice ab nb cb) (.slice al nl cl) (.int .i64 T) (.int .i64 N) (.slice aS ns cs) (.int .i64 X) (.int .i64 C)
      have bxF_W1 : ∀ o, (w.alloc (.cells #[.slice ap np cp, .slice ab nb cb, .slice al nl cl, .int .i64 T, .int .i64 N, .slice aS ns cs, .int .i64 X, .int .i64 C] 47)).frozen? ⟨w.heap.size, o, none⟩ = false := fun o => by simp [go_sem]
      have bxL_W1 : w.heap.size < (w.alloc (.cells #[.slice ap np cp, .slice ab nb cb, .slice al nl cl, .int .i64 T, .int .i64 N, .slice aS ns cs, .int .i64 X, .int .i64 C] 47)).heap.size := by simp
      have ab_W1 := alloc_below w (.cells #[.slice ap np cp, .slice ab nb cb, .slice al nl cl, .int .i64 T, .int .i64 N, .slice aS ns cs, .int .i64 X, .int .i64 C] 47)
      have as_W1 : Hid ((w.alloc (.cells #[.slice ap np cp, .slice ab nb cb, .slice al nl cl, .int .i64 T, .int .i64 N, .slice aS ns cs, .int .i64 X, .int .i64 C] 47)).heap.size = w.heap.size + 1) := hidP (by simp)
      generalize w.alloc (.cells #[.slice ap np cp, .slice ab nb cb, .slice al nl cl, .int .i64 T, .int .i64 N, .slice aS ns cs, .int .i64 X, .int .i64 C] 47) = W1 at *
      have acc_W1 := hidP (ab_W1)
      have sz_W1 : Hid (w.heap.size ≤ W1.heap.size) := hidP ab_W1.size
      clear ab_W1 
      refine (HP.out _ acc_W1.out).mono ?_
      rintro e u0 ⟨rfl, hb0⟩
      have bx0_u0 := (hb0.cell bxL_W1).trans bx0_W1
      have bx1_u0 := (hb0.cell bxL_W1).trans bx1_W1
      have bx2_u0 := (hb0.cell bxL_W1).trans bx2_W1
      have bx3_u0 := (hb0.cell bxL_W1).trans bx3_W1
      have bx4_u0 := (hb0.cell bxL_W1).trans bx4_W1
      have bx5_u0 := (hb0.cell bxL_W1).trans bx5_W1
      have bx6_u0 := (hb0.cell bxL_W1).trans bx6_W1
      have bx7_u0 := (hb0.cell bxL_W1).trans bx7_W1
      have bxF_u0 : ∀ o, u0.frozen? ⟨w.heap.size, o, none⟩ = false := fun o => (hb0.frozen bxL_W1).trans (bxF_W1 o)
      have bxL_u0 : w.heap.size < u0.heap.size := Nat.lt_of_lt_of_le bxL_W1 hb0.size
      have acc_u0 := hidP (acc_W1.out.trans (hb0.mono acc_W1.out.size))
      have sz_u0 : Hid (W1.heap.size ≤ u0.heap.size) := hidP hb0.size
      clear hb0 bx0_W1 bx1_W1 bx2_W1 bx3_W1 bx4_W1 bx5_W1 bx6_W1 bx7_W1 bxF_W1 bxL_W1 acc_W1
      go_wp2_with fail
      refine (HB.out _ acc_u0.out).mono ?_
      rintro e u1 ⟨rfl, hb1⟩
      have bx0_u1 := (hb1.cell bxL_u0).trans bx0_u0
      have bx1_u1 := (hb1.cell bxL_u0).trans bx1_u0
      have bx2_u1 := (hb1.cell bxL_u0).trans bx2_u0
      have bx3_u1 := (hb1.cell bxL_u0).trans bx3_u0
      have bx4_u1 := (hb1.cell bxL_u0).trans bx4_u0
      have bx5_u1 := (hb1.cell bxL_u0).trans bx5_u0
      have bx6_u1 := (hb1.cell bxL_u0).trans bx6_u0
      have bx7_u1 := (hb1.cell bxL_u0).trans bx7_u0
      have bxF_u1 : ∀ o, u1.frozen? ⟨w.heap.size, o, none⟩ = false := fun o => (hb1.frozen bxL_u0).trans (bxF_u0 o)
      have bxL_u1 : w.heap.size < u1.heap.size := Nat.lt_of_lt_of_le bxL_u0 hb1.size
      have acc_u1 := hidP (acc_u0.out.trans (hb1.mono acc_u0.out.size))
      have sz_u1 : Hid (u0.heap.size ≤ u1.heap.size) := hidP hb1.size
      clear hb1 bx0_u0 bx1_u0 bx2_u0 bx3_u0 bx4_u0 bx5_u0 bx6_u0 bx7_u0 bxF_u0 bxL_u0 acc_u0
      go_wp2_with fail
      go_ret
      exact ⟨rfl, acc_u1.out⟩
    · cases r3
      · go_enter Tryz.func6, Tryz.ntmps6
        go_wp2_with fail
        obtain ⟨bx0_W1, bx1_W1, bx2_W1, bx3_W1, bx4_W1, bx5_W1, bx6_W1, bx7_W1⟩ := bx8 w 47 (.slice ap np cp) (.slice ab nb cb) (.slice al nl cl) (.int .i64 T) (.int .i64 N) (.slice aS ns cs) (.int .i64 X) (.int .i64 C)
        have bxF_W1 : ∀ o, (w.alloc (.cells #[.slice ap np cp, .slice ab nb cb, .slice al nl cl, .int .i64 T, .int .i64 N, .slice aS ns cs, .int .i64 X, .int .i64 C] 47)).frozen? ⟨w.heap.size, o, none⟩ = false := fun o => by simp [go_sem]
        have bxL_W1 : w.heap.size < (w.alloc (.cells #[.slice ap np cp, .slice ab nb cb, .slice al nl cl, .int .i64 T, .int .i64 N, .slice aS ns cs, .int .i64 X, .int .i64 C] 47)).heap.size := by simp
        have ab_W1 := alloc_below w (.cells #[.slice ap np cp, .slice ab nb cb, .slice al nl cl, .int .i64 T, .int .i64 N, .slice aS ns cs, .int .i64 X, .int .i64 C] 47)
        have as_W1 : Hid ((w.alloc (.cells #[.slice ap np cp, .slice ab nb cb, .slice al nl cl, .int .i64 T, .int .i64 N, .slice aS ns cs, .int .i64 X, .int .i64 C] 47)).heap.size = w.heap.size + 1) := hidP (by simp)
        generalize w.alloc (.cells #[.slice ap np cp, .slice ab nb cb, .slice al nl cl, .int .i64 T, .int .i64 N, .slice aS ns cs, .int .i64 X, .int .i64 C] 47) = W1 at *
        have acc_W1 := hidP (ab_W1)
        have sz_W1 : Hid (w.heap.size ≤ W1.heap.size) := hidP ab_W1.size
        clear ab_W1 
        refine (HP.out _ acc_W1.out).mono ?_
        rintro e u0 ⟨rfl, hb0⟩
        have bx0_u0 := (hb0.cell bxL_W1).trans bx0_W1
        have bx1_u0 := (hb0.cell bxL_W1).trans bx1_W1
        have bx2_u0 := (hb0.cell bxL_W1).trans bx2_W1
        have bx3_u0 := (hb0.cell bxL_W1).trans bx3_W1
        have bx4_u0 := (hb0.cell bxL_W1).trans bx4_W1
        have bx5_u0 := (hb0.cell bxL_W1).trans bx5_W1
        have bx6_u0 := (hb0.cell bxL_W1).trans bx6_W1
        have bx7_u0 := (hb0.cell bxL_W1).trans bx7_W1
        have bxF_u0 : ∀ o, u0.frozen? ⟨w.heap.size, o, none⟩ = false := fun o => (hb0.frozen bxL_W1).trans (bxF_W1 o)
        have bxL_u0 : w.heap.size < u0.heap.size := Nat.lt_of_lt_of_le bxL_W1 hb0.size
        have acc_u0 := hidP (acc_W1.out.trans (hb0.mono acc_W1.out.size))
        have sz_u0 : Hid (W1.heap.size ≤ u0.heap.size) := hidP hb0.size
        clear hb0 bx0_W1 bx1_W1 bx2_W1 bx3_W1 bx4_W1 bx5_W1 bx6_W1 bx7_W1 bxF_W1 bxL_W1 acc_W1
        go_wp2_with fail
        refine (HB.out _ acc_u0.out).mono ?_
        rintro e u1 ⟨rfl, hb1⟩
        have bx0_u1 := (hb1.cell bxL_u0).trans bx0_u0
        have bx1_u1 := (hb1.cell bxL_u0).trans bx1_u0
        have bx2_u1 := (hb1.cell bxL_u0).trans bx2_u0
        have bx3_u1 := (hb1.cell bxL_u0).trans bx3_u0
        have bx4_u1 := (hb1.cell bxL_u0).trans bx4_u0
        have bx5_u1 := (hb1.cell bxL_u0).trans bx5_u0
        have bx6_u1 := (hb1.cell bxL_u0).trans bx6_u0
        have bx7_u1 := (hb1.cell bxL_u0).trans bx7_u0
        have bxF_u1 : ∀ o, u1.frozen? ⟨w.heap.size, o, none⟩ = false := fun o => (hb1.frozen bxL_u0).trans (bxF_u0 o)
        have bxL_u1 : w.heap.size < u1.heap.size := Nat.lt_of_lt_of_le bxL_u0 hb1.size
        have acc_u1 := hidP (acc_u0.out.trans (hb1.mono acc_u0.out.size))
        have sz_u1 : Hid (u0.heap.size ≤ u1.heap.size) := hidP hb1.size
        clear hb1 bx0_u0 bx1_u0 bx2_u0 bx3_u0 bx4_u0 bx5_u0 bx6_u0 bx7_u0 bxF_u0 bxL_u0 acc_u0
        go_wp2_with fail
        refine (HD.out _ acc_u1.out).mono ?_
        rintro e u2 ⟨rfl, hb2⟩
        have bx0_u2 := (hb2.cell bxL_u1).trans bx0_u1
        have bx1_u2 := (hb2.cell bxL_u1).trans bx1_u1
        have bx2_u2 := (hb2.cell bxL_u1).trans bx2_u1
        have bx3_u2 := (hb2.cell bxL_u1).trans bx3_u1
        have bx4_u2 := (hb2.cell bxL_u1).trans bx4_u1
        have bx5_u2 := (hb2.cell bxL_u1).trans bx5_u1
        have bx6_u2 := (hb2.cell bxL_u1).trans bx6_u1
        have bx7_u2 := (hb2.cell bxL_u1).trans bx7_u1
        have bxF_u2 : ∀ o, u2.frozen? ⟨w.heap.size, o, none⟩ = false := fun o => (hb2.frozen bxL_u1).trans (bxF_u1 o)
        have bxL_u2 : w.heap.size < u2.heap.size := Nat.lt_of_lt_of_le bxL_u1 hb2.size
        have acc_u2 := hidP (acc_u1.out.trans (hb2.mono acc_u1.out.size))
        have sz_u2 : Hid (u1.heap.size ≤ u2.heap.size) := hidP hb2.size
        clear hb2 bx0_u1 bx1_u1 bx2_u1 bx3_u1 bx4_u1 bx5_u1 bx6_u1 bx7_u1 bxF_u1 bxL_u1 acc_u1
        go_wp2_with fail
        go_ret
        exact ⟨rfl, acc_u2.out⟩
      · cases hc : decide (C < 0)
        · have hc2 : ¬ (C < 0) := of_decide_eq_false hc
          have hc3 : decide (0 ≤ C) = true := decide_eq_true (by omega)
          rw [hc3, HA.out rfl]
          clear HA hc3
          go_enter Tryz.func6, Tryz.ntmps6
          go_wp2_with fail
          obtain ⟨bx0_W1, bx1_W1, bx2_W1, bx3_W1, bx4_W1, bx5_W1, bx6_W1, bx7_W1⟩ := bx8 w 47 (.slice ap np cp) (.slice ab nb cb) (.slice al nl cl) (.int .i64 T) (.int .i64 N) (.slice aS ns cs) (.int .i64 X) (.int .i64 C)
          have bxF_W1 : ∀ o, (w.alloc (.cells #[.slice ap np cp, .slice ab nb cb, .slice al nl cl, .int .i64 T, .int .i64 N, .slice aS ns cs, .int .i64 X, .int .i64 C] 47)).frozen? ⟨w.heap.size, o, none⟩ = false := fun o => by simp [go_sem]
          have bxL_W1 : w.heap.size < (w.alloc (.cells #[.slice ap np cp, .slice ab nb cb, .slice al nl cl, .int .i64 T, .int .i64 N, .slice aS ns cs, .int .i64 X, .int .i64 C] 47)).heap.size := by simp
          have ab_W1 := alloc_below w (.cells #[.slice ap np cp, .slice ab nb cb, .slice al nl cl, .int .i64 T, .int .i64 N, .slice aS ns cs, .int .i64 X, .int .i64 C] 47)
          have as_W1 : Hid ((w.alloc (.cells #[.slice ap np cp, .slice ab nb cb, .slice al nl cl, .int .i64 T, .int .i64 N, .slice aS ns cs, .int .i64 X, .int .i64 C] 47)).heap.size = w.heap.size + 1) := hidP (by simp)
          generalize w.alloc (.cells #[.slice ap np cp, .slice ab nb cb, .slice al nl cl, .int .i64 T, .int .i64 N, .slice aS ns cs, .int .i64 X, .int .i64 C] 47) = W1 at *
          have acc_W1 := hidP (ab_W1)
          have sz_W1 : Hid (w.heap.size ≤ W1.heap.size) := hidP ab_W1.size
          clear ab_W1 
          refine (HP.out _ acc_W1.out).mono ?_
          rintro e u0 ⟨rfl, hb0⟩
          have bx0_u0 := (hb0.cell bxL_W1).trans bx0_W1
          have bx1_u0 := (hb0.cell bxL_W1).trans bx1_W1
          have bx2_u0 := (hb0.cell bxL_W1).trans bx2_W1
          have bx3_u0 := (hb0.cell bxL_W1).trans bx3_W1
          have bx4_u0 := (hb0.cell bxL_W1).trans bx4_W1
          have bx5_u0 := (hb0.cell bxL_W1).trans bx5_W1
          have bx6_u0 := (hb0.cell bxL_W1).trans bx6_W1
          have bx7_u0 := (hb0.cell bxL_W1).trans bx7_W1
          have bxF_u0 : ∀ o, u0.frozen? ⟨w.heap.size, o, none⟩ = false := fun o => (hb0.frozen bxL_W1).trans (bxF_W1 o)
          have bxL_u0 : w.heap.size < u0.heap.size := Nat.lt_of_lt_of_le bxL_W1 hb0.size
          have acc_u0 := hidP (acc_W1.out.trans (hb0.mono acc_W1.out.size))
          have sz_u0 : Hid (W1.heap.size ≤ u0.heap.size) := hidP hb0.size
          clear hb0 bx0_W1 bx1_W1 bx2_W1 bx3_W1 bx4_W1 bx5_W1 bx6_W1 bx7_W1 bxF_W1 bxL_W1 acc_W1
          go_wp2_with fail
          refine (HB.out _ acc_u0.out).mono ?_
          rintro e u1 ⟨rfl, hb1⟩
          have bx0_u1 := (hb1.cell bxL_u0).trans bx0_u0
          have bx1_u1 := (hb1.cell bxL_u0).trans bx1_u0
          have bx2_u1 := (hb1.cell bxL_u0).trans bx2_u0
          have bx3_u1 := (hb1.cell bxL_u0).trans bx3_u0
          have bx4_u1 := (hb1.cell bxL_u0).trans bx4_u0
          have bx5_u1 := (hb1.cell bxL_u0).trans bx5_u0
          have bx6_u1 := (hb1.cell bxL_u0).trans bx6_u0
          have bx7_u1 := (hb1.cell bxL_u0).trans bx7_u0
          have bxF_u1 : ∀ o, u1.frozen? ⟨w.heap.size, o, none⟩ = false := fun o => (hb1.frozen bxL_u0).trans (bxF_u0 o)
          have bxL_u1 : w.heap.size < u1.heap.size := Nat.lt_of_lt_of_le bxL_u0 hb1.size
          have acc_u1 := hidP (acc_u0.out.trans (hb1.mono acc_u0.out.size))
          have sz_u1 : Hid (u0.heap.size ≤ u1.heap.size) := hidP hb1.size
          clear hb1 bx0_u0 bx1_u0 bx2_u0 bx3_u0 bx4_u0 bx5_u0 bx6_u0 bx7_u0 bxF_u0 bxL_u0 acc_u0
          go_wp2_with fail
          refine (HD.out _ acc_u1.out).mono ?_
          rintro e u2 ⟨rfl, hb2⟩
          have bx0_u2 := (hb2.cell bxL_u1).trans bx0_u1
          have bx1_u2 := (hb2.cell bxL_u1).trans bx1_u1
          have bx2_u2 := (hb2.cell bxL_u1).trans bx2_u1
          have bx3_u2 := (hb2.cell bxL_u1).trans bx3_u1
          have bx4_u2 := (hb2.cell bxL_u1).trans bx4_u1
          have bx5_u2 := (hb2.cell bxL_u1).trans bx5_u1
          have bx6_u2 := (hb2.cell bxL_u1).trans bx6_u1
          have bx7_u2 := (hb2.cell bxL_u1).trans bx7_u1
          have bxF_u2 : ∀ o, u2.frozen? ⟨w.heap.size, o, none⟩ = false := fun o => (hb2.frozen bxL_u1).trans (bxF_u1 o)
          have bxL_u2 : w.heap.size < u2.heap.size := Nat.lt_of_lt_of_le bxL_u1 hb2.size
          have acc_u2 := hidP (acc_u1.out.trans (hb2.mono acc_u1.out.size))
          have sz_u2 : Hid (u1.heap.size ≤ u2.heap.size) := hidP hb2.size
          clear hb2 bx0_u1 bx1_u1 bx2_u1 bx3_u1 bx4_u1 bx5_u1 bx6_u1 bx7_u1 bxF_u1 bxL_u1 acc_u1
          go_wp2_with fail
          go_loopw [3, 4, 5] (fun t3 _ _ wr => ∃ k : Nat, k ≤ nl ∧ t3 = .int .i64 k ∧ ls.all (lieS bs) = (ls.drop k).all (lieS bs) ∧ Below u2.heap.size u2 wr) (fun t3 _ _ _ => nl - (intOf t3).toNat)
          case atStart => exact ⟨0, Nat.zero_le _, rfl, rfl, Below.refl _ _⟩
          case round =>
            obtain ⟨k, hk, rfl, hpo, hbel⟩ := hrel
            have B0 := (hbel.cell bxL_u2).trans bx0_u2
            have B1 := (hbel.cell bxL_u2).trans bx1_u2
            have B2 := (hbel.cell bxL_u2).trans bx2_u2
            have B3 := (hbel.cell bxL_u2).trans bx3_u2
            have B4 := (hbel.cell bxL_u2).trans bx4_u2
            have B5 := (hbel.cell bxL_u2).trans bx5_u2
            have B6 := (hbel.cell bxL_u2).trans bx6_u2
            have B7 := (hbel.cell bxL_u2).trans bx7_u2
            have BL : w.heap.size < wr.heap.size := Nat.lt_of_lt_of_le bxL_u2 hbel.size
            have HBu := hidP hbel
            have HBel := hidP (acc_u2.out.trans (hbel.mono acc_u2.out.size))
            by_cases hlt : k < nl
            · obtain ⟨p, o, q, rfl, hp, hq, c0, c1, c2, c3, c4, c5⟩ := rowLs HR.out k (by rw [← HN.out]; exact hlt)
              have d0 := (HBel.out.cell hp).trans c0
              have d1 := (HBel.out.cell hp).trans c1
              have d2 := (HBel.out.cell hp).trans c2
              have d3 := (HBel.out.cell hp).trans c3
              have d4 := (HBel.out.cell hp).trans c4
              have d5 := (HBel.out.cell hp).trans c5
              have hpL : p < wr.heap.size := Nat.lt_of_lt_of_le hp HBel.out.size
              rw [allS_at ls _ k q hq] at hpo
              have HPo := hidP hpo
              have HBq := hidP (fun W h => HBO.out q.a.s q.a.H q.a.L W h)
              unfold bkR at HBq
              rw [if_pos rfl] at HBq
              have HLie : Hid (lieS bs q = ((bkF q.a.s q.a.H q.a.L bs).2 && decide ((bkF q.a.s q.a.H q.a.L bs).1.t = q.t))) := hidP rfl
              generalize bkF q.a.s q.a.H q.a.L bs = R at *
              obtain ⟨y, r⟩ := R
              try dsimp only at HBq HLie
              clear c0 c1 c2 c3 c4 c5 hq hpo hbel bx0_u2 bx1_u2 bx2_u2 bx3_u2 bx4_u2 bx5_u2 bx6_u2 bx7_u2 bxF_u2 bxL_u2
              go_upto_region 6 with fail
              go_cut [4, 5] (fun t4 t5 Y => ∃ b : Nat, t4 = .pointer (some ⟨b, 0, none⟩) ∧ t5 = .bool r ∧ wr.heap.size ≤ b ∧ b < Y.heap.size ∧ Y.cell? ⟨b, 0, none⟩ = some (.bool y.p.s) ∧ Y.cell? ⟨b, 1, none⟩ = some (.int .i64 y.p.H.toInt) ∧ Y.cell? ⟨b, 2, none⟩ = some (.int .i64 y.p.L.toInt) ∧ Y.cell? ⟨b, 3, none⟩ = some (.int .i64 y.p.b) ∧ Y.cell? ⟨b, 4, none⟩ = some (.string y.t) ∧ Below wr.heap.size wr Y)
              case first =>
                have HSx : Hid (∀ x, Below wr.heap.size wr x → (x.cell? ⟨w.heap.size, 0, none⟩ = some (.slice ap np cp) ∧ x.cell? ⟨w.heap.size, 1, none⟩ = some (.slice ab nb cb) ∧ x.cell? ⟨w.heap.size, 2, none⟩ = some (.slice (some ⟨p, o, none⟩) nl cl) ∧ x.cell? ⟨p, o + k * 6, none⟩ = some (.bool q.a.s) ∧ x.cell? ⟨p, o + k * 6 + 1, none⟩ = some (.int .i64 q.a.H.toInt) ∧ x.cell? ⟨p, o + k * 6 + 2, none⟩ = some (.int .i64 q.a.L.toInt) ∧ Below wr.heap.size wr x)) := hidP fun x h =>
                  ⟨(h.cell BL).trans B0, (h.cell BL).trans B1, (h.cell BL).trans B2, (h.cell hpL).trans d0, (h.cell hpL).trans d1, (h.cell hpL).trans d2, h⟩
                refine wp_region_held_drew (S := (fun x => x.cell? ⟨w.heap.size, 0, none⟩ = some (.slice ap np cp) ∧ x.cell? ⟨w.heap.size, 1, none⟩ = some (.slice ab nb cb) ∧ x.cell? ⟨w.heap.size, 2, none⟩ = some (.slice (some ⟨p, o, none⟩) nl cl) ∧ x.cell? ⟨p, o + k * 6, none⟩ = some (.bool q.a.s) ∧ x.cell? ⟨p, o + k * 6 + 1, none⟩ = some (.int .i64 q.a.H.toInt) ∧ x.cell? ⟨p, o + k * 6 + 2, none⟩ = some (.int .i64 q.a.L.toInt) ∧ Below wr.heap.size wr x)) (by kernel_rfl) ?_ (fun hHeld => ?_)
                · try dsimp only
                  exact HSx.out _ (Below.refl _ _).drew
                refine tkA 0 36 (v := ?_) rfl (by kernel_rfl) (fun _ _ _ h => h) (by rfl) ?_ (by assumption) ?_; rotate_left; · (intro w hSw; (try dsimp only at hSw); go_simp; try with_reducible rfl)
                simp only [pa]
                refine tkA 1 37 (v := ?_) rfl (by kernel_rfl) (fun _ _ _ h => h) (by rfl) ?_ (by assumption) ?_; rotate_left; · (intro w hSw; (try dsimp only at hSw); go_simp; try with_reducible rfl)
                simp only [pa]
                refine tkA 2 38 (v := ?_) rfl (by kernel_rfl) (fun _ _ _ h => h) (by rfl) ?_ (by assumption) ?_; rotate_left; · (intro w hSw; (try dsimp only at hSw); go_simp; try with_reducible rfl)
                simp only [pa]
                refine tkA 3 39 (v := ?_) rfl (by kernel_rfl) (fun _ _ _ h => h) (by rfl) ?_ (by assumption) ?_; rotate_left; · (intro w hSw; (try dsimp only at hSw); go_simp; try with_reducible rfl)
                simp only [pa]
                refine tkA 4 40 (v := ?_) rfl (by kernel_rfl) (fun _ _ _ h => h) (by rfl) ?_ (by assumption) ?_; rotate_left; · (intro w hSw; (try dsimp only at hSw); go_simp; try with_reducible rfl)
                simp only [pa]
                refine tkA 5 41 (v := ?_) rfl (by kernel_rfl) (fun _ _ _ h => h) (by rfl) ?_ (by assumption) ?_; rotate_left; · (intro w hSw; (try dsimp only at hSw); go_simp; try with_reducible rfl)
                simp only [pa]
                refine tkA 6 42 (v := ?_) rfl (by kernel_rfl) (fun _ _ _ h => h) (by rfl) ?_ (by assumption) ?_; rotate_left; · (intro w hSw; (try dsimp only at hSw); go_simp; try with_reducible rfl)
                simp only [pa]
                refine tkA 7 43 (v := ?_) rfl (by kernel_rfl) (fun _ _ _ h => h) (by rfl) ?_ (by assumption) ?_; rotate_left; · (intro w hSw; (try dsimp only at hSw); go_simp; try with_reducible rfl)
                simp only [pa]
                refine tkA 8 44 (v := ?_) rfl (by kernel_rfl) (fun _ _ _ h => h) (by rfl) ?_ (by assumption) ?_; rotate_left; · (intro w hSw; (try dsimp only at hSw); go_simp; try with_reducible rfl)
                simp only [pa]
                refine wpAnyH_ready (rs := [9, 13]) (by kernel_rfl) (by simp) ?_
                refine AllReadyH.cons rfl (fun K hK => ?_) (AllReadyH.cons rfl (fun K hK => ?_) AllReadyH.nil)
                · go_simp
                  go_wp2_with (first | (go_at_call 19; refine (HBq.out _ (HBel.out.trans ((hHeld.2.2.2.2.2.2).mono HBel.out.size))).mono ?_; rintro e w3 ⟨rfl, hb3⟩; have b3 := (hHeld.2.2.2.2.2.2).trans (hb3.mono (hHeld.2.2.2.2.2.2).size)))
                  refine hK.out _ _ ?_ (fun hHeld => ?_)
                  · try dsimp only
                    exact HSx.out _ b3
                  clear hK K
                  refine tkA 10 35 (v := ?_) rfl (by kernel_rfl) (fun _ _ _ h => h) (by rfl) ?_ (by assumption) ?_; rotate_left; · (intro w hSw; (try dsimp only at hSw); go_simp; try with_reducible rfl)
                  simp only [pa]
                  refine tkA 11 46 (v := ?_) rfl (by kernel_rfl) (fun _ _ _ h => h) (by rfl) ?_ (by assumption) ?_; rotate_left; · (intro w hSw; (try dsimp only at hSw); go_simp; try with_reducible rfl)
                  simp only [pa]
                  refine tkA 12 47 (v := ?_) rfl (by kernel_rfl) (fun _ _ _ h => h) (by rfl) ?_ (by assumption) ?_; rotate_left; · (intro w hSw; (try dsimp only at hSw); go_simp; try with_reducible rfl)
                  simp only [pa]
                  refine wpAnyH_ready (rs := [13]) (by kernel_rfl) (by simp) ?_
                  refine AllReadyH.cons rfl (fun K hK => ?_) AllReadyH.nil
                  go_simp
                  obtain ⟨z4x0, z4x1, z4x2, z4x3, z4x4⟩ := boxZ w3 67
                  have z4F := frzZ w3 67
                  have z4B := alloc_below w3 (.cells #[.bool false, .int .i64 0, .int .i64 0, .int .i64 0, .string ⟨#[]⟩] 67)
                  have z4L := alloc_lt w3 (.cells #[.bool false, .int .i64 0, .int .i64 0, .int .i64 0, .string ⟨#[]⟩] 67)
                  have z4M := (hHeld.2.2.2.2.2.2).trans (z4B.mono (hHeld.2.2.2.2.2.2).size)
                  generalize w3.alloc (.cells #[.bool false, .int .i64 0, .int .i64 0, .int .i64 0, .string ⟨#[]⟩] 67) = w4 at *
                  refine hK.out _ _ ?_ (fun hHeld => ?_)
                  · try dsimp only
                    exact HSx.out _ z4M
                  clear hK K
                  have bl4 : wr.heap.size ≤ w3.heap.size := b3.size
                  refine wpAnyH_ready (rs := [14]) (by kernel_rfl) (by simp) ?_
                  refine AllReadyH.cons rfl (fun K hK => ?_) AllReadyH.nil
                  go_simp
                  refine hK.out _ _ ?_ (fun hHeld => ?_)
                  · try dsimp only
                    refine HSx.out _ ?_
                    repeat (with_reducible refine Below.setCell ?_ ?_ _; rotate_left; (focus (exact (bl4))))
                    exact (hHeld.2.2.2.2.2.2)
                  clear hK K
                  refine tkA 15 5 (v := ?_) rfl (by kernel_rfl) (fun _ _ _ h => h) (by rfl) ?_ (by assumption) ?_; rotate_left; · (intro w hSw; (try dsimp only at hSw); go_simp; try with_reducible rfl)
                  simp only [pa]
                  have HE := hidP (hHeld.2.2.2.2.2.2)
                  refine wpAnyH_done (by kernel_rfl) ?_ _
                  clear hHeld
                  go_wp2_with fail
                  go_meet
                  refine ⟨_, rfl, rfl, bl4, ?_, ?_, ?_, ?_, ?_, ?_, HE.out⟩
                  · simp; exact z4L
                  all_goals (simp [go_sem, z4x0, z4x1, z4x2, z4x3, z4x4])
                · go_simp
                  obtain ⟨z3x0, z3x1, z3x2, z3x3, z3x4⟩ := boxZ wr 67
                  have z3F := frzZ wr 67
                  have z3B := alloc_below wr (.cells #[.bool false, .int .i64 0, .int .i64 0, .int .i64 0, .string ⟨#[]⟩] 67)
                  have z3L := alloc_lt wr (.cells #[.bool false, .int .i64 0, .int .i64 0, .int .i64 0, .string ⟨#[]⟩] 67)
                  have z3x0 := (drew_cell (wr.alloc (.cells #[.bool false, .int .i64 0, .int .i64 0, .int .i64 0, .string ⟨#[]⟩] 67)) _).trans z3x0
                  have z3x1 := (drew_cell (wr.alloc (.cells #[.bool false, .int .i64 0, .int .i64 0, .int .i64 0, .string ⟨#[]⟩] 67)) _).trans z3x1
                  have z3x2 := (drew_cell (wr.alloc (.cells #[.bool false, .int .i64 0, .int .i64 0, .int .i64 0, .string ⟨#[]⟩] 67)) _).trans z3x2
                  have z3x3 := (drew_cell (wr.alloc (.cells #[.bool false, .int .i64 0, .int .i64 0, .int .i64 0, .string ⟨#[]⟩] 67)) _).trans z3x3
                  have z3x4 := (drew_cell (wr.alloc (.cells #[.bool false, .int .i64 0, .int .i64 0, .int .i64 0, .string ⟨#[]⟩] 67)) _).trans z3x4
                  have z3F := fun o => (drew_frozen (wr.alloc (.cells #[.bool false, .int .i64 0, .int .i64 0, .int .i64 0, .string ⟨#[]⟩] 67)) _).trans (z3F o)
                  have z3L := drew_size_lt z3L
                  have z3M := z3B.drew
                  generalize (wr.alloc (.cells #[.bool false, .int .i64 0, .int .i64 0, .int .i64 0, .string ⟨#[]⟩] 67)).drew = w3 at *
                  refine hK.out _ _ ?_ (fun hHeld => ?_)
                  · try dsimp only
                    exact HSx.out _ z3M
                  clear hK K
                  have bl3 : wr.heap.size ≤ wr.heap.size := Nat.le_refl _
                  refine wpAnyH_ready (rs := [9]) (by kernel_rfl) (by simp) ?_
                  refine AllReadyH.cons rfl (fun K hK => ?_) AllReadyH.nil
                  go_simp
                  go_wp2_with (first | (go_at_call 19; refine (HBq.out _ (HBel.out.trans ((hHeld.2.2.2.2.2.2).mono HBel.out.size))).mono ?_; rintro e w4 ⟨rfl, hb4⟩; have b4 := (hHeld.2.2.2.2.2.2).trans (hb4.mono (hHeld.2.2.2.2.2.2).size)))
                  refine hK.out _ _ ?_ (fun hHeld => ?_)
                  · try dsimp only
                    exact HSx.out _ b4
                  clear hK K
                  have z4x0 := (hb4.cell z3L).trans z3x0
                  have z4x1 := (hb4.cell z3L).trans z3x1
                  have z4x2 := (hb4.cell z3L).trans z3x2
                  have z4x3 := (hb4.cell z3L).trans z3x3
                  have z4x4 := (hb4.cell z3L).trans z3x4
                  have z4F : ∀ o, w4.frozen? ⟨wr.heap.size, o, none⟩ = false := fun o => (hb4.frozen z3L).trans (z3F o)
                  have z4L : wr.heap.size < w4.heap.size := Nat.lt_of_lt_of_le z3L hb4.size
                  clear z3x0 z3x1 z3x2 z3x3 z3x4 z3F
                  refine tkA 10 35 (v := ?_) rfl (by kernel_rfl) (fun _ _ _ h => h) (by rfl) ?_ (by assumption) ?_; rotate_left; · (intro w hSw; (try dsimp only at hSw); go_simp; try with_reducible rfl)
                  simp only [pa]
                  refine tkA 11 46 (v := ?_) rfl (by kernel_rfl) (fun _ _ _ h => h) (by rfl) ?_ (by assumption) ?_; rotate_left; · (intro w hSw; (try dsimp only at hSw); go_simp; try with_reducible rfl)
                  simp only [pa]
                  refine tkA 12 47 (v := ?_) rfl (by kernel_rfl) (fun _ _ _ h => h) (by rfl) ?_ (by assumption) ?_; rotate_left; · (intro w hSw; (try dsimp only at hSw); go_simp; try with_reducible rfl)
                  simp only [pa]
                  refine wpAnyH_ready (rs := [14]) (by kernel_rfl) (by simp) ?_
                  refine AllReadyH.cons rfl (fun K hK => ?_) AllReadyH.nil
                  go_simp
                  refine hK.out _ _ ?_ (fun hHeld => ?_)
                  · try dsimp only
                    refine HSx.out _ ?_
                    repeat (with_reducible refine Below.setCell ?_ ?_ _; rotate_left; (focus (exact (bl3))))
                    exact (hHeld.2.2.2.2.2.2)
                  clear hK K
                  refine tkA 15 5 (v := ?_) rfl (by kernel_rfl) (fun _ _ _ h => h) (by rfl) ?_ (by assumption) ?_; rotate_left; · (intro w hSw; (try dsimp only at hSw); go_simp; try with_reducible rfl)
                  simp only [pa]
                  have HE := hidP (hHeld.2.2.2.2.2.2)
                  refine wpAnyH_done (by kernel_rfl) ?_ _
                  clear hHeld
                  go_wp2_with fail
                  go_meet
                  refine ⟨_, rfl, rfl, bl3, ?_, ?_, ?_, ?_, ?_, ?_, HE.out⟩
                  · simp; exact z4L
                  all_goals (simp [go_sem, z4x0, z4x1, z4x2, z4x3, z4x4])
              case rest =>
                obtain ⟨b, rfl, rfl, hb1, qL, q0, q1, q2, q3, q4, hX⟩ := hcut
                have HXB := hidP (HBel.out.trans (hX.mono HBel.out.size))
                have HXu := hidP (HBu.out.trans (hX.mono HBu.out.size))
                have E0 := (hX.cell BL).trans B0
                have E1 := (hX.cell BL).trans B1
                have E2 := (hX.cell BL).trans B2
                have EL : w.heap.size < wc.heap.size := Nat.lt_of_lt_of_le BL hX.size
                have f0 := (hX.cell hpL).trans d0
                have f1 := (hX.cell hpL).trans d1
                have f2 := (hX.cell hpL).trans d2
                have f3 := (hX.cell hpL).trans d3
                have f4 := (hX.cell hpL).trans d4
                have f5 := (hX.cell hpL).trans d5
                have fL : p < wc.heap.size := Nat.lt_of_lt_of_le hpL hX.size
                clear hX B0 B1 B2 B3 B4 B5 B6 B7 BL d0 d1 d2 d3 d4 d5 hpL HBq HBO
                cases r
                · have HF : Hid (ls.all (lieS bs) = false) := hidP (by rw [HPo.out, HLie.out]; rfl)
                  clear HPo HLie
                  go_wp2_with fail
                  have HSx : Hid (∀ x, Below wc.heap.size wc x → (x.cell? ⟨b, 4, none⟩ = some (.string y.t) ∧ x.cell? ⟨w.heap.size, 2, none⟩ = some (.slice (some ⟨p, o, none⟩) nl cl) ∧ x.cell? ⟨p, o + k * 6 + 3, none⟩ = some (.string q.t) ∧ Below wc.heap.size wc x)) := hidP fun x h =>
                    ⟨(h.cell qL).trans q4, (h.cell EL).trans E2, (h.cell fL).trans f3, h⟩
                  refine wp_region_held_drew (S := (fun x => x.cell? ⟨b, 4, none⟩ = some (.string y.t) ∧ x.cell? ⟨w.heap.size, 2, none⟩ = some (.slice (some ⟨p, o, none⟩) nl cl) ∧ x.cell? ⟨p, o + k * 6 + 3, none⟩ = some (.string q.t) ∧ Below wc.heap.size wc x)) (by kernel_rfl) ?_ (fun hHeld => ?_)
                  · try dsimp only
                    exact HSx.out _ ((Below.refl _ _).drew)
                  refine tkA 0 48 (v := ?_) rfl (by kernel_rfl) (fun _ _ _ h => h) (by rfl) ?_ (by assumption) ?_; rotate_left; · (intro w hSw; (try dsimp only at hSw); go_simp; try with_reducible rfl)
                  simp only [pa]
                  refine tkA 1 49 (v := ?_) rfl (by kernel_rfl) (fun _ _ _ h => h) (by rfl) ?_ (by assumption) ?_; rotate_left; · (intro w hSw; (try dsimp only at hSw); go_simp; try with_reducible rfl)
                  simp only [pa]
                  refine tkA 2 50 (v := ?_) rfl (by kernel_rfl) (fun _ _ _ h => h) (by rfl) ?_ (by assumption) ?_; rotate_left; · (intro w hSw; (try dsimp only at hSw); go_simp; try with_reducible rfl)
                  simp only [pa]
                  refine wpAnyH_take (i := 3) (oi := ⟨some 51, _, _, _, _, _⟩) (v := undef) rfl (by kernel_rfl) (by kernel_rfl) (by kernel_rfl) (fun _ _ _ h => h) (Or.inr ⟨by rfl, rfl⟩) (by assumption) ?_
                  simp only [pa]
                  refine wpAnyH_take (i := 4) (oi := ⟨some 52, _, _, _, _, _⟩) (v := undef) rfl (by kernel_rfl) (by kernel_rfl) (by kernel_rfl) (fun _ _ _ h => h) (Or.inr ⟨by rfl, rfl⟩) (by assumption) ?_
                  simp only [pa]
                  refine wpAnyH_take (i := 5) (oi := ⟨some 53, _, _, _, _, _⟩) (v := undef) rfl (by kernel_rfl) (by kernel_rfl) (by kernel_rfl) (fun _ _ _ h => h) (Or.inr ⟨by rfl, rfl⟩) (by assumption) ?_
                  simp only [pa]
                  refine wpAnyH_take (i := 6) (oi := ⟨some 54, _, _, _, _, _⟩) (v := undef) rfl (by kernel_rfl) (by kernel_rfl) (by kernel_rfl) (fun _ _ _ h => h) (Or.inr ⟨by rfl, rfl⟩) (by assumption) ?_
                  simp only [pa]
                  refine wpAnyH_take (i := 7) (oi := ⟨some 55, _, _, _, _, _⟩) (v := undef) rfl (by kernel_rfl) (by kernel_rfl) (by kernel_rfl) (fun _ _ _ h => h) (Or.inr ⟨by rfl, rfl⟩) (by assumption) ?_
                  simp only [pa]
                  refine wpAnyH_take (i := 8) (oi := ⟨some 56, _, _, _, _, _⟩) (v := undef) rfl (by kernel_rfl) (by kernel_rfl) (by kernel_rfl) (fun _ _ _ h => h) (Or.inr ⟨by rfl, rfl⟩) (by assumption) ?_
                  simp only [pa]
                  refine wpAnyH_take (i := 9) (oi := ⟨some 57, _, _, _, _, _⟩) (v := undef) rfl (by kernel_rfl) (by kernel_rfl) (by kernel_rfl) (fun _ _ _ h => h) (Or.inr ⟨by rfl, rfl⟩) (by assumption) ?_
                  simp only [pa]
                  refine wpAnyH_take (i := 10) (oi := ⟨some 58, _, _, _, _, _⟩) (v := undef) rfl (by kernel_rfl) (by kernel_rfl) (by kernel_rfl) (fun _ _ _ h => h) (Or.inr ⟨by rfl, rfl⟩) (by assumption) ?_
                  simp only [pa]
                  refine wpAnyH_take (i := 11) (oi := ⟨some 59, _, _, _, _, _⟩) (v := undef) rfl (by kernel_rfl) (by kernel_rfl) (by kernel_rfl) (fun _ _ _ h => h) (Or.inr ⟨by rfl, rfl⟩) (by assumption) ?_
                  simp only [pa]
                  refine wpAnyH_take (i := 12) (oi := ⟨some 60, _, _, _, _, _⟩) (v := undef) rfl (by kernel_rfl) (by kernel_rfl) (by kernel_rfl) (fun _ _ _ h => h) (Or.inr ⟨by rfl, rfl⟩) (by assumption) ?_
                  simp only [pa]
                  refine tkA 13 61 (v := ?_) rfl (by kernel_rfl) (fun _ _ _ h => h) (by rfl) ?_ (by assumption) ?_; rotate_left; · (intro w hSw; (try dsimp only at hSw); go_simp; try with_reducible rfl)
                  simp only [pa]
                  have HE := hidP (hHeld.2.2.2)
                  refine wpAnyH_done (by kernel_rfl) ?_ _
                  clear hHeld
                  go_wp2_with fail
                  go_ret
                  exact ⟨ret_b HF.out.symm, HXB.out.trans (HE.out.mono HXB.out.size)⟩
                · by_cases ho : y.t = q.t
                  · have HPn : Hid (ls.all (lieS bs) = (ls.drop (k + 1)).all (lieS bs)) := hidP (by rw [HPo.out, HLie.out, decide_eq_true ho]; rfl)
                    have ho1 : (y.t.toList == q.t.toList) = true := by rw [ho]; exact txt_eq _
                    have ho2 : decide (y.t = q.t) = true := decide_eq_true ho
                    clear HPo HLie
                    go_wp2_with fail
                    have HSx : Hid (∀ x, Below wc.heap.size wc x → (x.cell? ⟨b, 4, none⟩ = some (.string y.t) ∧ x.cell? ⟨w.heap.size, 2, none⟩ = some (.slice (some ⟨p, o, none⟩) nl cl) ∧ x.cell? ⟨p, o + k * 6 + 3, none⟩ = some (.string q.t) ∧ Below wc.heap.size wc x)) := hidP fun x h =>
                      ⟨(h.cell qL).trans q4, (h.cell EL).trans E2, (h.cell fL).trans f3, h⟩
                    refine wp_region_held_drew (S := (fun x => x.cell? ⟨b, 4, none⟩ = some (.string y.t) ∧ x.cell? ⟨w.heap.size, 2, none⟩ = some (.slice (some ⟨p, o, none⟩) nl cl) ∧ x.cell? ⟨p, o + k * 6 + 3, none⟩ = some (.string q.t) ∧ Below wc.heap.size wc x)) (by kernel_rfl) ?_ (fun hHeld => ?_)
                    · try dsimp only
                      exact HSx.out _ ((Below.refl _ _).drew)
                    refine tkA 0 48 (v := ?_) rfl (by kernel_rfl) (fun _ _ _ h => h) (by rfl) ?_ (by assumption) ?_; rotate_left; · (intro w hSw; (try dsimp only at hSw); go_simp; try with_reducible rfl)
                    simp only [pa]
                    refine tkA 1 49 (v := ?_) rfl (by kernel_rfl) (fun _ _ _ h => h) (by rfl) ?_ (by assumption) ?_; rotate_left; · (intro w hSw; (try dsimp only at hSw); go_simp; try with_reducible rfl)
                    simp only [pa]
                    refine tkA 2 50 (v := ?_) rfl (by kernel_rfl) (fun _ _ _ h => h) (by rfl) ?_ (by assumption) ?_; rotate_left; · (intro w hSw; (try dsimp only at hSw); go_simp; try with_reducible rfl)
                    simp only [pa]
                    refine tkA 3 51 (v := ?_) rfl (by kernel_rfl) (fun _ _ _ h => h) (by rfl) ?_ (by assumption) ?_; rotate_left; · (intro w hSw; (try dsimp only at hSw); go_simp; try with_reducible rfl)
                    simp only [pa]
                    refine tkA 4 52 (v := ?_) rfl (by kernel_rfl) (fun _ _ _ h => h) (by rfl) ?_ (by assumption) ?_; rotate_left; · (intro w hSw; (try dsimp only at hSw); go_simp; try with_reducible rfl)
                    simp only [pa]
                    refine tkA 5 53 (v := ?_) rfl (by kernel_rfl) (fun _ _ _ h => h) (by rfl) ?_ (by assumption) ?_; rotate_left; · (intro w hSw; (try dsimp only at hSw); go_simp; try with_reducible rfl)
                    simp only [pa]
                    refine tkA 6 54 (v := ?_) rfl (by kernel_rfl) (fun _ _ _ h => h) (by rfl) ?_ (by assumption) ?_; rotate_left; · (intro w hSw; (try dsimp only at hSw); go_simp; try with_reducible rfl)
                    simp only [pa]
                    refine tkA 7 55 (v := ?_) rfl (by kernel_rfl) (fun _ _ _ h => h) (by rfl) ?_ (by assumption) ?_; rotate_left; · (intro w hSw; (try dsimp only at hSw); go_simp; try with_reducible rfl)
                    simp only [pa]
                    refine tkA 8 56 (v := ?_) rfl (by kernel_rfl) (fun _ _ _ h => h) (by rfl) ?_ (by assumption) ?_; rotate_left; · (intro w hSw; (try dsimp only at hSw); go_simp; try with_reducible rfl)
                    simp only [pa]
                    refine tkA 9 57 (v := ?_) rfl (by kernel_rfl) (fun _ _ _ h => h) (by rfl) ?_ (by assumption) ?_; rotate_left; · (intro w hSw; (try dsimp only at hSw); go_simp; try with_reducible rfl)
                    simp only [pa]
                    refine tkA 10 58 (v := ?_) rfl (by kernel_rfl) (fun _ _ _ h => h) (by rfl) ?_ (by assumption) ?_; rotate_left; · (intro w hSw; (try dsimp only at hSw); go_simp; try with_reducible rfl)
                    simp only [pa]
                    refine tkA 11 59 (v := ?_) rfl (by kernel_rfl) (fun _ _ _ h => h) (by rfl) ?_ (by assumption) ?_; rotate_left; · (intro w hSw; (try dsimp only at hSw); go_simp; try with_reducible rfl)
                    simp only [pa]
                    refine tkA 12 60 (v := ?_) rfl (by kernel_rfl) (fun _ _ _ h => h) (by rfl) ?_ (by assumption) ?_; rotate_left; · (intro w hSw; (try dsimp only at hSw); go_simp; try with_reducible rfl)
                    simp only [pa]
                    refine tkA 13 61 (v := ?_) rfl (by kernel_rfl) (fun _ _ _ h => h) (by rfl) ?_ (by assumption) ?_; rotate_left; · (intro w hSw; (try dsimp only at hSw); go_simp; try with_reducible rfl)
                    simp only [pa]
                    have HE := hidP (hHeld.2.2.2)
                    refine wpAnyH_done (by kernel_rfl) ?_ _
                    clear hHeld
                    go_wp2_with fail
                    go_roundw
                    case rel => exact ⟨k + 1, by omega, by go_num, HPn.out, HXu.out.trans (HE.out.mono HXu.out.size)⟩
                    case measure => simp [intOf]; omega
                  · have ho1 := txt_ne ho
                    have ho2 : decide (y.t = q.t) = false := decide_eq_false ho
                    have HF : Hid (ls.all (lieS bs) = false) := hidP (by rw [HPo.out, HLie.out, ho2]; rfl)
                    clear HPo HLie
                    go_wp2_with fail
                    have HSx : Hid (∀ x, Below wc.heap.size wc x → (x.cell? ⟨b, 4, none⟩ = some (.string y.t) ∧ x.cell? ⟨w.heap.size, 2, none⟩ = some (.slice (some ⟨p, o, none⟩) nl cl) ∧ x.cell? ⟨p, o + k * 6 + 3, none⟩ = some (.string q.t) ∧ Below wc.heap.size wc x)) := hidP fun x h =>
                      ⟨(h.cell qL).trans q4, (h.cell EL).trans E2, (h.cell fL).trans f3, h⟩
                    refine wp_region_held_drew (S := (fun x => x.cell? ⟨b, 4, none⟩ = some (.string y.t) ∧ x.cell? ⟨w.heap.size, 2, none⟩ = some (.slice (some ⟨p, o, none⟩) nl cl) ∧ x.cell? ⟨p, o + k * 6 + 3, none⟩ = some (.string q.t) ∧ Below wc.heap.size wc x)) (by kernel_rfl) ?_ (fun hHeld => ?_)
                    · try dsimp only
                      exact HSx.out _ ((Below.refl _ _).drew)
                    refine tkA 0 48 (v := ?_) rfl (by kernel_rfl) (fun _ _ _ h => h) (by rfl) ?_ (by assumption) ?_; rotate_left; · (intro w hSw; (try dsimp only at hSw); go_simp; try with_reducible rfl)
                    simp only [pa]
                    refine tkA 1 49 (v := ?_) rfl (by kernel_rfl) (fun _ _ _ h => h) (by rfl) ?_ (by assumption) ?_; rotate_left; · (intro w hSw; (try dsimp only at hSw); go_simp; try with_reducible rfl)
                    simp only [pa]
                    refine tkA 2 50 (v := ?_) rfl (by kernel_rfl) (fun _ _ _ h => h) (by rfl) ?_ (by assumption) ?_; rotate_left; · (intro w hSw; (try dsimp only at hSw); go_simp; try with_reducible rfl)
                    simp only [pa]
                    refine tkA 3 51 (v := ?_) rfl (by kernel_rfl) (fun _ _ _ h => h) (by rfl) ?_ (by assumption) ?_; rotate_left; · (intro w hSw; (try dsimp only at hSw); go_simp; try with_reducible rfl)
                    simp only [pa]
                    refine tkA 4 52 (v := ?_) rfl (by kernel_rfl) (fun _ _ _ h => h) (by rfl) ?_ (by assumption) ?_; rotate_left; · (intro w hSw; (try dsimp only at hSw); go_simp; try with_reducible rfl)
                    simp only [pa]
                    refine tkA 5 53 (v := ?_) rfl (by kernel_rfl) (fun _ _ _ h => h) (by rfl) ?_ (by assumption) ?_; rotate_left; · (intro w hSw; (try dsimp only at hSw); go_simp; try with_reducible rfl)
                    simp only [pa]
                    refine tkA 6 54 (v := ?_) rfl (by kernel_rfl) (fun _ _ _ h => h) (by rfl) ?_ (by assumption) ?_; rotate_left; · (intro w hSw; (try dsimp only at hSw); go_simp; try with_reducible rfl)
                    simp only [pa]
                    refine tkA 7 55 (v := ?_) rfl (by kernel_rfl) (fun _ _ _ h => h) (by rfl) ?_ (by assumption) ?_; rotate_left; · (intro w hSw; (try dsimp only at hSw); go_simp; try with_reducible rfl)
                    simp only [pa]
                    refine tkA 8 56 (v := ?_) rfl (by kernel_rfl) (fun _ _ _ h => h) (by rfl) ?_ (by assumption) ?_; rotate_left; · (intro w hSw; (try dsimp only at hSw); go_simp; try with_reducible rfl)
                    simp only [pa]
                    refine tkA 9 57 (v := ?_) rfl (by kernel_rfl) (fun _ _ _ h => h) (by rfl) ?_ (by assumption) ?_; rotate_left; · (intro w hSw; (try dsimp only at hSw); go_simp; try with_reducible rfl)
                    simp only [pa]
                    refine tkA 10 58 (v := ?_) rfl (by kernel_rfl) (fun _ _ _ h => h) (by rfl) ?_ (by assumption) ?_; rotate_left; · (intro w hSw; (try dsimp only at hSw); go_simp; try with_reducible rfl)
                    simp only [pa]
                    refine tkA 11 59 (v := ?_) rfl (by kernel_rfl) (fun _ _ _ h => h) (by rfl) ?_ (by assumption) ?_; rotate_left; · (intro w hSw; (try dsimp only at hSw); go_simp; try with_reducible rfl)
                    simp only [pa]
                    refine tkA 12 60 (v := ?_) rfl (by kernel_rfl) (fun _ _ _ h => h) (by rfl) ?_ (by assumption) ?_; rotate_left; · (intro w hSw; (try dsimp only at hSw); go_simp; try with_reducible rfl)
                    simp only [pa]
                    refine tkA 13 61 (v := ?_) rfl (by kernel_rfl) (fun _ _ _ h => h) (by rfl) ?_ (by assumption) ?_; rotate_left; · (intro w hSw; (try dsimp only at hSw); go_simp; try with_reducible rfl)
                    simp only [pa]
                    have HE := hidP (hHeld.2.2.2)
                    refine wpAnyH_done (by kernel_rfl) ?_ _
                    clear hHeld
                    go_wp2_with fail
                    go_ret
                    exact ⟨ret_b HF.out.symm, HXB.out.trans (HE.out.mono HXB.out.size)⟩
            · have HX : Hid (ls.all (lieS bs) = true) := by
                rw [List.drop_of_length_le (by have := HN.out; omega)] at hpo
                exact hidP hpo
              clear hbel hpo
              go_wp2_with fail
              go_ret
              exact ⟨ret_b HX.out.symm, HBel.out⟩
        · have hc2 : C < 0 := of_decide_eq_true hc
          have hc3 : decide (0 ≤ C) = false := decide_eq_false (by omega)
          rw [hc3]
          clear HA hc3
          go_enter Tryz.func6, Tryz.ntmps6
          go_wp2_with fail
          obtain ⟨bx0_W1, bx1_W1, bx2_W1, bx3_W1, bx4_W1, bx5_W1, bx6_W1, bx7_W1⟩ := bx8 w 47 (.slice ap np cp) (.slice ab nb cb) (.slice al nl cl) (.int .i64 T) (.int .i64 N) (.slice aS ns cs) (.int .i64 X) (.int .i64 C)
          have bxF_W1 : ∀ o, (w.alloc (.cells #[.slice ap np cp, .slice ab nb cb, .slice al nl cl, .int .i64 T, .int .i64 N, .slice aS ns cs, .int .i64 X, .int .i64 C] 47)).frozen? ⟨w.heap.size, o, none⟩ = false := fun o => by simp [go_sem]
          have bxL_W1 : w.heap.size < (w.alloc (.cells #[.slice ap np cp, .slice ab nb cb, .slice al nl cl, .int .i64 T, .int .i64 N, .slice aS ns cs, .int .i64 X, .int .i64 C] 47)).heap.size := by simp
          have ab_W1 := alloc_below w (.cells #[.slice ap np cp, .slice ab nb cb, .slice al nl cl, .int .i64 T, .int .i64 N, .slice aS ns cs, .int .i64 X, .int .i64 C] 47)
          have as_W1 : Hid ((w.alloc (.cells #[.slice ap np cp, .slice ab nb cb, .slice al nl cl, .int .i64 T, .int .i64 N, .slice aS ns cs, .int .i64 X, .int .i64 C] 47)).heap.size = w.heap.size + 1) := hidP (by simp)
          generalize w.alloc (.cells #[.slice ap np cp, .slice ab nb cb, .slice al nl cl, .int .i64 T, .int .i64 N, .slice aS ns cs, .int .i64 X, .int .i64 C] 47) = W1 at *
          have acc_W1 := hidP (ab_W1)
          have sz_W1 : Hid (w.heap.size ≤ W1.heap.size) := hidP ab_W1.size
          clear ab_W1 
          refine (HP.out _ acc_W1.out).mono ?_
          rintro e u0 ⟨rfl, hb0⟩
          have bx0_u0 := (hb0.cell bxL_W1).trans bx0_W1
          have bx1_u0 := (hb0.cell bxL_W1).trans bx1_W1
          have bx2_u0 := (hb0.cell bxL_W1).trans bx2_W1
          have bx3_u0 := (hb0.cell bxL_W1).trans bx3_W1
          have bx4_u0 := (hb0.cell bxL_W1).trans bx4_W1
          have bx5_u0 := (hb0.cell bxL_W1).trans bx5_W1
          have bx6_u0 := (hb0.cell bxL_W1).trans bx6_W1
          have bx7_u0 := (hb0.cell bxL_W1).trans bx7_W1
          have bxF_u0 : ∀ o, u0.frozen? ⟨w.heap.size, o, none⟩ = false := fun o => (hb0.frozen bxL_W1).trans (bxF_W1 o)
          have bxL_u0 : w.heap.size < u0.heap.size := Nat.lt_of_lt_of_le bxL_W1 hb0.size
          have acc_u0 := hidP (acc_W1.out.trans (hb0.mono acc_W1.out.size))
          have sz_u0 : Hid (W1.heap.size ≤ u0.heap.size) := hidP hb0.size
          clear hb0 bx0_W1 bx1_W1 bx2_W1 bx3_W1 bx4_W1 bx5_W1 bx6_W1 bx7_W1 bxF_W1 bxL_W1 acc_W1
          go_wp2_with fail
          refine (HB.out _ acc_u0.out).mono ?_
          rintro e u1 ⟨rfl, hb1⟩
          have bx0_u1 := (hb1.cell bxL_u0).trans bx0_u0
          have bx1_u1 := (hb1.cell bxL_u0).trans bx1_u0
          have bx2_u1 := (hb1.cell bxL_u0).trans bx2_u0
          have bx3_u1 := (hb1.cell bxL_u0).trans bx3_u0
          have bx4_u1 := (hb1.cell bxL_u0).trans bx4_u0
          have bx5_u1 := (hb1.cell bxL_u0).trans bx5_u0
          have bx6_u1 := (hb1.cell bxL_u0).trans bx6_u0
          have bx7_u1 := (hb1.cell bxL_u0).trans bx7_u0
          have bxF_u1 : ∀ o, u1.frozen? ⟨w.heap.size, o, none⟩ = false := fun o => (hb1.frozen bxL_u0).trans (bxF_u0 o)
          have bxL_u1 : w.heap.size < u1.heap.size := Nat.lt_of_lt_of_le bxL_u0 hb1.size
          have acc_u1 := hidP (acc_u0.out.trans (hb1.mono acc_u0.out.size))
          have sz_u1 : Hid (u0.heap.size ≤ u1.heap.size) := hidP hb1.size
          clear hb1 bx0_u0 bx1_u0 bx2_u0 bx3_u0 bx4_u0 bx5_u0 bx6_u0 bx7_u0 bxF_u0 bxL_u0 acc_u0
          go_wp2_with fail
          refine (HD.out _ acc_u1.out).mono ?_
          rintro e u2 ⟨rfl, hb2⟩
          have bx0_u2 := (hb2.cell bxL_u1).trans bx0_u1
          have bx1_u2 := (hb2.cell bxL_u1).trans bx1_u1
          have bx2_u2 := (hb2.cell bxL_u1).trans bx2_u1
          have bx3_u2 := (hb2.cell bxL_u1).trans bx3_u1
          have bx4_u2 := (hb2.cell bxL_u1).trans bx4_u1
          have bx5_u2 := (hb2.cell bxL_u1).trans bx5_u1
          have bx6_u2 := (hb2.cell bxL_u1).trans bx6_u1
          have bx7_u2 := (hb2.cell bxL_u1).trans bx7_u1
          have bxF_u2 : ∀ o, u2.frozen? ⟨w.heap.size, o, none⟩ = false := fun o => (hb2.frozen bxL_u1).trans (bxF_u1 o)
          have bxL_u2 : w.heap.size < u2.heap.size := Nat.lt_of_lt_of_le bxL_u1 hb2.size
          have acc_u2 := hidP (acc_u1.out.trans (hb2.mono acc_u1.out.size))
          have sz_u2 : Hid (u1.heap.size ≤ u2.heap.size) := hidP hb2.size
          clear hb2 bx0_u1 bx1_u1 bx2_u1 bx3_u1 bx4_u1 bx5_u1 bx6_u1 bx7_u1 bxF_u1 bxL_u1 acc_u1
          go_wp2_with fail
          go_ret
          exact ⟨rfl, acc_u2.out⟩

end Go.Proofs.YtplocbpngikohaaGreat
namespace Go.Proofs.YtplocbpngikohaaGreat
open Go.RowKit

theorem bx3 (w : World) (t : TypeId) (v0 v1 v2 : Value) : (w.alloc (.cells #[v0, v1, v2] t)).cell? ⟨w.heap.size, 0, none⟩ = some v0 ∧ (w.alloc (.cells #[v0, v1, v2] t)).cell? ⟨w.heap.size, 1, none⟩ = some v1 ∧ (w.alloc (.cells #[v0, v1, v2] t)).cell? ⟨w.heap.size, 2, none⟩ = some v2 := ⟨by simp [go_sem], by simp [go_sem], by simp [go_sem]⟩
set_option maxRecDepth 10000 in
set_option maxHeartbeats 4000000 in
theorem sHeld_form (ap : Option Addr) (np cp : Nat) (ab : Option Addr) (nb cb : Nat) (al : Option Addr) (nl cl : Nat) (T N : Int) (aS : Option Addr) (ns cs : Nat) (X C : Int) (ps : List Pl) (bs : List Bk) (ls : List Ls) (ss : List Ss) (ad : Ad) (w : World) (hnp : np = ps.length) (hnb : nb = bs.length) (hnl : nl = ls.length) (hns : ns = ss.length) (hP : RowG KPl w ap ps) (hK : RowG KBk w ab bs) (hL : RowG KLs w al ls) (hS : RowG KSs w aS ss) (hlp : np ≤ 1048576) (hlb : nb ≤ 1048576) (hll : nl ≤ 1048576) (hls : ns ≤ 1048576) (hsb : ∀ q ∈ bs, q.t.size ≤ 9223372036854775807) (hsl : ∀ q ∈ ls, q.t.size ≤ 9223372036854775807) (hr : stB ps bs ls T N ss X C = false) :
    Calls Tryz.prog 10 #[.agg #[.slice ap np cp, .slice ab nb cb, .slice al nl cl, .int .i64 T, .int .i64 N, .slice aS ns cs, .int .i64 X, .int .i64 C], .agg #[.bool ad.s, .int .i64 ad.H.toInt, .int .i64 ad.L.toInt]] w fun e w' => e = .returned (.tuple #[.string ⟨#[]⟩, .int .i64 0]) ∧ Below w.heap.size w w' := by
  have HSt := hidP (fun W h => sStateOk_any ap np cp ab nb cb al nl cl T N aS ns cs X C ps bs ls ss W hnp hnb hnl hns (hP.later h) (hK.later h) (hL.later h) (hS.later h) hlp hlb hll hls hsb hsl)
  have HFi := hidP (fun W h => l6Find_any al nl cl T N ls ad W hnl (hL.later h) hll)
  clear hP hK hS hL hnp hnb hnl hns hsb hsl
  rw [hr] at HSt
  generalize fxI ls ad = fi at *
  go_enter Tryz.func10, Tryz.ntmps10
  go_wp2_with fail
  obtain ⟨bx0_W1, bx1_W1, bx2_W1, bx3_W1, bx4_W1, bx5_W1, bx6_W1, bx7_W1⟩ := bx8 w 47 (.slice ap np cp) (.slice ab nb cb) (.slice al nl cl) (.int .i64 T) (.int .i64 N) (.slice aS ns cs) (.int .i64 X) (.int .i64 C)
  have bxF_W1 : ∀ o, (w.alloc (.cells #[.slice ap np cp, .slice ab nb cb, .slice al nl cl, .int .i64 T, .int .i64 N, .slice aS ns cs, .int .i64 X, .int .i64 C] 47)).frozen? ⟨w.heap.size, o, none⟩ = false := fun o => by simp [go_sem]
  have bxL_W1 : w.heap.size < (w.alloc (.cells #[.slice ap np cp, .slice ab nb cb, .slice al nl cl, .int .i64 T, .int .i64 N, .slice aS ns cs, .int .i64 X, .int .i64 C] 47)).heap.size := by simp
  have ab_W1 := alloc_below w (.cells #[.slice ap np cp, .slice ab nb cb, .slice al nl cl, .int .i64 T, .int .i64 N, .slice aS ns cs, .int .i64 X, .int .i64 C] 47)
  have as_W1 : Hid ((w.alloc (.cells #[.slice ap np cp, .slice ab nb cb, .slice al nl cl, .int .i64 T, .int .i64 N, .slice aS ns cs, .int .i64 X, .int .i64 C] 47)).heap.size = w.heap.size + 1) := hidP (by simp)
  generalize w.alloc (.cells #[.slice ap np cp, .slice ab nb cb, .slice al nl cl, .int .i64 T, .int .i64 N, .slice aS ns cs, .int .i64 X, .int .i64 C] 47) = W1 at *
  have acc_W1 := hidP (ab_W1)
  have sz_W1 : Hid (w.heap.size ≤ W1.heap.size) := hidP ab_W1.size
  clear ab_W1 
  obtain ⟨ax0_W2, ax1_W2, ax2_W2⟩ := bx3 W1 55 (.bool ad.s) (.int .i64 ad.H.toInt) (.int .i64 ad.L.toInt)
  have axF_W2 : ∀ o, (W1.alloc (.cells #[.bool ad.s, .int .i64 ad.H.toInt, .int .i64 ad.L.toInt] 55)).frozen? ⟨W1.heap.size, o, none⟩ = false := fun o => by simp [go_sem]
  have axL_W2 : W1.heap.size < (W1.alloc (.cells #[.bool ad.s, .int .i64 ad.H.toInt, .int .i64 ad.L.toInt] 55)).heap.size := by simp
  have ab_W2 := alloc_below W1 (.cells #[.bool ad.s, .int .i64 ad.H.toInt, .int .i64 ad.L.toInt] 55)
  have as_W2 : Hid ((W1.alloc (.cells #[.bool ad.s, .int .i64 ad.H.toInt, .int .i64 ad.L.toInt] 55)).heap.size = W1.heap.size + 1) := hidP (by simp)
  generalize W1.alloc (.cells #[.bool ad.s, .int .i64 ad.H.toInt, .int .i64 ad.L.toInt] 55) = W2 at *
  have bx0_W2 := (ab_W2.cell bxL_W1).trans bx0_W1
  have bx1_W2 := (ab_W2.cell bxL_W1).trans bx1_W1
  have bx2_W2 := (ab_W2.cell bxL_W1).trans bx2_W1
  have bx3_W2 := (ab_W2.cell bxL_W1).trans bx3_W1
  have bx4_W2 := (ab_W2.cell bxL_W1).trans bx4_W1
  have bx5_W2 := (ab_W2.cell bxL_W1).trans bx5_W1
  have bx6_W2 := (ab_W2.cell bxL_W1).trans bx6_W1
  have bx7_W2 := (ab_W2.cell bxL_W1).trans bx7_W1
  have bxF_W2 : ∀ o, W2.frozen? ⟨w.heap.size, o, none⟩ = false := fun o => (ab_W2.frozen bxL_W1).trans (bxF_W1 o)
  have bxL_W2 : w.heap.size < W2.heap.size := Nat.lt_of_lt_of_le bxL_W1 ab_W2.size
  have acc_W2 := hidP (acc_W1.out.trans (ab_W2.mono acc_W1.out.size))
  have sz_W2 : Hid (W1.heap.size ≤ W2.heap.size) := hidP ab_W2.size
  clear ab_W2 bx0_W1 bx1_W1 bx2_W1 bx3_W1 bx4_W1 bx5_W1 bx6_W1 bx7_W1 bxF_W1 bxL_W1 acc_W1
  simp only [as_W1.out] at ax0_W2 ax1_W2 ax2_W2 axF_W2 axL_W2
  refine (HFi.out _ acc_W2.out).mono ?_
  rintro e w3 ⟨rfl, hb3⟩
  have bx0_w3 := (hb3.cell bxL_W2).trans bx0_W2
  have bx1_w3 := (hb3.cell bxL_W2).trans bx1_W2
  have bx2_w3 := (hb3.cell bxL_W2).trans bx2_W2
  have bx3_w3 := (hb3.cell bxL_W2).trans bx3_W2
  have bx4_w3 := (hb3.cell bxL_W2).trans bx4_W2
  have bx5_w3 := (hb3.cell bxL_W2).trans bx5_W2
  have bx6_w3 := (hb3.cell bxL_W2).trans bx6_W2
  have bx7_w3 := (hb3.cell bxL_W2).trans bx7_W2
  have bxF_w3 : ∀ o, w3.frozen? ⟨w.heap.size, o, none⟩ = false := fun o => (hb3.frozen bxL_W2).trans (bxF_W2 o)
  have bxL_w3 : w.heap.size < w3.heap.size := Nat.lt_of_lt_of_le bxL_W2 hb3.size
  have ax0_w3 := (hb3.cell axL_W2).trans ax0_W2
  have ax1_w3 := (hb3.cell axL_W2).trans ax1_W2
  have ax2_w3 := (hb3.cell axL_W2).trans ax2_W2
  have axF_w3 : ∀ o, w3.frozen? ⟨(w.heap.size + 1), o, none⟩ = false := fun o => (hb3.frozen axL_W2).trans (axF_W2 o)
  have axL_w3 : (w.heap.size + 1) < w3.heap.size := Nat.lt_of_lt_of_le axL_W2 hb3.size
  have acc_w3 := hidP (acc_W2.out.trans (hb3.mono acc_W2.out.size))
  have sz_w3 : Hid (W2.heap.size ≤ w3.heap.size) := hidP hb3.size
  clear hb3 bx0_W2 bx1_W2 bx2_W2 bx3_W2 bx4_W2 bx5_W2 bx6_W2 bx7_W2 bxF_W2 bxL_W2 ax0_W2 ax1_W2 ax2_W2 axF_W2 axL_W2 acc_W2
  go_wp2_with fail
  refine (HSt.out _ acc_w3.out).mono ?_
  rintro e w4 ⟨rfl, hb4⟩
  have bx0_w4 := (hb4.cell bxL_w3).trans bx0_w3
  have bx1_w4 := (hb4.cell bxL_w3).trans bx1_w3
  have bx2_w4 := (hb4.cell bxL_w3).trans bx2_w3
  have bx3_w4 := (hb4.cell bxL_w3).trans bx3_w3
  have bx4_w4 := (hb4.cell bxL_w3).trans bx4_w3
  have bx5_w4 := (hb4.cell bxL_w3).trans bx5_w3
  have bx6_w4 := (hb4.cell bxL_w3).trans bx6_w3
  have bx7_w4 := (hb4.cell bxL_w3).trans bx7_w3
  have bxF_w4 : ∀ o, w4.frozen? ⟨w.heap.size, o, none⟩ = false := fun o => (hb4.frozen bxL_w3).trans (bxF_w3 o)
  have bxL_w4 : w.heap.size < w4.heap.size := Nat.lt_of_lt_of_le bxL_w3 hb4.size
  have ax0_w4 := (hb4.cell axL_w3).trans ax0_w3
  have ax1_w4 := (hb4.cell axL_w3).trans ax1_w3
  have ax2_w4 := (hb4.cell axL_w3).trans ax2_w3
  have axF_w4 : ∀ o, w4.frozen? ⟨(w.heap.size + 1), o, none⟩ = false := fun o => (hb4.frozen axL_w3).trans (axF_w3 o)
  have axL_w4 : (w.heap.size + 1) < w4.heap.size := Nat.lt_of_lt_of_le axL_w3 hb4.size
  have acc_w4 := hidP (acc_w3.out.trans (hb4.mono acc_w3.out.size))
  have sz_w4 : Hid (w3.heap.size ≤ w4.heap.size) := hidP hb4.size
  clear hb4 bx0_w3 bx1_w3 bx2_w3 bx3_w3 bx4_w3 bx5_w3 bx6_w3 bx7_w3 bxF_w3 bxL_w3 ax0_w3 ax1_w3 ax2_w3 axF_w3 axL_w3 acc_w3
  go_wp2_with fail
  refine bodyPost_ret (v := .tuple #[.string ⟨#[]⟩, .int .i64 0]) (by simp [results, Tryz.results10, go_sem]) rfl ?_
  exact ⟨rfl, acc_w4.out⟩

set_option maxRecDepth 10000 in
set_option maxHeartbeats 4000000 in
theorem sHeld_none (ap : Option Addr) (np cp : Nat) (ab : Option Addr) (nb cb : Nat) (al : Option Addr) (nl cl : Nat) (T N : Int) (aS : Option Addr) (ns cs : Nat) (X C : Int) (ps : List Pl) (bs : List Bk) (ls : List Ls) (ss : List Ss) (ad : Ad) (w : World) (hnp : np = ps.length) (hnb : nb = bs.length) (hnl : nl = ls.length) (hns : ns = ss.length) (hP : RowG KPl w ap ps) (hK : RowG KBk w ab bs) (hL : RowG KLs w al ls) (hS : RowG KSs w aS ss) (hlp : np ≤ 1048576) (hlb : nb ≤ 1048576) (hll : nl ≤ 1048576) (hls : ns ≤ 1048576) (hsb : ∀ q ∈ bs, q.t.size ≤ 9223372036854775807) (hsl : ∀ q ∈ ls, q.t.size ≤ 9223372036854775807) (hr : stB ps bs ls T N ss X C = true) (hx : fxL ls ad = none) :
    Calls Tryz.prog 10 #[.agg #[.slice ap np cp, .slice ab nb cb, .slice al nl cl, .int .i64 T, .int .i64 N, .slice aS ns cs, .int .i64 X, .int .i64 C], .agg #[.bool ad.s, .int .i64 ad.H.toInt, .int .i64 ad.L.toInt]] w fun e w' => e = .returned (.tuple #[.string ⟨#[]⟩, .int .i64 0]) ∧ Below w.heap.size w w' := by
  have HSt := hidP (fun W h => sStateOk_any ap np cp ab nb cb al nl cl T N aS ns cs X C ps bs ls ss W hnp hnb hnl hns (hP.later h) (hK.later h) (hL.later h) (hS.later h) hlp hlb hll hls hsb hsl)
  have HFi := hidP (fun W h => l6Find_any al nl cl T N ls ad W hnl (hL.later h) hll)
  clear hP hK hS hL hnp hnb hnl hns hsb hsl
  rw [hr] at HSt
  have hfi : fxI ls ad = -1 := by unfold fxI; rw [hx]
  rw [hfi] at HFi
  go_enter Tryz.func10, Tryz.ntmps10
  go_wp2_with fail
  obtain ⟨bx0_W1, bx1_W1, bx2_W1, bx3_W1, bx4_W1, bx5_W1, bx6_W1, bx7_W1⟩ := bx8 w 47 (.slice ap np cp) (.slice ab nb cb) (.slice al nl cl) (.int .i64 T) (.int .i64 N) (.slice aS ns cs) (.int .i64 X) (.int .i64 C)
  have bxF_W1 : ∀ o, (w.alloc (.cells #[.slice ap np cp, .slice ab nb cb, .slice al nl cl, .int .i64 T, .int .i64 N, .slice aS ns cs, .int .i64 X, .int .i64 C] 47)).frozen? ⟨w.heap.size, o, none⟩ = false := fun o => by simp [go_sem]
  have bxL_W1 : w.heap.size < (w.alloc (.cells #[.slice ap np cp, .slice ab nb cb, .slice al nl cl, .int .i64 T, .int .i64 N, .slice aS ns cs, .int .i64 X, .int .i64 C] 47)).heap.size := by simp
  have ab_W1 := alloc_below w (.cells #[.slice ap np cp, .slice ab nb cb, .slice al nl cl, .int .i64 T, .int .i64 N, .slice aS ns cs, .int .i64 X, .int .i64 C] 47)
  have as_W1 : Hid ((w.alloc (.cells #[.slice ap np cp, .slice ab nb cb, .slice al nl cl, .int .i64 T, .int .i64 N, .slice aS ns cs, .int .i64 X, .int .i64 C] 47)).heap.size = w.heap.size + 1) := hidP (by simp)
  generalize w.alloc (.cells #[.slice ap np cp, .slice ab nb cb, .slice al nl cl, .int .i64 T, .int .i64 N, .slice aS ns cs, .int .i64 X, .int .i64 C] 47) = W1 at *
  have acc_W1 := hidP (ab_W1)
  have sz_W1 : Hid (w.heap.size ≤ W1.heap.size) := hidP ab_W1.size
  clear ab_W1 
  obtain ⟨ax0_W2, ax1_W2, ax2_W2⟩ := bx3 W1 55 (.bool ad.s) (.int .i64 ad.H.toInt) (.int .i64 ad.L.toInt)
  have axF_W2 : ∀ o, (W1.alloc (.cells #[.bool ad.s, .int .i64 ad.H.toInt, .int .i64 ad.L.toInt] 55)).frozen? ⟨W1.heap.size, o, none⟩ = false := fun o => by simp [go_sem]
  have axL_W2 : W1.heap.size < (W1.alloc (.cells #[.bool ad.s, .int .i64 ad.H.toInt, .int .i64 ad.L.toInt] 55)).heap.size := by simp
  have ab_W2 := alloc_below W1 (.cells #[.bool ad.s, .int .i64 ad.H.toInt, .int .i64 ad.L.toInt] 55)
  have as_W2 : Hid ((W1.alloc (.cells #[.bool ad.s, .int .i64 ad.H.toInt, .int .i64 ad.L.toInt] 55)).heap.size = W1.heap.size + 1) := hidP (by simp)
  generalize W1.alloc (.cells #[.bool ad.s, .int .i64 ad.H.toInt, .int .i64 ad.L.toInt] 55) = W2 at *
  have bx0_W2 := (ab_W2.cell bxL_W1).trans bx0_W1
  have bx1_W2 := (ab_W2.cell bxL_W1).trans bx1_W1
  have bx2_W2 := (ab_W2.cell bxL_W1).trans bx2_W1
  have bx3_W2 := (ab_W2.cell bxL_W1).trans bx3_W1
  have bx4_W2 := (ab_W2.cell bxL_W1).trans bx4_W1
  have bx5_W2 := (ab_W2.cell bxL_W1).trans bx5_W1
  have bx6_W2 := (ab_W2.cell bxL_W1).trans bx6_W1
  have bx7_W2 := (ab_W2.cell bxL_W1).trans bx7_W1
  have bxF_W2 : ∀ o, W2.frozen? ⟨w.heap.size, o, none⟩ = false := fun o => (ab_W2.frozen bxL_W1).trans (bxF_W1 o)
  have bxL_W2 : w.heap.size < W2.heap.size := Nat.lt_of_lt_of_le bxL_W1 ab_W2.size
  have acc_W2 := hidP (acc_W1.out.trans (ab_W2.mono acc_W1.out.size))
  have sz_W2 : Hid (W1.heap.size ≤ W2.heap.size) := hidP ab_W2.size
  clear ab_W2 bx0_W1 bx1_W1 bx2_W1 bx3_W1 bx4_W1 bx5_W1 bx6_W1 bx7_W1 bxF_W1 bxL_W1 acc_W1
  simp only [as_W1.out] at ax0_W2 ax1_W2 ax2_W2 axF_W2 axL_W2
  refine (HFi.out _ acc_W2.out).mono ?_
  rintro e w3 ⟨rfl, hb3⟩
  have bx0_w3 := (hb3.cell bxL_W2).trans bx0_W2
  have bx1_w3 := (hb3.cell bxL_W2).trans bx1_W2
  have bx2_w3 := (hb3.cell bxL_W2).trans bx2_W2
  have bx3_w3 := (hb3.cell bxL_W2).trans bx3_W2
  have bx4_w3 := (hb3.cell bxL_W2).trans bx4_W2
  have bx5_w3 := (hb3.cell bxL_W2).trans bx5_W2
  have bx6_w3 := (hb3.cell bxL_W2).trans bx6_W2
  have bx7_w3 := (hb3.cell bxL_W2).trans bx7_W2
  have bxF_w3 : ∀ o, w3.frozen? ⟨w.heap.size, o, none⟩ = false := fun o => (hb3.frozen bxL_W2).trans (bxF_W2 o)
  have bxL_w3 : w.heap.size < w3.heap.size := Nat.lt_of_lt_of_le bxL_W2 hb3.size
  have ax0_w3 := (hb3.cell axL_W2).trans ax0_W2
  have ax1_w3 := (hb3.cell axL_W2).trans ax1_W2
  have ax2_w3 := (hb3.cell axL_W2).trans ax2_W2
  have axF_w3 : ∀ o, w3.frozen? ⟨(w.heap.size + 1), o, none⟩ = false := fun o => (hb3.frozen axL_W2).trans (axF_W2 o)
  have axL_w3 : (w.heap.size + 1) < w3.heap.size := Nat.lt_of_lt_of_le axL_W2 hb3.size
  have acc_w3 := hidP (acc_W2.out.trans (hb3.mono acc_W2.out.size))
  have sz_w3 : Hid (W2.heap.size ≤ w3.heap.size) := hidP hb3.size
  clear hb3 bx0_W2 bx1_W2 bx2_W2 bx3_W2 bx4_W2 bx5_W2 bx6_W2 bx7_W2 bxF_W2 bxL_W2 ax0_W2 ax1_W2 ax2_W2 axF_W2 axL_W2 acc_W2
  go_wp2_with fail
  refine (HSt.out _ acc_w3.out).mono ?_
  rintro e w4 ⟨rfl, hb4⟩
  have bx0_w4 := (hb4.cell bxL_w3).trans bx0_w3
  have bx1_w4 := (hb4.cell bxL_w3).trans bx1_w3
  have bx2_w4 := (hb4.cell bxL_w3).trans bx2_w3
  have bx3_w4 := (hb4.cell bxL_w3).trans bx3_w3
  have bx4_w4 := (hb4.cell bxL_w3).trans bx4_w3
  have bx5_w4 := (hb4.cell bxL_w3).trans bx5_w3
  have bx6_w4 := (hb4.cell bxL_w3).trans bx6_w3
  have bx7_w4 := (hb4.cell bxL_w3).trans bx7_w3
  have bxF_w4 : ∀ o, w4.frozen? ⟨w.heap.size, o, none⟩ = false := fun o => (hb4.frozen bxL_w3).trans (bxF_w3 o)
  have bxL_w4 : w.heap.size < w4.heap.size := Nat.lt_of_lt_of_le bxL_w3 hb4.size
  have ax0_w4 := (hb4.cell axL_w3).trans ax0_w3
  have ax1_w4 := (hb4.cell axL_w3).trans ax1_w3
  have ax2_w4 := (hb4.cell axL_w3).trans ax2_w3
  have axF_w4 : ∀ o, w4.frozen? ⟨(w.heap.size + 1), o, none⟩ = false := fun o => (hb4.frozen axL_w3).trans (axF_w3 o)
  have axL_w4 : (w.heap.size + 1) < w4.heap.size := Nat.lt_of_lt_of_le axL_w3 hb4.size
  have acc_w4 := hidP (acc_w3.out.trans (hb4.mono acc_w3.out.size))
  have sz_w4 : Hid (w3.heap.size ≤ w4.heap.size) := hidP hb4.size
  clear hb4 bx0_w3 bx1_w3 bx2_w3 bx3_w3 bx4_w3 bx5_w3 bx6_w3 bx7_w3 bxF_w3 bxL_w3 ax0_w3 ax1_w3 ax2_w3 axF_w3 axL_w3 acc_w3
  go_wp2_with fail
  refine bodyPost_ret (v := .tuple #[.string ⟨#[]⟩, .int .i64 0]) (by simp [results, Tryz.results10, go_sem]) rfl ?_
  exact ⟨rfl, acc_w4.out⟩

set_option maxRecDepth 10000 in
set_option maxHeartbeats 4000000 in
theorem sHeld_yes (ap : Option Addr) (np cp : Nat) (ab : Option Addr) (nb cb : Nat) (al : Option Addr) (nl cl : Nat) (T N : Int) (aS : Option Addr) (ns cs : Nat) (X C : Int) (ps : List Pl) (bs : List Bk) (ls : List Ls) (ss : List Ss) (ad : Ad) (w : World) (hnp : np = ps.length) (hnb : nb = bs.length) (hnl : nl = ls.length) (hns : ns = ss.length) (hP : RowG KPl w ap ps) (hK : RowG KBk w ab bs) (hL : RowG KLs w al ls) (hS : RowG KSs w aS ss) (hlp : np ≤ 1048576) (hlb : nb ≤ 1048576) (hll : nl ≤ 1048576) (hls : ns ≤ 1048576) (hsb : ∀ q ∈ bs, q.t.size ≤ 9223372036854775807) (hsl : ∀ q ∈ ls, q.t.size ≤ 9223372036854775807) (hr : stB ps bs ls T N ss X C = true) (I : Nat) (q : Ls) (hx : fxL ls ad = some I) (hq : ls[I]? = some q) :
    Calls Tryz.prog 10 #[.agg #[.slice ap np cp, .slice ab nb cb, .slice al nl cl, .int .i64 T, .int .i64 N, .slice aS ns cs, .int .i64 X, .int .i64 C], .agg #[.bool ad.s, .int .i64 ad.H.toInt, .int .i64 ad.L.toInt]] w fun e w' => e = .returned (.tuple #[.string q.t, .int .i64 q.k]) ∧ Below w.heap.size w w' := by
  have HSt := hidP (fun W h => sStateOk_any ap np cp ab nb cb al nl cl T N aS ns cs X C ps bs ls ss W hnp hnb hnl hns (hP.later h) (hK.later h) (hL.later h) (hS.later h) hlp hlb hll hls hsb hsl)
  have HFi := hidP (fun W h => l6Find_any al nl cl T N ls ad W hnl (hL.later h) hll)
  have HR := hidP (fun W h => hL.later (w' := W) h)
  have HN := hidP hnl
  clear hP hK hS hL hnp hnb hnl hns hsb hsl
  rw [hr] at HSt
  have hfi : fxI ls ad = (I : Int) := by unfold fxI; rw [hx]
  rw [hfi] at HFi
  have i2 : ¬ ((I : Int) < 0) := by omega
  have i3 : decide ((I : Int) < 0) = false := decide_eq_false i2
  go_enter Tryz.func10, Tryz.ntmps10
  go_wp2_with fail
  obtain ⟨bx0_W1, bx1_W1, bx2_W1, bx3_W1, bx4_W1, bx5_W1, bx6_W1, bx7_W1⟩ := bx8 w 47 (.slice ap np cp) (.slice ab nb cb) (.slice al nl cl) (.int .i64 T) (.int .i64 N) (.slice aS ns cs) (.int .i64 X) (.int .i64 C)
  have bxF_W1 : ∀ o, (w.alloc (.cells #[.slice ap np cp, .slice ab nb cb, .slice al nl cl, .int .i64 T, .int .i64 N, .slice aS ns cs, .int .i64 X, .int .i64 C] 47)).frozen? ⟨w.heap.size, o, none⟩ = false := fun o => by simp [go_sem]
  have bxL_W1 : w.heap.size < (w.alloc (.cells #[.slice ap np cp, .slice ab nb cb, .slice al nl cl, .int .i64 T, .int .i64 N, .slice aS ns cs, .int .i64 X, .int .i64 C] 47)).heap.size := by simp
  have ab_W1 := alloc_below w (.cells #[.slice ap np cp, .slice ab nb cb, .slice al nl cl, .int .i64 T, .int .i64 N, .slice aS ns cs, .int .i64 X, .int .i64 C] 47)
  have as_W1 : Hid ((w.alloc (.cells #[.slice ap np cp, .slice ab nb cb, .slice al nl cl, .int .i64 T, .int .i64 N, .slice aS ns cs, .int .i64 X, .int .i64 C] 47)).heap.size = w.heap.size + 1) := hidP (by simp)
  generalize w.alloc (.cells #[.slice ap np cp, .slice ab nb cb, .slice al nl cl, .int .i64 T, .int .i64 N, .slice aS ns cs, .int .i64 X, .int .i64 C] 47) = W1 at *
  have acc_W1 := hidP (ab_W1)
  have sz_W1 : Hid (w.heap.size ≤ W1.heap.size) := hidP ab_W1.size
  clear ab_W1 
  obtain ⟨ax0_W2, ax1_W2, ax2_W2⟩ := bx3 W1 55 (.bool ad.s) (.int .i64 ad.H.toInt) (.int .i64 ad.L.toInt)
  have axF_W2 : ∀ o, (W1.alloc (.cells #[.bool ad.s, .int .i64 ad.H.toInt, .int .i64 ad.L.toInt] 55)).frozen? ⟨W1.heap.size, o, none⟩ = false := fun o => by simp [go_sem]
  have axL_W2 : W1.heap.size < (W1.alloc (.cells #[.bool ad.s, .int .i64 ad.H.toInt, .int .i64 ad.L.toInt] 55)).heap.size := by simp
  have ab_W2 := alloc_below W1 (.cells #[.bool ad.s, .int .i64 ad.H.toInt, .int .i64 ad.L.toInt] 55)
  have as_W2 : Hid ((W1.alloc (.cells #[.bool ad.s, .int .i64 ad.H.toInt, .int .i64 ad.L.toInt] 55)).heap.size = W1.heap.size + 1) := hidP (by simp)
  generalize W1.alloc (.cells #[.bool ad.s, .int .i64 ad.H.toInt, .int .i64 ad.L.toInt] 55) = W2 at *
  have bx0_W2 := (ab_W2.cell bxL_W1).trans bx0_W1
  have bx1_W2 := (ab_W2.cell bxL_W1).trans bx1_W1
  have bx2_W2 := (ab_W2.cell bxL_W1).trans bx2_W1
  have bx3_W2 := (ab_W2.cell bxL_W1).trans bx3_W1
  have bx4_W2 := (ab_W2.cell bxL_W1).trans bx4_W1
  have bx5_W2 := (ab_W2.cell bxL_W1).trans bx5_W1
  have bx6_W2 := (ab_W2.cell bxL_W1).trans bx6_W1
  have bx7_W2 := (ab_W2.cell bxL_W1).trans bx7_W1
  have bxF_W2 : ∀ o, W2.frozen? ⟨w.heap.size, o, none⟩ = false := fun o => (ab_W2.frozen bxL_W1).trans (bxF_W1 o)
  have bxL_W2 : w.heap.size < W2.heap.size := Nat.lt_of_lt_of_le bxL_W1 ab_W2.size
  have acc_W2 := hidP (acc_W1.out.trans (ab_W2.mono acc_W1.out.size))
  have sz_W2 : Hid (W1.heap.size ≤ W2.heap.size) := hidP ab_W2.size
  clear ab_W2 bx0_W1 bx1_W1 bx2_W1 bx3_W1 bx4_W1 bx5_W1 bx6_W1 bx7_W1 bxF_W1 bxL_W1 acc_W1
  simp only [as_W1.out] at ax0_W2 ax1_W2 ax2_W2 axF_W2 axL_W2
  refine (HFi.out _ acc_W2.out).mono ?_
  rintro e w3 ⟨rfl, hb3⟩
  have bx0_w3 := (hb3.cell bxL_W2).trans bx0_W2
  have bx1_w3 := (hb3.cell bxL_W2).trans bx1_W2
  have bx2_w3 := (hb3.cell bxL_W2).trans bx2_W2
  have bx3_w3 := (hb3.cell bxL_W2).trans bx3_W2
  have bx4_w3 := (hb3.cell bxL_W2).trans bx4_W2
  have bx5_w3 := (hb3.cell bxL_W2).trans bx5_W2
  have bx6_w3 := (hb3.cell bxL_W2).trans bx6_W2
  have bx7_w3 := (hb3.cell bxL_W2).trans bx7_W2
  have bxF_w3 : ∀ o, w3.frozen? ⟨w.heap.size, o, none⟩ = false := fun o => (hb3.frozen bxL_W2).trans (bxF_W2 o)
  have bxL_w3 : w.heap.size < w3.heap.size := Nat.lt_of_lt_of_le bxL_W2 hb3.size
  have ax0_w3 := (hb3.cell axL_W2).trans ax0_W2
  have ax1_w3 := (hb3.cell axL_W2).trans ax1_W2
  have ax2_w3 := (hb3.cell axL_W2).trans ax2_W2
  have axF_w3 : ∀ o, w3.frozen? ⟨(w.heap.size + 1), o, none⟩ = false := fun o => (hb3.frozen axL_W2).trans (axF_W2 o)
  have axL_w3 : (w.heap.size + 1) < w3.heap.size := Nat.lt_of_lt_of_le axL_W2 hb3.size
  have acc_w3 := hidP (acc_W2.out.trans (hb3.mono acc_W2.out.size))
  have sz_w3 : Hid (W2.heap.size ≤ w3.heap.size) := hidP hb3.size
  clear hb3 bx0_W2 bx1_W2 bx2_W2 bx3_W2 bx4_W2 bx5_W2 bx6_W2 bx7_W2 bxF_W2 bxL_W2 ax0_W2 ax1_W2 ax2_W2 axF_W2 axL_W2 acc_W2
  go_wp2_with fail
  refine (HSt.out _ acc_w3.out).mono ?_
  rintro e w4 ⟨rfl, hb4⟩
  have bx0_w4 := (hb4.cell bxL_w3).trans bx0_w3
  have bx1_w4 := (hb4.cell bxL_w3).trans bx1_w3
  have bx2_w4 := (hb4.cell bxL_w3).trans bx2_w3
  have bx3_w4 := (hb4.cell bxL_w3).trans bx3_w3
  have bx4_w4 := (hb4.cell bxL_w3).trans bx4_w3
  have bx5_w4 := (hb4.cell bxL_w3).trans bx5_w3
  have bx6_w4 := (hb4.cell bxL_w3).trans bx6_w3
  have bx7_w4 := (hb4.cell bxL_w3).trans bx7_w3
  have bxF_w4 : ∀ o, w4.frozen? ⟨w.heap.size, o, none⟩ = false := fun o => (hb4.frozen bxL_w3).trans (bxF_w3 o)
  have bxL_w4 : w.heap.size < w4.heap.size := Nat.lt_of_lt_of_le bxL_w3 hb4.size
  have ax0_w4 := (hb4.cell axL_w3).trans ax0_w3
  have ax1_w4 := (hb4.cell axL_w3).trans ax1_w3
  have ax2_w4 := (hb4.cell axL_w3).trans ax2_w3
  have axF_w4 : ∀ o, w4.frozen? ⟨(w.heap.size + 1), o, none⟩ = false := fun o => (hb4.frozen axL_w3).trans (axF_w3 o)
  have axL_w4 : (w.heap.size + 1) < w4.heap.size := Nat.lt_of_lt_of_le axL_w3 hb4.size
  have acc_w4 := hidP (acc_w3.out.trans (hb4.mono acc_w3.out.size))
  have sz_w4 : Hid (w3.heap.size ≤ w4.heap.size) := hidP hb4.size
  clear hb4 bx0_w3 bx1_w3 bx2_w3 bx3_w3 bx4_w3 bx5_w3 bx6_w3 bx7_w3 bxF_w3 bxL_w3 ax0_w3 ax1_w3 ax2_w3 axF_w3 axL_w3 acc_w3
  obtain ⟨p, o, q', rfl, hp, hq', c0, c1, c2, c3, c4, c5⟩ := rowLs (HR.out _ acc_w4.out) I (List.getElem?_eq_some_iff.1 hq).1
  rw [hq] at hq'
  cases hq'
  have i0 : (0 : Int) ≤ (I : Int) := by omega
  have i1 : (I : Int) < (nl : Int) := by have := (List.getElem?_eq_some_iff.1 hq).1; have := HN.out; omega
  go_wp2_with fail
  have HSx : Hid (∀ x, Below w4.heap.size w4 x → (x.cell? ⟨w.heap.size, 2, none⟩ = some (.slice (some ⟨p, o, none⟩) nl cl) ∧ x.cell? ⟨p, o + I * 6 + 3, none⟩ = some (.string q.t) ∧ x.cell? ⟨p, o + I * 6 + 4, none⟩ = some (.int .i64 q.k) ∧ Below w4.heap.size w4 x)) := hidP fun x h =>
    ⟨(h.cell bxL_w4).trans bx2_w4, (h.cell hp).trans c3, (h.cell hp).trans c4, h⟩
  refine wp_region_held_drew (S := (fun x => x.cell? ⟨w.heap.size, 2, none⟩ = some (.slice (some ⟨p, o, none⟩) nl cl) ∧ x.cell? ⟨p, o + I * 6 + 3, none⟩ = some (.string q.t) ∧ x.cell? ⟨p, o + I * 6 + 4, none⟩ = some (.int .i64 q.k) ∧ Below w4.heap.size w4 x)) (by kernel_rfl) ?_ (fun hHeld => ?_)
  · try dsimp only
    exact HSx.out _ ((Below.refl _ _).drew)
  refine tkA 0 18 (v := ?_) rfl (by kernel_rfl) (fun _ _ _ h => h) (by rfl) ?_ (by assumption) ?_; rotate_left; · (intro w hSw; (try dsimp only at hSw); go_simp; try with_reducible rfl)
  simp only [pa]
  refine tkA 1 19 (v := ?_) rfl (by kernel_rfl) (fun _ _ _ h => h) (by rfl) ?_ (by assumption) ?_; rotate_left; · (intro w hSw; (try dsimp only at hSw); go_simp; try with_reducible rfl)
  simp only [pa]
  refine tkA 2 20 (v := ?_) rfl (by kernel_rfl) (fun _ _ _ h => h) (by rfl) ?_ (by assumption) ?_; rotate_left; · (intro w hSw; (try dsimp only at hSw); go_simp; try with_reducible rfl)
  simp only [pa]
  refine tkA 3 21 (v := ?_) rfl (by kernel_rfl) (fun _ _ _ h => h) (by rfl) ?_ (by assumption) ?_; rotate_left; · (intro w hSw; (try dsimp only at hSw); go_simp; try with_reducible rfl)
  simp only [pa]
  refine tkA 4 22 (v := ?_) rfl (by kernel_rfl) (fun _ _ _ h => h) (by rfl) ?_ (by assumption) ?_; rotate_left; · (intro w hSw; (try dsimp only at hSw); go_simp; try with_reducible rfl)
  simp only [pa]
  refine tkA 5 23 (v := ?_) rfl (by kernel_rfl) (fun _ _ _ h => h) (by rfl) ?_ (by assumption) ?_; rotate_left; · (intro w hSw; (try dsimp only at hSw); go_simp; try with_reducible rfl)
  simp only [pa]
  refine tkA 6 24 (v := ?_) rfl (by kernel_rfl) (fun _ _ _ h => h) (by rfl) ?_ (by assumption) ?_; rotate_left; · (intro w hSw; (try dsimp only at hSw); go_simp; try with_reducible rfl)
  simp only [pa]
  refine tkA 7 25 (v := ?_) rfl (by kernel_rfl) (fun _ _ _ h => h) (by rfl) ?_ (by assumption) ?_; rotate_left; · (intro w hSw; (try dsimp only at hSw); go_simp; try with_reducible rfl)
  simp only [pa]
  refine tkA 8 26 (v := ?_) rfl (by kernel_rfl) (fun _ _ _ h => h) (by rfl) ?_ (by assumption) ?_; rotate_left; · (intro w hSw; (try dsimp only at hSw); go_simp; try with_reducible rfl)
  simp only [pa]
  refine tkA 9 27 (v := ?_) rfl (by kernel_rfl) (fun _ _ _ h => h) (by rfl) ?_ (by assumption) ?_; rotate_left; · (intro w hSw; (try dsimp only at hSw); go_simp; try with_reducible rfl)
  simp only [pa]
  refine tkA 10 28 (v := ?_) rfl (by kernel_rfl) (fun _ _ _ h => h) (by rfl) ?_ (by assumption) ?_; rotate_left; · (intro w hSw; (try dsimp only at hSw); go_simp; try with_reducible rfl)
  simp only [pa]
  refine tkA 11 29 (v := ?_) rfl (by kernel_rfl) (fun _ _ _ h => h) (by rfl) ?_ (by assumption) ?_; rotate_left; · (intro w hSw; (try dsimp only at hSw); go_simp; try with_reducible rfl)
  simp only [pa]
  refine tkA 12 30 (v := ?_) rfl (by kernel_rfl) (fun _ _ _ h => h) (by rfl) ?_ (by assumption) ?_; rotate_left; · (intro w hSw; (try dsimp only at hSw); go_simp; try with_reducible rfl)
  simp only [pa]
  refine tkA 13 31 (v := ?_) rfl (by kernel_rfl) (fun _ _ _ h => h) (by rfl) ?_ (by assumption) ?_; rotate_left; · (intro w hSw; (try dsimp only at hSw); go_simp; try with_reducible rfl)
  simp only [pa]
  refine tkA 14 4 (v := ?_) rfl (by kernel_rfl) (fun _ _ _ h => h) (by rfl) ?_ (by assumption) ?_; rotate_left; · (intro w hSw; (try dsimp only at hSw); go_simp; try with_reducible rfl)
  simp only [pa]
  refine tkA 15 5 (v := ?_) rfl (by kernel_rfl) (fun _ _ _ h => h) (by rfl) ?_ (by assumption) ?_; rotate_left; · (intro w hSw; (try dsimp only at hSw); go_simp; try with_reducible rfl)
  simp only [pa]
  have HE := hidP (hHeld.2.2.2)
  refine wpAnyH_done (by kernel_rfl) ?_ _
  clear hHeld
  go_wp2_with fail
  refine bodyPost_ret (v := .tuple #[.string q.t, .int .i64 q.k]) (by simp [results, Tryz.results10, go_sem]) rfl ?_
  exact ⟨rfl, acc_w4.out.trans (HE.out.mono acc_w4.out.size)⟩

set_option maxRecDepth 10000 in
set_option maxHeartbeats 4000000 in
theorem iHeld_form (ap : Option Addr) (np cp : Nat) (ab : Option Addr) (nb cb : Nat) (al : Option Addr) (nl cl : Nat) (T N : Int) (aS : Option Addr) (ns cs : Nat) (X C : Int) (ps : List Pl) (bs : List Bk) (ls : List Ls) (ss : List Ss) (ad : Ad) (w : World) (hnp : np = ps.length) (hnb : nb = bs.length) (hnl : nl = ls.length) (hns : ns = ss.length) (hP : RowG KPl w ap ps) (hK : RowG KBk w ab bs) (hL : RowG KLs w al ls) (hS : RowG KSs w aS ss) (hlp : np ≤ 1048576) (hlb : nb ≤ 1048576) (hll : nl ≤ 1048576) (hls : ns ≤ 1048576) (hsb : ∀ q ∈ bs, q.t.size ≤ 9223372036854775807) (hsl : ∀ q ∈ ls, q.t.size ≤ 9223372036854775807) (hr : stB ps bs ls T N ss X C = false) :
    Calls Tryz.prog 12 #[.agg #[.slice ap np cp, .slice ab nb cb, .slice al nl cl, .int .i64 T, .int .i64 N, .slice aS ns cs, .int .i64 X, .int .i64 C], .agg #[.bool ad.s, .int .i64 ad.H.toInt, .int .i64 ad.L.toInt]] w fun e w' => e = .returned (.tuple #[.string ⟨#[]⟩, .int .i64 0]) ∧ Below w.heap.size w w' := by
  have HSt := hidP (fun W h => iStateOk_any ap np cp ab nb cb al nl cl T N aS ns cs X C ps bs ls ss W hnp hnb hnl hns (hP.later h) (hK.later h) (hL.later h) (hS.later h) hlp hlb hll hls hsb hsl)
  clear hP hK hS hL hnp hnb hnl hns hsb hsl
  rw [hr] at HSt
  go_enter Tryz.func12, Tryz.ntmps12
  go_wp2_with fail
  obtain ⟨bx0_W1, bx1_W1, bx2_W1, bx3_W1, bx4_W1, bx5_W1, bx6_W1, bx7_W1⟩ := bx8 w 47 (.slice ap np cp) (.slice ab nb cb) (.slice al nl cl) (.int .i64 T) (.int .i64 N) (.slice aS ns cs) (.int .i64 X) (.int .i64 C)
  have bxF_W1 : ∀ o, (w.alloc (.cells #[.slice ap np cp, .slice ab nb cb, .slice al nl cl, .int .i64 T, .int .i64 N, .slice aS ns cs, .int .i64 X, .int .i64 C] 47)).frozen? ⟨w.heap.size, o, none⟩ = false := fun o => by simp [go_sem]
  have bxL_W1 : w.heap.size < (w.alloc (.cells #[.slice ap np cp, .slice ab nb cb, .slice al nl cl, .int .i64 T, .int .i64 N, .slice aS ns cs, .int .i64 X, .int .i64 C] 47)).heap.size := by simp
  have ab_W1 := alloc_below w (.cells #[.slice ap np cp, .slice ab nb cb, .slice al nl cl, .int .i64 T, .int .i64 N, .slice aS ns cs, .int .i64 X, .int .i64 C] 47)
  have as_W1 : Hid ((w.alloc (.cells #[.slice ap np cp, .slice ab nb cb, .slice al nl cl, .int .i64 T, .int .i64 N, .slice aS ns cs, .int .i64 X, .int .i64 C] 47)).heap.size = w.heap.size + 1) := hidP (by simp)
  generalize w.alloc (.cells #[.slice ap np cp, .slice ab nb cb, .slice al nl cl, .int .i64 T, .int .i64 N, .slice aS ns cs, .int .i64 X, .int .i64 C] 47) = W1 at *
  have acc_W1 := hidP (ab_W1)
  have sz_W1 : Hid (w.heap.size ≤ W1.heap.size) := hidP ab_W1.size
  clear ab_W1 
  obtain ⟨ax0_W2, ax1_W2, ax2_W2⟩ := bx3 W1 55 (.bool ad.s) (.int .i64 ad.H.toInt) (.int .i64 ad.L.toInt)
  have axF_W2 : ∀ o, (W1.alloc (.cells #[.bool ad.s, .int .i64 ad.H.toInt, .int .i64 ad.L.toInt] 55)).frozen? ⟨W1.heap.size, o, none⟩ = false := fun o => by simp [go_sem]
  have axL_W2 : W1.heap.size < (W1.alloc (.cells #[.bool ad.s, .int .i64 ad.H.toInt, .int .i64 ad.L.toInt] 55)).heap.size := by simp
  have ab_W2 := alloc_below W1 (.cells #[.bool ad.s, .int .i64 ad.H.toInt, .int .i64 ad.L.toInt] 55)
  have as_W2 : Hid ((W1.alloc (.cells #[.bool ad.s, .int .i64 ad.H.toInt, .int .i64 ad.L.toInt] 55)).heap.size = W1.heap.size + 1) := hidP (by simp)
  generalize W1.alloc (.cells #[.bool ad.s, .int .i64 ad.H.toInt, .int .i64 ad.L.toInt] 55) = W2 at *
  have bx0_W2 := (ab_W2.cell bxL_W1).trans bx0_W1
  have bx1_W2 := (ab_W2.cell bxL_W1).trans bx1_W1
  have bx2_W2 := (ab_W2.cell bxL_W1).trans bx2_W1
  have bx3_W2 := (ab_W2.cell bxL_W1).trans bx3_W1
  have bx4_W2 := (ab_W2.cell bxL_W1).trans bx4_W1
  have bx5_W2 := (ab_W2.cell bxL_W1).trans bx5_W1
  have bx6_W2 := (ab_W2.cell bxL_W1).trans bx6_W1
  have bx7_W2 := (ab_W2.cell bxL_W1).trans bx7_W1
  have bxF_W2 : ∀ o, W2.frozen? ⟨w.heap.size, o, none⟩ = false := fun o => (ab_W2.frozen bxL_W1).trans (bxF_W1 o)
  have bxL_W2 : w.heap.size < W2.heap.size := Nat.lt_of_lt_of_le bxL_W1 ab_W2.size
  have acc_W2 := hidP (acc_W1.out.trans (ab_W2.mono acc_W1.out.size))
  have sz_W2 : Hid (W1.heap.size ≤ W2.heap.size) := hidP ab_W2.size
  clear ab_W2 bx0_W1 bx1_W1 bx2_W1 bx3_W1 bx4_W1 bx5_W1 bx6_W1 bx7_W1 bxF_W1 bxL_W1 acc_W1
  simp only [as_W1.out] at ax0_W2 ax1_W2 ax2_W2 axF_W2 axL_W2
  refine (HSt.out _ acc_W2.out).mono ?_
  rintro e w4 ⟨rfl, hb4⟩
  have bx0_w4 := (hb4.cell bxL_W2).trans bx0_W2
  have bx1_w4 := (hb4.cell bxL_W2).trans bx1_W2
  have bx2_w4 := (hb4.cell bxL_W2).trans bx2_W2
  have bx3_w4 := (hb4.cell bxL_W2).trans bx3_W2
  have bx4_w4 := (hb4.cell bxL_W2).trans bx4_W2
  have bx5_w4 := (hb4.cell bxL_W2).trans bx5_W2
  have bx6_w4 := (hb4.cell bxL_W2).trans bx6_W2
  have bx7_w4 := (hb4.cell bxL_W2).trans bx7_W2
  have bxF_w4 : ∀ o, w4.frozen? ⟨w.heap.size, o, none⟩ = false := fun o => (hb4.frozen bxL_W2).trans (bxF_W2 o)
  have bxL_w4 : w.heap.size < w4.heap.size := Nat.lt_of_lt_of_le bxL_W2 hb4.size
  have ax0_w4 := (hb4.cell axL_W2).trans ax0_W2
  have ax1_w4 := (hb4.cell axL_W2).trans ax1_W2
  have ax2_w4 := (hb4.cell axL_W2).trans ax2_W2
  have axF_w4 : ∀ o, w4.frozen? ⟨(w.heap.size + 1), o, none⟩ = false := fun o => (hb4.frozen axL_W2).trans (axF_W2 o)
  have axL_w4 : (w.heap.size + 1) < w4.heap.size := Nat.lt_of_lt_of_le axL_W2 hb4.size
  have acc_w4 := hidP (acc_W2.out.trans (hb4.mono acc_W2.out.size))
  have sz_w4 : Hid (W2.heap.size ≤ w4.heap.size) := hidP hb4.size
  clear hb4 bx0_W2 bx1_W2 bx2_W2 bx3_W2 bx4_W2 bx5_W2 bx6_W2 bx7_W2 bxF_W2 bxL_W2 ax0_W2 ax1_W2 ax2_W2 axF_W2 axL_W2 acc_W2
  go_wp2_with fail
  refine bodyPost_ret (v := .tuple #[.string ⟨#[]⟩, .int .i64 0]) (by simp [results, Tryz.results12, go_sem]) rfl ?_
  exact ⟨rfl, acc_w4.out⟩

/-- The place of a lease as a value: the owner and the token of the first lease of the address. -/
def hdV (ls : List Ls) (ad : Ad) : ByteArray × Int := match ls.find? (fun q => q.a.key == ad.key) with | none => (⟨#[]⟩, 0) | some q => (q.t, q.k)
theorem hdV_at (ls : List Ls) (ad : Ad) (k : Nat) (q : Ls) (h : ls[k]? = some q) : hdV (ls.drop k) ad = if (q.a.key == ad.key) = true then (q.t, q.k) else hdV (ls.drop (k + 1)) ad := by
  rw [drop_at h]
  unfold hdV
  rw [List.find?_cons]
  cases (q.a.key == ad.key) <;> rfl
set_option maxRecDepth 10000 in
set_option maxHeartbeats 4000000 in
theorem iHeld_yes (ap : Option Addr) (np cp : Nat) (ab : Option Addr) (nb cb : Nat) (al : Option Addr) (nl cl : Nat) (T N : Int) (aS : Option Addr) (ns cs : Nat) (X C : Int) (ps : List Pl) (bs : List Bk) (ls : List Ls) (ss : List Ss) (ad : Ad) (w : World) (hnp : np = ps.length) (hnb : nb = bs.length) (hnl : nl = ls.length) (hns : ns = ss.length) (hP : RowG KPl w ap ps) (hK : RowG KBk w ab bs) (hL : RowG KLs w al ls) (hS : RowG KSs w aS ss) (hlp : np ≤ 1048576) (hlb : nb ≤ 1048576) (hll : nl ≤ 1048576) (hls : ns ≤ 1048576) (hsb : ∀ q ∈ bs, q.t.size ≤ 9223372036854775807) (hsl : ∀ q ∈ ls, q.t.size ≤ 9223372036854775807) (hr : stB ps bs ls T N ss X C = true) :
    Calls Tryz.prog 12 #[.agg #[.slice ap np cp, .slice ab nb cb, .slice al nl cl, .int .i64 T, .int .i64 N, .slice aS ns cs, .int .i64 X, .int .i64 C], .agg #[.bool ad.s, .int .i64 ad.H.toInt, .int .i64 ad.L.toInt]] w fun e w' => e = .returned (.tuple #[.string (hdV ls ad).1, .int .i64 (hdV ls ad).2]) ∧ Below w.heap.size w w' := by
  have HSt := hidP (fun W h => iStateOk_any ap np cp ab nb cb al nl cl T N aS ns cs X C ps bs ls ss W hnp hnb hnl hns (hP.later h) (hK.later h) (hL.later h) (hS.later h) hlp hlb hll hls hsb hsl)
  have HR := hidP (fun W h => hL.later (w' := W) h)
  have HN := hidP hnl
  clear hP hK hS hL hnp hnb hnl hns hsb hsl
  rw [hr] at HSt
  go_enter Tryz.func12, Tryz.ntmps12
  go_wp2_with fail
  obtain ⟨bx0_W1, bx1_W1, bx2_W1, bx3_W1, bx4_W1, bx5_W1, bx6_W1, bx7_W1⟩ := bx8 w 47 (.slice ap np cp) (.slice ab nb cb) (.slice al nl cl) (.int .i64 T) (.int .i64 N) (.slice aS ns cs) (.int .i64 X) (.int .i64 C)
  have bxF_W1 : ∀ o, (w.alloc (.cells #[.slice ap np cp, .slice ab nb cb, .slice al nl cl, .int .i64 T, .int .i64 N, .slice aS ns cs, .int .i64 X, .int .i64 C] 47)).frozen? ⟨w.heap.size, o, none⟩ = false := fun o => by simp [go_sem]
  have bxL_W1 : w.heap.size < (w.alloc (.cells #[.slice ap np cp, .slice ab nb cb, .slice al nl cl, .int .i64 T, .int .i64 N, .slice aS ns cs, .int .i64 X, .int .i64 C] 47)).heap.size := by simp
  have ab_W1 := alloc_below w (.cells #[.slice ap np cp, .slice ab nb cb, .slice al nl cl, .int .i64 T, .int .i64 N, .slice aS ns cs, .int .i64 X, .int .i64 C] 47)
  have as_W1 : Hid ((w.alloc (.cells #[.slice ap np cp, .slice ab nb cb, .slice al nl cl, .int .i64 T, .int .i64 N, .slice aS ns cs, .int .i64 X, .int .i64 C] 47)).heap.size = w.heap.size + 1) := hidP (by simp)
  generalize w.alloc (.cells #[.slice ap np cp, .slice ab nb cb, .slice al nl cl, .int .i64 T, .int .i64 N, .slice aS ns cs, .int .i64 X, .int .i64 C] 47) = W1 at *
  have acc_W1 := hidP (ab_W1)
  have sz_W1 : Hid (w.heap.size ≤ W1.heap.size) := hidP ab_W1.size
  clear ab_W1 
  obtain ⟨ax0_W2, ax1_W2, ax2_W2⟩ := bx3 W1 55 (.bool ad.s) (.int .i64 ad.H.toInt) (.int .i64 ad.L.toInt)
  have axF_W2 : ∀ o, (W1.alloc (.cells #[.bool ad.s, .int .i64 ad.H.toInt, .int .i64 ad.L.toInt] 55)).frozen? ⟨W1.heap.size, o, none⟩ = false := fun o => by simp [go_sem]
  have axL_W2 : W1.heap.size < (W1.alloc (.cells #[.bool ad.s, .int .i64 ad.H.toInt, .int .i64 ad.L.toInt] 55)).heap.size := by simp
  have ab_W2 := alloc_below W1 (.cells #[.bool ad.s, .int .i64 ad.H.toInt, .int .i64 ad.L.toInt] 55)
  have as_W2 : Hid ((W1.alloc (.cells #[.bool ad.s, .int .i64 ad.H.toInt, .int .i64 ad.L.toInt] 55)).heap.size = W1.heap.size + 1) := hidP (by simp)
  generalize W1.alloc (.cells #[.bool ad.s, .int .i64 ad.H.toInt, .int .i64 ad.L.toInt] 55) = W2 at *
  have bx0_W2 := (ab_W2.cell bxL_W1).trans bx0_W1
  have bx1_W2 := (ab_W2.cell bxL_W1).trans bx1_W1
  have bx2_W2 := (ab_W2.cell bxL_W1).trans bx2_W1
  have bx3_W2 := (ab_W2.cell bxL_W1).trans bx3_W1
  have bx4_W2 := (ab_W2.cell bxL_W1).trans bx4_W1
  have bx5_W2 := (ab_W2.cell bxL_W1).trans bx5_W1
  have bx6_W2 := (ab_W2.cell bxL_W1).trans bx6_W1
  have bx7_W2 := (ab_W2.cell bxL_W1).trans bx7_W1
  have bxF_W2 : ∀ o, W2.frozen? ⟨w.heap.size, o, none⟩ = false := fun o => (ab_W2.frozen bxL_W1).trans (bxF_W1 o)
  have bxL_W2 : w.heap.size < W2.heap.size := Nat.lt_of_lt_of_le bxL_W1 ab_W2.size
  have acc_W2 := hidP (acc_W1.out.trans (ab_W2.mono acc_W1.out.size))
  have sz_W2 : Hid (W1.heap.size ≤ W2.heap.size) := hidP ab_W2.size
  clear ab_W2 bx0_W1 bx1_W1 bx2_W1 bx3_W1 bx4_W1 bx5_W1 bx6_W1 bx7_W1 bxF_W1 bxL_W1 acc_W1
  simp only [as_W1.out] at ax0_W2 ax1_W2 ax2_W2 axF_W2 axL_W2
  refine (HSt.out _ acc_W2.out).mono ?_
  rintro e w4 ⟨rfl, hb4⟩
  have bx0_w4 := (hb4.cell bxL_W2).trans bx0_W2
  have bx1_w4 := (hb4.cell bxL_W2).trans bx1_W2
  have bx2_w4 := (hb4.cell bxL_W2).trans bx2_W2
  have bx3_w4 := (hb4.cell bxL_W2).trans bx3_W2
  have bx4_w4 := (hb4.cell bxL_W2).trans bx4_W2
  have bx5_w4 := (hb4.cell bxL_W2).trans bx5_W2
  have bx6_w4 := (hb4.cell bxL_W2).trans bx6_W2
  have bx7_w4 := (hb4.cell bxL_W2).trans bx7_W2
  have bxF_w4 : ∀ o, w4.frozen? ⟨w.heap.size, o, none⟩ = false := fun o => (hb4.frozen bxL_W2).trans (bxF_W2 o)
  have bxL_w4 : w.heap.size < w4.heap.size := Nat.lt_of_lt_of_le bxL_W2 hb4.size
  have ax0_w4 := (hb4.cell axL_W2).trans ax0_W2
  have ax1_w4 := (hb4.cell axL_W2).trans ax1_W2
  have ax2_w4 := (hb4.cell axL_W2).trans ax2_W2
  have axF_w4 : ∀ o, w4.frozen? ⟨(w.heap.size + 1), o, none⟩ = false := fun o => (hb4.frozen axL_W2).trans (axF_W2 o)
  have axL_w4 : (w.heap.size + 1) < w4.heap.size := Nat.lt_of_lt_of_le axL_W2 hb4.size
  have acc_w4 := hidP (acc_W2.out.trans (hb4.mono acc_W2.out.size))
  have sz_w4 : Hid (W2.heap.size ≤ w4.heap.size) := hidP hb4.size
  clear hb4 bx0_W2 bx1_W2 bx2_W2 bx3_W2 bx4_W2 bx5_W2 bx6_W2 bx7_W2 bxF_W2 bxL_W2 ax0_W2 ax1_W2 ax2_W2 axF_W2 axL_W2 acc_W2
  have HR4 := hidP (HR.out _ acc_w4.out)
  go_wp2_with fail
  go_loopw [7, 15] (fun _ t15 wr => ∃ k : Nat, k ≤ nl ∧ t15 = .int .i64 k ∧ hdV ls ad = hdV (ls.drop k) ad ∧ Below w4.heap.size w4 wr) (fun _ t15 _ => nl - (intOf t15).toNat)
  case atStart => exact ⟨0, Nat.zero_le _, rfl, rfl, Below.refl _ _⟩
  case round =>
    obtain ⟨k, hk, rfl, hpo, hbel⟩ := hrel
    have A0 := (hbel.cell axL_w4).trans ax0_w4
    have A1 := (hbel.cell axL_w4).trans ax1_w4
    have A2 := (hbel.cell axL_w4).trans ax2_w4
    have AL : w.heap.size + 1 < wr.heap.size := Nat.lt_of_lt_of_le axL_w4 hbel.size
    have HBel := hidP (acc_w4.out.trans (hbel.mono acc_w4.out.size))
    have HBu := hidP hbel
    by_cases hlt : k < nl
    · obtain ⟨p, o, q, rfl, hp, hq, c0, c1, c2, c3, c4, c5⟩ := rowLs HR4.out k (by rw [← HN.out]; exact hlt)
      have d0 := (hbel.cell hp).trans c0
      have d1 := (hbel.cell hp).trans c1
      have d2 := (hbel.cell hp).trans c2
      have d3 := (hbel.cell hp).trans c3
      have d4 := (hbel.cell hp).trans c4
      have d5 := (hbel.cell hp).trans c5
      rw [hdV_at ls ad k q hq] at hpo
      have HPo := hidP hpo
      have hE := fun wx => eqSt q.a.s q.a.H.toInt q.a.L.toInt ad.s ad.H.toInt ad.L.toInt wx
      simp only [key_eq q.a ad] at hE
      clear c0 c1 c2 c3 c4 c5 hq hpo hbel
      have nA : w.heap.size + 1 ≠ wr.heap.size := by omega
      have xB := hidP (alloc_below wr (.cells #[.bool q.a.s, .int .i64 q.a.H.toInt, .int .i64 q.a.L.toInt, .string q.t, .int .i64 q.k, .int .i64 q.u] 71))
      cases hk2 : (q.a.key == ad.key)
      · rw [hk2] at hE
        have HPn : Hid (hdV ls ad = hdV (ls.drop (k + 1)) ad) := hidP (by rw [HPo.out, hk2]; rfl)
        clear HPo
        go_wp2_with fail
        go_roundw
        case rel => exact ⟨k + 1, by omega, by go_num, HPn.out, HBu.out.trans (xB.out.mono HBu.out.size)⟩
        case measure => simp [intOf]; omega
      · rw [hk2] at hE
        have HPn : Hid (hdV ls ad = (q.t, q.k)) := hidP (by rw [HPo.out, hk2]; rfl)
        clear HPo
        go_wp2_with fail
        obtain ⟨x0, x1, x2, x3, x4, x5⟩ := boxLs (q := q) wr 71
        have xL := alloc_lt wr (.cells #[.bool q.a.s, .int .i64 q.a.H.toInt, .int .i64 q.a.L.toInt, .string q.t, .int .i64 q.k, .int .i64 q.u] 71)
        generalize wr.alloc (.cells #[.bool q.a.s, .int .i64 q.a.H.toInt, .int .i64 q.a.L.toInt, .string q.t, .int .i64 q.k, .int .i64 q.u] 71) = Wq at *
        have HSx : Hid (∀ x, Below Wq.heap.size Wq x → (x.cell? ⟨wr.heap.size, 3, none⟩ = some (.string q.t) ∧ x.cell? ⟨wr.heap.size, 4, none⟩ = some (.int .i64 q.k) ∧ Below Wq.heap.size Wq x)) := hidP fun x h =>
          ⟨(h.cell xL).trans x3, (h.cell xL).trans x4, h⟩
        refine wp_region_held_drew (S := (fun x => x.cell? ⟨wr.heap.size, 3, none⟩ = some (.string q.t) ∧ x.cell? ⟨wr.heap.size, 4, none⟩ = some (.int .i64 q.k) ∧ Below Wq.heap.size Wq x)) (by kernel_rfl) ?_ (fun hHeld => ?_)
        · try dsimp only
          exact HSx.out _ ((Below.refl _ _).drew)
        refine tkA 0 23 (v := ?_) rfl (by kernel_rfl) (fun _ _ _ h => h) (by rfl) ?_ (by assumption) ?_; rotate_left; · (intro w hSw; (try dsimp only at hSw); go_simp; try with_reducible rfl)
        simp only [pa]
        refine tkA 1 24 (v := ?_) rfl (by kernel_rfl) (fun _ _ _ h => h) (by rfl) ?_ (by assumption) ?_; rotate_left; · (intro w hSw; (try dsimp only at hSw); go_simp; try with_reducible rfl)
        simp only [pa]
        refine tkA 2 25 (v := ?_) rfl (by kernel_rfl) (fun _ _ _ h => h) (by rfl) ?_ (by assumption) ?_; rotate_left; · (intro w hSw; (try dsimp only at hSw); go_simp; try with_reducible rfl)
        simp only [pa]
        refine tkA 3 26 (v := ?_) rfl (by kernel_rfl) (fun _ _ _ h => h) (by rfl) ?_ (by assumption) ?_; rotate_left; · (intro w hSw; (try dsimp only at hSw); go_simp; try with_reducible rfl)
        simp only [pa]
        refine tkA 4 4 (v := ?_) rfl (by kernel_rfl) (fun _ _ _ h => h) (by rfl) ?_ (by assumption) ?_; rotate_left; · (intro w hSw; (try dsimp only at hSw); go_simp; try with_reducible rfl)
        simp only [pa]
        refine tkA 5 5 (v := ?_) rfl (by kernel_rfl) (fun _ _ _ h => h) (by rfl) ?_ (by assumption) ?_; rotate_left; · (intro w hSw; (try dsimp only at hSw); go_simp; try with_reducible rfl)
        simp only [pa]
        have HE := hidP (hHeld.2.2)
        refine wpAnyH_done (by kernel_rfl) ?_ _
        clear hHeld
        go_wp2_with fail
        refine bodyPost_ret (v := .tuple #[.string q.t, .int .i64 q.k]) (by simp [results, Tryz.results12, go_sem]) rfl ?_
        exact ⟨by rw [HPn.out], (HBel.out.trans (xB.out.mono HBel.out.size)).trans (HE.out.mono (HBel.out.trans (xB.out.mono HBel.out.size)).size)⟩
    · have HX : Hid (hdV ls ad = (⟨#[]⟩, 0)) := by
        rw [List.drop_of_length_le (by have := HN.out; omega)] at hpo
        exact hidP hpo
      clear hbel hpo
      go_wp2_with fail
      refine bodyPost_ret (v := .tuple #[.string ⟨#[]⟩, .int .i64 0]) (by simp [results, Tryz.results12, go_sem]) rfl ?_
      exact ⟨by rw [HX.out], HBel.out⟩

theorem hdV_none {ls : List Ls} {ad : Ad} (h : fxL ls ad = none) : hdV ls ad = (⟨#[]⟩, 0) := by
  unfold fxL at h
  unfold hdV
  rw [List.findIdx?_eq_none_iff] at h
  rw [List.find?_eq_none.2 (fun x hx => by simpa using h x hx)]
theorem hdV_some : ∀ (ls : List Ls) (ad : Ad) (I : Nat) (q : Ls), fxL ls ad = some I → ls[I]? = some q → hdV ls ad = (q.t, q.k)
  | [], _, _, _, h, _ => by simp [fxL] at h
  | x :: t, ad, I, q, h, hq => by
      have h0 := hdV_at (x :: t) ad 0 x rfl
      rw [List.drop_zero] at h0
      rw [h0]
      unfold fxL at h
      rw [List.findIdx?_cons] at h
      cases hx : (x.a.key == ad.key)
      · rw [hx] at h
        simp only [Bool.false_eq_true, if_false] at h ⊢
        cases hf : List.findIdx? (fun q => q.a.key == ad.key) t with
        | none => rw [hf] at h; simp at h
        | some i =>
          rw [hf] at h
          simp at h
          subst h
          exact hdV_some t ad i q hf (by simpa using hq)
      · rw [hx] at h
        simp at h
        subst h
        simp at hq
        subst hq
        rfl
/-- What both Held answer. -/
def hdB (r : Bool) (ls : List Ls) (ad : Ad) : ByteArray × Int := if r = true then hdV ls ad else (⟨#[]⟩, 0)
theorem sHeld_any (ap : Option Addr) (np cp : Nat) (ab : Option Addr) (nb cb : Nat) (al : Option Addr) (nl cl : Nat) (T N : Int) (aS : Option Addr) (ns cs : Nat) (X C : Int) (ps : List Pl) (bs : List Bk) (ls : List Ls) (ss : List Ss) (ad : Ad) (w : World) (hnp : np = ps.length) (hnb : nb = bs.length) (hnl : nl = ls.length) (hns : ns = ss.length) (hP : RowG KPl w ap ps) (hK : RowG KBk w ab bs) (hL : RowG KLs w al ls) (hS : RowG KSs w aS ss) (hlp : np ≤ 1048576) (hlb : nb ≤ 1048576) (hll : nl ≤ 1048576) (hls : ns ≤ 1048576) (hsb : ∀ q ∈ bs, q.t.size ≤ 9223372036854775807) (hsl : ∀ q ∈ ls, q.t.size ≤ 9223372036854775807) :
    Calls Tryz.prog 10 #[.agg #[.slice ap np cp, .slice ab nb cb, .slice al nl cl, .int .i64 T, .int .i64 N, .slice aS ns cs, .int .i64 X, .int .i64 C], .agg #[.bool ad.s, .int .i64 ad.H.toInt, .int .i64 ad.L.toInt]] w fun e w' => e = .returned (.tuple #[.string (hdB (stB ps bs ls T N ss X C) ls ad).1, .int .i64 (hdB (stB ps bs ls T N ss X C) ls ad).2]) ∧ Below w.heap.size w w' := by
  unfold hdB
  cases hr : stB ps bs ls T N ss X C
  · exact sHeld_form ap np cp ab nb cb al nl cl T N aS ns cs X C ps bs ls ss ad w hnp hnb hnl hns hP hK hL hS hlp hlb hll hls hsb hsl hr
  · rw [if_pos rfl]
    cases hx : fxL ls ad with
    | none => rw [hdV_none hx]; exact sHeld_none ap np cp ab nb cb al nl cl T N aS ns cs X C ps bs ls ss ad w hnp hnb hnl hns hP hK hL hS hlp hlb hll hls hsb hsl hr hx
    | some I =>
      obtain ⟨q, hq, _, _⟩ := fx_at hx
      rw [hdV_some ls ad I q hx hq]
      exact sHeld_yes ap np cp ab nb cb al nl cl T N aS ns cs X C ps bs ls ss ad w hnp hnb hnl hns hP hK hL hS hlp hlb hll hls hsb hsl hr I q hx hq

theorem iHeld_any (ap : Option Addr) (np cp : Nat) (ab : Option Addr) (nb cb : Nat) (al : Option Addr) (nl cl : Nat) (T N : Int) (aS : Option Addr) (ns cs : Nat) (X C : Int) (ps : List Pl) (bs : List Bk) (ls : List Ls) (ss : List Ss) (ad : Ad) (w : World) (hnp : np = ps.length) (hnb : nb = bs.length) (hnl : nl = ls.length) (hns : ns = ss.length) (hP : RowG KPl w ap ps) (hK : RowG KBk w ab bs) (hL : RowG KLs w al ls) (hS : RowG KSs w aS ss) (hlp : np ≤ 1048576) (hlb : nb ≤ 1048576) (hll : nl ≤ 1048576) (hls : ns ≤ 1048576) (hsb : ∀ q ∈ bs, q.t.size ≤ 9223372036854775807) (hsl : ∀ q ∈ ls, q.t.size ≤ 9223372036854775807) :
    Calls Tryz.prog 12 #[.agg #[.slice ap np cp, .slice ab nb cb, .slice al nl cl, .int .i64 T, .int .i64 N, .slice aS ns cs, .int .i64 X, .int .i64 C], .agg #[.bool ad.s, .int .i64 ad.H.toInt, .int .i64 ad.L.toInt]] w fun e w' => e = .returned (.tuple #[.string (hdB (stB ps bs ls T N ss X C) ls ad).1, .int .i64 (hdB (stB ps bs ls T N ss X C) ls ad).2]) ∧ Below w.heap.size w w' := by
  unfold hdB
  cases hr : stB ps bs ls T N ss X C
  · exact iHeld_form ap np cp ab nb cb al nl cl T N aS ns cs X C ps bs ls ss ad w hnp hnb hnl hns hP hK hL hS hlp hlb hll hls hsb hsl hr
  · exact iHeld_yes ap np cp ab nb cb al nl cl T N aS ns cs X C ps bs ls ss ad w hnp hnb hnl hns hP hK hL hS hlp hlb hll hls hsb hsl hr

end Go.Proofs.YtplocbpngikohaaGreat
namespace Go.Proofs.YtplocbpngikohaaGreat
open Go.ChangeShapes Go.WideShapes Go.ChangeAt Go.RowKit Go.Joins Go.Deep

theorem Tryz.ownB9 : ownKnob Tryz.prog.godebug = none := by kernel_rfl
theorem Tryz.laidOutB9 : laidOutB Tryz.prog = true := by kernel_rfl
theorem slice_of {H : Type} {enc : TypeId × Value → H} {W : World} {t e : TypeId} {n : Nat} {u : Value} {y : DataW H × List MemPlace} (ht : Tryz.prog.underlying t = some (.slice e)) (h : DataW.trod enc Tryz.prog W 0 (fun _ => true) true n t [u] = some y) : ∃ a l c, u = .slice a l c := by
  rcases open_slice ht h with ⟨hcs, _⟩ | ⟨a', len', cap', m, n', D, Plc, hcs, _⟩
  · simp at hcs; exact ⟨_, _, _, hcs⟩
  · simp at hcs; exact ⟨_, _, _, hcs⟩
theorem array8 {α : Type} {cs : Array α} (h : cs.size = 8) : ∃ c0 c1 c2 c3 c4 c5 c6 c7, cs = #[c0, c1, c2, c3, c4, c5, c6, c7] := by
  obtain ⟨l⟩ := cs
  match l, h with
  | [c0, c1, c2, c3, c4, c5, c6, c7], _ => exact ⟨c0, c1, c2, c3, c4, c5, c6, c7, rfl⟩
set_option maxRecDepth 100000 in
set_option maxHeartbeats 1000000 in
theorem openState {H : Type} {enc : TypeId × Value → H} {W : World} {r : Reach} {b0 : Nat} {v : Value} {d : DataW H} {p : List MemPlace} (hv : Value.okWide Tryz.prog W r b0 33 v)
    (h : DataW.Trod enc Tryz.prog W 0 (fun _ => true) true 33 v d p) : ∃ (ap : Option Addr) (np cp : Nat) (ab : Option Addr) (nb cb : Nat) (al : Option Addr) (nl cl : Nat) (T N : Int) (aS : Option Addr) (ns cs : Nat) (X C : Int) (ps : List Pl) (bs : List Bk) (ls : List Ls) (ss : List Ss), v = .agg #[.slice ap np cp, .slice ab nb cb, .slice al nl cl, .int .i64 T, .int .i64 N, .slice aS ns cs, .int .i64 X, .int .i64 C] ∧ (np = ps.length ∧ nb = bs.length ∧ nl = ls.length ∧ ns = ss.length) ∧ (RowG KPl W ap ps ∧ RowG KBk W ab bs ∧ RowG KLs W al ls ∧ RowG KSs W aS ss) ∧ (np ≤ 9223372036854775807 ∧ nb ≤ 9223372036854775807 ∧ nl ≤ 9223372036854775807 ∧ ns ≤ 9223372036854775807) ∧ (∀ q ∈ bs, q.t.size ≤ 9223372036854775807) ∧ (∀ q ∈ ls, q.t.size ≤ 9223372036854775807) ∧ (∀ q ∈ ss, q.t.size ≤ 9223372036854775807) := by
  obtain ⟨cs, rfl, hsz⟩ := okWide_struct Tryz.underlying33 hv
  have hC : Tryz.prog.cellsOf 33 = 8 := by kernel_rfl
  obtain ⟨c0, c1, c2, c3, c4, c5, c6, c7, rfl⟩ := array8 (hsz.trans hC)
  obtain ⟨fuel, hf⟩ := h
  obtain ⟨xs, n, _, _, _, hlen, hx⟩ := DataW.trod_struct Tryz.underlying33 hf
  have kP : Tryz.prog.cellsOf 25 = 2 := by kernel_rfl
  have kB : Tryz.prog.cellsOf 28 = 3 := by kernel_rfl
  have kD : Tryz.prog.cellsOf 31 = 2 := by kernel_rfl
  have ki : Tryz.prog.cellsOf 3 = 1 := by kernel_rfl
  have k1 : Tryz.prog.cellsOf 22 = 1 := by kernel_rfl
  have k2 : Tryz.prog.cellsOf 23 = 1 := by kernel_rfl
  have k3 : Tryz.prog.cellsOf 26 = 1 := by kernel_rfl
  have k4 : Tryz.prog.cellsOf 29 = 1 := by kernel_rfl
  match xs, hlen with
  | [y0, y1, y2, y3], _ =>
    have f0 := hx 0 _ rfl; have f1 := hx 1 _ rfl; have f2 := hx 2 _ rfl; have f3 := hx 3 _ rfl
    simp [Value.cells, kP, kB, kD, ki] at f0 f1 f2 f3
    obtain ⟨z0, z1, m, _, _, g0, g1⟩ := trod_struct2 Tryz.underlying25 f0
    simp [k1, k2] at g0 g1
    obtain ⟨u0, u1, u2, m2, _, _, j0, j1, j2⟩ := trod_struct3 Tryz.underlying28 f1
    simp [k3, ki] at j0 j1 j2
    obtain ⟨w0, w1, m3, _, _, l0, l1⟩ := trod_struct2 Tryz.underlying31 f2
    simp [k4, ki] at l0 l1
    obtain ⟨ap, np, cp, rfl⟩ := slice_of Tryz.underlying22 g0
    obtain ⟨ab, nb, cb, rfl⟩ := slice_of Tryz.underlying23 g1
    obtain ⟨al, nl, cl, rfl⟩ := slice_of Tryz.underlying26 j0
    obtain ⟨aS, ns, cs, rfl⟩ := slice_of Tryz.underlying29 l0
    obtain ⟨ps, e1, q1, r1⟩ := openPl (enc := enc) (W := W) (a := ap) (len := np) (cap := cp) (d := z0.1) (p := z0.2) ⟨m, by simpa [Value.cells] using g0⟩
    obtain ⟨bs, e2, q2, r2, s2⟩ := openBk2 (enc := enc) (W := W) (a := ab) (len := nb) (cap := cb) (d := z1.1) (p := z1.2) ⟨m, by simpa [Value.cells] using g1⟩
    obtain ⟨ls, e3, q3, r3, s3⟩ := openLs (enc := enc) (W := W) (a := al) (len := nl) (cap := cl) (d := u0.1) (p := u0.2) ⟨m2, by simpa [Value.cells] using j0⟩
    obtain ⟨ss, e4, q4, r4, s4⟩ := openSs (enc := enc) (W := W) (a := aS) (len := ns) (cap := cs) (d := w0.1) (p := w0.2) ⟨m3, by simpa [Value.cells] using l0⟩
    obtain ⟨T, eT, _, _⟩ := DataW.trod_int Tryz.underlying3 j1
    obtain ⟨N, eN, _, _⟩ := DataW.trod_int Tryz.underlying3 j2
    obtain ⟨X, eX, _, _⟩ := DataW.trod_int Tryz.underlying3 l1
    obtain ⟨C, eC, _, _⟩ := DataW.trod_int Tryz.underlying3 f3
    simp at eT eN eX eC
    subst eT eN eX eC
    exact ⟨ap, np, cp, ab, nb, cb, al, nl, cl, T, N, aS, ns, cs, X, C, ps, bs, ls, ss, rfl, ⟨e1.symm, e2.symm, e3.symm, e4.symm⟩, ⟨r1, r2, r3, r4⟩, ⟨q1, q2, q3, q4⟩, s2, s3, s4⟩

end Go.Proofs.YtplocbpngikohaaGreat
namespace Go.Proofs.YtplocbpngikohaaGreat
open Go.ChangeShapes Go.WideShapes Go.ChangeAt Go.RowKit Go.Joins Go.Deep

set_option maxRecDepth 100000 in
theorem openOneAd {H : Type} {enc : TypeId × Value → H} {W : World} {r : Reach} {b0 : Nat} {v : Value} {d : DataW H} {p : List MemPlace} (hv : Value.okWide Tryz.prog W r b0 52 v)
    (h : DataW.Trod enc Tryz.prog W 0 (fun _ => true) true 52 v d p) : ∃ q : Ad, v = .agg #[.bool q.s, .int .i64 q.H.toInt, .int .i64 q.L.toInt] := by
  obtain ⟨v0, v1, v2, y0, y1, y2, n, rfl, rfl, rfl, t0, t1, t2⟩ := open_agg3 Tryz.underlying52 (by kernel_rfl) (by kernel_rfl) hv h
  obtain ⟨s, e0, _⟩ := DataW.trod_bool Tryz.underlying4 t0
  obtain ⟨x, e1, _, wx⟩ := DataW.trod_int Tryz.underlying3 t1
  obtain ⟨y, e2, _, wy⟩ := DataW.trod_int Tryz.underlying3 t2
  simp at e0 e1 e2
  subst e0 e1 e2
  exact ⟨⟨s, BitVec.ofInt 64 x, BitVec.ofInt 64 y⟩, by rw [wfA wx, wfA wy]⟩

set_option maxRecDepth 10000 in
set_option maxHeartbeats 8000000 in
theorem lawHeld (ap : Option Addr) (np cp : Nat) (ab : Option Addr) (nb cb : Nat) (al : Option Addr) (nl cl : Nat) (T N : Int) (aS : Option Addr) (ns cs : Nat) (X C : Int) (ps : List Pl) (bs : List Bk) (ls : List Ls) (ss : List Ss) (ad : Ad) (w : World) (hnp : np = ps.length) (hnb : nb = bs.length) (hnl : nl = ls.length) (hns : ns = ss.length) (hP : RowG KPl w ap ps) (hK : RowG KBk w ab bs) (hL : RowG KLs w al ls) (hS : RowG KSs w aS ss) (h9p : np ≤ 9223372036854775807) (h9b : nb ≤ 9223372036854775807) (h9l : nl ≤ 9223372036854775807) (h9s : ns ≤ 9223372036854775807) (hsb : ∀ q ∈ bs, q.t.size ≤ 9223372036854775807) (hsl : ∀ q ∈ ls, q.t.size ≤ 9223372036854775807) (hss : ∀ q ∈ ss, q.t.size ≤ 9223372036854775807) :
    Calls Tryz.prog 4 #[.agg #[.slice ap np cp, .slice ab nb cb, .slice al nl cl, .int .i64 T, .int .i64 N, .slice aS ns cs, .int .i64 X, .int .i64 C], .agg #[.bool ad.s, .int .i64 ad.H.toInt, .int .i64 ad.L.toInt]] w fun e w' => e = .returned (.bool true) ∧ Below w.heap.size w w' := by
  have HSz := hidP (fun W h => szState_any ap np cp ab nb cb al nl cl T N aS ns cs X C ps bs ls ss W hnp hnb hnl hns (hK.later h) (hL.later h) (hS.later h) h9p h9b h9l h9s hsb hsl hss)
  by_cases ht : totS ps bs ls ss ≤ 1048576
  · rw [szT_yes ht] at HSz
    have n1 := totP_nn ps bs
    have n2 := totB_nn ls
    have n3 := totD_nn ss
    have hlp : np ≤ 1048576 := by unfold totS at ht; unfold totP at ht; omega
    have hlb : nb ≤ 1048576 := by unfold totS at ht; unfold totP at ht; omega
    have hll : nl ≤ 1048576 := by unfold totS at ht; unfold totB at ht; omega
    have hls : ns ≤ 1048576 := by unfold totS at ht; unfold totD at ht; omega
    have HTo := hidP (fun W h => toState_any ap np cp ab nb cb al nl cl T N aS ns cs X C ps bs ls ss W hnp hnb hnl hns (hP.later h) (hK.later h) (hL.later h) (hS.later h) hlp hlb hll hls)
    have HEq := hidP (fun W g h i j g' h' i' j' e1 e2 e3 e4 e5 e6 e7 e8 => eqState_same (some ⟨g, 0, none⟩) np np (some ⟨h, 0, none⟩) nb nb (some ⟨i, 0, none⟩) nl nl T N (some ⟨j, 0, none⟩) ns ns X C ps bs ls ss (some ⟨g', 0, none⟩) np (some ⟨h', 0, none⟩) nb (some ⟨i', 0, none⟩) nl (some ⟨j', 0, none⟩) ns W hnp hnb hnl hns e1 e2 e3 e4 e5 e6 e7 e8 (by omega) (by omega) (by omega) (by omega))
    have HTa := hidP (toAddr_any ad.s ad.H.toInt ad.L.toInt)
    have HSp := hidP (fun W g h i j e1 e2 e3 e4 => sHeld_any (some ⟨g, 0, none⟩) np np (some ⟨h, 0, none⟩) nb nb (some ⟨i, 0, none⟩) nl nl T N (some ⟨j, 0, none⟩) ns ns X C ps bs ls ss ad W hnp hnb hnl hns e1 e2 e3 e4 hlp hlb hll hls hsb hsl)
    have HIm := hidP (fun W g h i j e1 e2 e3 e4 => iHeld_any (some ⟨g, 0, none⟩) np np (some ⟨h, 0, none⟩) nb nb (some ⟨i, 0, none⟩) nl nl T N (some ⟨j, 0, none⟩) ns ns X C ps bs ls ss ad W hnp hnb hnl hns e1 e2 e3 e4 hlp hlb hll hls hsb hsl)
    generalize hdB (stB ps bs ls T N ss X C) ls ad = R at *
    obtain ⟨R1, R2⟩ := R
    try dsimp only at HSp HIm
    have tR := txt_eq R1
    have d1 : decide (1048576 - totS ps bs ls ss < 0) = false := decide_eq_false (by omega)
    have d2 : ¬ (1048576 - totS ps bs ls ss < 0) := by omega
    generalize 1048576 - totS ps bs ls ss = z at *
    clear hP hK hL hS hnp hnb hnl hns hsb hsl hss ht n1 n2 n3
    go_enter Tryz.func4, Tryz.ntmps4
    go_wp2_with fail
    obtain ⟨lb0_W1, lb1_W1, lb2_W1, lb3_W1, lb4_W1, lb5_W1, lb6_W1, lb7_W1⟩ := bx8 w 33 (.slice ap np cp) (.slice ab nb cb) (.slice al nl cl) (.int .i64 T) (.int .i64 N) (.slice aS ns cs) (.int .i64 X) (.int .i64 C)
    have lbF_W1 : ∀ o, (w.alloc (.cells #[.slice ap np cp, .slice ab nb cb, .slice al nl cl, .int .i64 T, .int .i64 N, .slice aS ns cs, .int .i64 X, .int .i64 C] 33)).frozen? ⟨w.heap.size, o, none⟩ = false := fun o => by simp [go_sem]
    have lbL_W1 : w.heap.size < (w.alloc (.cells #[.slice ap np cp, .slice ab nb cb, .slice al nl cl, .int .i64 T, .int .i64 N, .slice aS ns cs, .int .i64 X, .int .i64 C] 33)).heap.size := by simp
    have ab_W1 := alloc_below w (.cells #[.slice ap np cp, .slice ab nb cb, .slice al nl cl, .int .i64 T, .int .i64 N, .slice aS ns cs, .int .i64 X, .int .i64 C] 33)
    have as_W1 : Hid ((w.alloc (.cells #[.slice ap np cp, .slice ab nb cb, .slice al nl cl, .int .i64 T, .int .i64 N, .slice aS ns cs, .int .i64 X, .int .i64 C] 33)).heap.size = w.heap.size + 1) := hidP (by simp)
    generalize w.alloc (.cells #[.slice ap np cp, .slice ab nb cb, .slice al nl cl, .int .i64 T, .int .i64 N, .slice aS ns cs, .int .i64 X, .int .i64 C] 33) = W1 at *
    have acc_W1 := hidP (ab_W1)
    have sz_W1 : Hid (w.heap.size ≤ W1.heap.size) := hidP ab_W1.size
    clear ab_W1 
    obtain ⟨la0_W2, la1_W2, la2_W2⟩ := bx3 W1 52 (.bool ad.s) (.int .i64 ad.H.toInt) (.int .i64 ad.L.toInt)
    have laF_W2 : ∀ o, (W1.alloc (.cells #[.bool ad.s, .int .i64 ad.H.toInt, .int .i64 ad.L.toInt] 52)).frozen? ⟨W1.heap.size, o, none⟩ = false := fun o => by simp [go_sem]
    have laL_W2 : W1.heap.size < (W1.alloc (.cells #[.bool ad.s, .int .i64 ad.H.toInt, .int .i64 ad.L.toInt] 52)).heap.size := by simp
    have ab_W2 := alloc_below W1 (.cells #[.bool ad.s, .int .i64 ad.H.toInt, .int .i64 ad.L.toInt] 52)
    have as_W2 : Hid ((W1.alloc (.cells #[.bool ad.s, .int .i64 ad.H.toInt, .int .i64 ad.L.toInt] 52)).heap.size = W1.heap.size + 1) := hidP (by simp)
    generalize W1.alloc (.cells #[.bool ad.s, .int .i64 ad.H.toInt, .int .i64 ad.L.toInt] 52) = W2 at *
    have lb0_W2 := (ab_W2.cell lbL_W1).trans lb0_W1
    have lb1_W2 := (ab_W2.cell lbL_W1).trans lb1_W1
    have lb2_W2 := (ab_W2.cell lbL_W1).trans lb2_W1
    have lb3_W2 := (ab_W2.cell lbL_W1).trans lb3_W1
    have lb4_W2 := (ab_W2.cell lbL_W1).trans lb4_W1
    have lb5_W2 := (ab_W2.cell lbL_W1).trans lb5_W1
    have lb6_W2 := (ab_W2.cell lbL_W1).trans lb6_W1
    have lb7_W2 := (ab_W2.cell lbL_W1).trans lb7_W1
    have lbF_W2 : ∀ o, W2.frozen? ⟨w.heap.size, o, none⟩ = false := fun o => (ab_W2.frozen lbL_W1).trans (lbF_W1 o)
    have lbL_W2 : w.heap.size < W2.heap.size := Nat.lt_of_lt_of_le lbL_W1 ab_W2.size
    have acc_W2 := hidP (acc_W1.out.trans (ab_W2.mono acc_W1.out.size))
    have sz_W2 : Hid (W1.heap.size ≤ W2.heap.size) := hidP ab_W2.size
    clear ab_W2 lb0_W1 lb1_W1 lb2_W1 lb3_W1 lb4_W1 lb5_W1 lb6_W1 lb7_W1 lbF_W1 lbL_W1 acc_W1
    simp only [as_W1.out] at la0_W2 la1_W2 la2_W2 laF_W2 laL_W2
    refine (HSz.out _ acc_W2.out).mono ?_
    rintro e w3 ⟨rfl, hb3⟩
    have lb0_w3 := (hb3.cell lbL_W2).trans lb0_W2
    have lb1_w3 := (hb3.cell lbL_W2).trans lb1_W2
    have lb2_w3 := (hb3.cell lbL_W2).trans lb2_W2
    have lb3_w3 := (hb3.cell lbL_W2).trans lb3_W2
    have lb4_w3 := (hb3.cell lbL_W2).trans lb4_W2
    have lb5_w3 := (hb3.cell lbL_W2).trans lb5_W2
    have lb6_w3 := (hb3.cell lbL_W2).trans lb6_W2
    have lb7_w3 := (hb3.cell lbL_W2).trans lb7_W2
    have lbF_w3 : ∀ o, w3.frozen? ⟨w.heap.size, o, none⟩ = false := fun o => (hb3.frozen lbL_W2).trans (lbF_W2 o)
    have lbL_w3 : w.heap.size < w3.heap.size := Nat.lt_of_lt_of_le lbL_W2 hb3.size
    have la0_w3 := (hb3.cell laL_W2).trans la0_W2
    have la1_w3 := (hb3.cell laL_W2).trans la1_W2
    have la2_w3 := (hb3.cell laL_W2).trans la2_W2
    have laF_w3 : ∀ o, w3.frozen? ⟨(w.heap.size + 1), o, none⟩ = false := fun o => (hb3.frozen laL_W2).trans (laF_W2 o)
    have laL_w3 : (w.heap.size + 1) < w3.heap.size := Nat.lt_of_lt_of_le laL_W2 hb3.size
    have acc_w3 := hidP (acc_W2.out.trans (hb3.mono acc_W2.out.size))
    have sz_w3 : Hid (W2.heap.size ≤ w3.heap.size) := hidP hb3.size
    clear hb3 lb0_W2 lb1_W2 lb2_W2 lb3_W2 lb4_W2 lb5_W2 lb6_W2 lb7_W2 lbF_W2 lbL_W2 la0_W2 la1_W2 la2_W2 laF_W2 laL_W2 acc_W2
    go_upto_region 5 with fail
    go_cut [6, 7] (fun t6 t7 Y => t6 = .string R1 ∧ t7 = .int .i64 R2 ∧ Below w3.heap.size w3 Y)
    case first =>
      have HSx : Hid (∀ x, Below w3.heap.size w3 x → (x.cell? ⟨w.heap.size, 0, none⟩ = some (.slice ap np cp) ∧ x.cell? ⟨w.heap.size, 1, none⟩ = some (.slice ab nb cb) ∧ x.cell? ⟨w.heap.size, 2, none⟩ = some (.slice al nl cl) ∧ x.cell? ⟨w.heap.size, 3, none⟩ = some (.int .i64 T) ∧ x.cell? ⟨w.heap.size, 4, none⟩ = some (.int .i64 N) ∧ x.cell? ⟨w.heap.size, 5, none⟩ = some (.slice aS ns cs) ∧ x.cell? ⟨w.heap.size, 6, none⟩ = some (.int .i64 X) ∧ x.cell? ⟨w.heap.size, 7, none⟩ = some (.int .i64 C) ∧ x.cell? ⟨w.heap.size + 1, 0, none⟩ = some (.bool ad.s) ∧ x.cell? ⟨w.heap.size + 1, 1, none⟩ = some (.int .i64 ad.H.toInt) ∧ x.cell? ⟨w.heap.size + 1, 2, none⟩ = some (.int .i64 ad.L.toInt) ∧ Below w3.heap.size w3 x)) := hidP fun x h =>
        ⟨(h.cell lbL_w3).trans lb0_w3, (h.cell lbL_w3).trans lb1_w3, (h.cell lbL_w3).trans lb2_w3, (h.cell lbL_w3).trans lb3_w3, (h.cell lbL_w3).trans lb4_w3, (h.cell lbL_w3).trans lb5_w3, (h.cell lbL_w3).trans lb6_w3, (h.cell lbL_w3).trans lb7_w3, (h.cell laL_w3).trans la0_w3, (h.cell laL_w3).trans la1_w3, (h.cell laL_w3).trans la2_w3, h⟩
      refine wp_region_held_drew (S := (fun x => x.cell? ⟨w.heap.size, 0, none⟩ = some (.slice ap np cp) ∧ x.cell? ⟨w.heap.size, 1, none⟩ = some (.slice ab nb cb) ∧ x.cell? ⟨w.heap.size, 2, none⟩ = some (.slice al nl cl) ∧ x.cell? ⟨w.heap.size, 3, none⟩ = some (.int .i64 T) ∧ x.cell? ⟨w.heap.size, 4, none⟩ = some (.int .i64 N) ∧ x.cell? ⟨w.heap.size, 5, none⟩ = some (.slice aS ns cs) ∧ x.cell? ⟨w.heap.size, 6, none⟩ = some (.int .i64 X) ∧ x.cell? ⟨w.heap.size, 7, none⟩ = some (.int .i64 C) ∧ x.cell? ⟨w.heap.size + 1, 0, none⟩ = some (.bool ad.s) ∧ x.cell? ⟨w.heap.size + 1, 1, none⟩ = some (.int .i64 ad.H.toInt) ∧ x.cell? ⟨w.heap.size + 1, 2, none⟩ = some (.int .i64 ad.L.toInt) ∧ Below w3.heap.size w3 x)) (by kernel_rfl) ?_ (fun hHeld => ?_)
      · try dsimp only
        exact HSx.out _ (Below.refl _ _).drew
      refine tkA 0 17 (v := ?_) rfl (by kernel_rfl) (fun _ _ _ h => h) (by rfl) ?_ (by assumption) ?_; rotate_left; · (intro w hSw; (try dsimp only at hSw); go_simp; try with_reducible rfl)
      simp only [pa]
      refine tkA 2 19 (v := ?_) rfl (by kernel_rfl) (fun _ _ _ h => h) (by rfl) ?_ (by assumption) ?_; rotate_left; · (intro w hSw; (try dsimp only at hSw); go_simp; try with_reducible rfl)
      simp only [pa]
      refine wpAnyH_ready (rs := [1]) (by kernel_rfl) (by simp) ?_
      refine AllReadyH.cons rfl (fun K hK => ?_) AllReadyH.nil
      go_simp
      go_wp2_with (first | (go_at_call 7; refine (HTo.out _ (acc_w3.out.trans ((hHeld.2.2.2.2.2.2.2.2.2.2.2).mono acc_w3.out.size))).mono ?_; rintro e w4 ⟨g4, h4, i4, j4, rfl, og4, oh4, oi4, oj4, hb4⟩; have b4 := (hHeld.2.2.2.2.2.2.2.2.2.2.2).trans (hb4.mono (hHeld.2.2.2.2.2.2.2.2.2.2.2).size)))
      refine hK.out _ _ ?_ (fun hHeld => ?_)
      · try dsimp only
        exact HSx.out _ b4
      clear hK K
      refine wpAnyH_ready (rs := [3]) (by kernel_rfl) (by simp) ?_
      refine AllReadyH.cons rfl (fun K hK => ?_) AllReadyH.nil
      go_simp
      go_wp2_with (first | (go_at_call 11; refine (HTa.out _).mono ?_; rintro e w5 ⟨rfl, hb5⟩; have b5 := (hHeld.2.2.2.2.2.2.2.2.2.2.2).trans (hb5.mono (hHeld.2.2.2.2.2.2.2.2.2.2.2).size)))
      refine hK.out _ _ ?_ (fun hHeld => ?_)
      · try dsimp only
        exact HSx.out _ b5
      clear hK K
      refine wpAnyH_ready (rs := [4]) (by kernel_rfl) (by simp) ?_
      refine AllReadyH.cons rfl (fun K hK => ?_) AllReadyH.nil
      go_simp
      go_wp2_with (first | (go_at_call 10; refine (HSp.out _ g4 h4 i4 j4 (RowG.later og4.row hb5) (RowG.later oh4.row hb5) (RowG.later oi4.row hb5) (RowG.later oj4.row hb5)).mono ?_; rintro e w6 ⟨rfl, hb6⟩; have b6 := (hHeld.2.2.2.2.2.2.2.2.2.2.2).trans (hb6.mono (hHeld.2.2.2.2.2.2.2.2.2.2.2).size)))
      refine hK.out _ _ ?_ (fun hHeld => ?_)
      · try dsimp only
        exact HSx.out _ b6
      clear hK K
      refine tkA 5 16 (v := ?_) rfl (by kernel_rfl) (fun _ _ _ h => h) (by rfl) ?_ (by assumption) ?_; rotate_left; · (intro w hSw; (try dsimp only at hSw); go_simp; try with_reducible rfl)
      simp only [pa]
      refine tkA 6 22 (v := ?_) rfl (by kernel_rfl) (fun _ _ _ h => h) (by rfl) ?_ (by assumption) ?_; rotate_left; · (intro w hSw; (try dsimp only at hSw); go_simp; try with_reducible rfl)
      simp only [pa]
      refine tkA 7 23 (v := ?_) rfl (by kernel_rfl) (fun _ _ _ h => h) (by rfl) ?_ (by assumption) ?_; rotate_left; · (intro w hSw; (try dsimp only at hSw); go_simp; try with_reducible rfl)
      simp only [pa]
      refine tkA 8 6 (v := ?_) rfl (by kernel_rfl) (fun _ _ _ h => h) (by rfl) ?_ (by assumption) ?_; rotate_left; · (intro w hSw; (try dsimp only at hSw); go_simp; try with_reducible rfl)
      simp only [pa]
      refine tkA 9 7 (v := ?_) rfl (by kernel_rfl) (fun _ _ _ h => h) (by rfl) ?_ (by assumption) ?_; rotate_left; · (intro w hSw; (try dsimp only at hSw); go_simp; try with_reducible rfl)
      simp only [pa]
      have HE := hidP (hHeld.2.2.2.2.2.2.2.2.2.2.2)
      refine wpAnyH_done (by kernel_rfl) ?_ _
      clear hHeld
      go_wp2_with fail
      go_meet
      exact ⟨rfl, rfl, HE.out⟩
    case rest =>
      obtain ⟨rfl, rfl, hX⟩ := hcut
      have lb0_wc := (hX.cell lbL_w3).trans lb0_w3
      have lb1_wc := (hX.cell lbL_w3).trans lb1_w3
      have lb2_wc := (hX.cell lbL_w3).trans lb2_w3
      have lb3_wc := (hX.cell lbL_w3).trans lb3_w3
      have lb4_wc := (hX.cell lbL_w3).trans lb4_w3
      have lb5_wc := (hX.cell lbL_w3).trans lb5_w3
      have lb6_wc := (hX.cell lbL_w3).trans lb6_w3
      have lb7_wc := (hX.cell lbL_w3).trans lb7_w3
      have lbF_wc : ∀ o, wc.frozen? ⟨w.heap.size, o, none⟩ = false := fun o => (hX.frozen lbL_w3).trans (lbF_w3 o)
      have lbL_wc : w.heap.size < wc.heap.size := Nat.lt_of_lt_of_le lbL_w3 hX.size
      have la0_wc := (hX.cell laL_w3).trans la0_w3
      have la1_wc := (hX.cell laL_w3).trans la1_w3
      have la2_wc := (hX.cell laL_w3).trans la2_w3
      have laF_wc : ∀ o, wc.frozen? ⟨(w.heap.size + 1), o, none⟩ = false := fun o => (hX.frozen laL_w3).trans (laF_w3 o)
      have laL_wc : (w.heap.size + 1) < wc.heap.size := Nat.lt_of_lt_of_le laL_w3 hX.size
      have acc_wc := hidP (acc_w3.out.trans (hX.mono acc_w3.out.size))
      have sz_wc : Hid (w3.heap.size ≤ wc.heap.size) := hidP hX.size
      clear hX lb0_w3 lb1_w3 lb2_w3 lb3_w3 lb4_w3 lb5_w3 lb6_w3 lb7_w3 lbF_w3 lbL_w3 la0_w3 la1_w3 la2_w3 laF_w3 laL_w3 acc_w3
      go_wp2_with fail
      refine (HTo.out _ acc_wc.out).mono ?_
      rintro e w5 ⟨g5, h5, i5, j5, rfl, og5, oh5, oi5, oj5, hb5⟩
      have OP5 := hidP og5
      have OQ5 := hidP oh5
      have OR5 := hidP oi5
      have OS5 := hidP oj5
      clear og5 oh5 oi5 oj5
      have lb0_w5 := (hb5.cell lbL_wc).trans lb0_wc
      have lb1_w5 := (hb5.cell lbL_wc).trans lb1_wc
      have lb2_w5 := (hb5.cell lbL_wc).trans lb2_wc
      have lb3_w5 := (hb5.cell lbL_wc).trans lb3_wc
      have lb4_w5 := (hb5.cell lbL_wc).trans lb4_wc
      have lb5_w5 := (hb5.cell lbL_wc).trans lb5_wc
      have lb6_w5 := (hb5.cell lbL_wc).trans lb6_wc
      have lb7_w5 := (hb5.cell lbL_wc).trans lb7_wc
      have lbF_w5 : ∀ o, w5.frozen? ⟨w.heap.size, o, none⟩ = false := fun o => (hb5.frozen lbL_wc).trans (lbF_wc o)
      have lbL_w5 : w.heap.size < w5.heap.size := Nat.lt_of_lt_of_le lbL_wc hb5.size
      have la0_w5 := (hb5.cell laL_wc).trans la0_wc
      have la1_w5 := (hb5.cell laL_wc).trans la1_wc
      have la2_w5 := (hb5.cell laL_wc).trans la2_wc
      have laF_w5 : ∀ o, w5.frozen? ⟨(w.heap.size + 1), o, none⟩ = false := fun o => (hb5.frozen laL_wc).trans (laF_wc o)
      have laL_w5 : (w.heap.size + 1) < w5.heap.size := Nat.lt_of_lt_of_le laL_wc hb5.size
      have acc_w5 := hidP (acc_wc.out.trans (hb5.mono acc_wc.out.size))
      have sz_w5 : Hid (wc.heap.size ≤ w5.heap.size) := hidP hb5.size
      clear hb5 lb0_wc lb1_wc lb2_wc lb3_wc lb4_wc lb5_wc lb6_wc lb7_wc lbF_wc lbL_wc la0_wc la1_wc la2_wc laF_wc laL_wc acc_wc
      have oP5_w5 := hidP (OP5.out)
      have oQ5_w5 := hidP (OQ5.out)
      have oR5_w5 := hidP (OR5.out)
      have oS5_w5 := hidP (OS5.out)
      clear OP5 OQ5 OR5 OS5
      go_wp2_with fail
      obtain ⟨xa0_W6, xa1_W6, xa2_W6, xa3_W6, xa4_W6, xa5_W6, xa6_W6, xa7_W6⟩ := bx8 w5 47 (.slice (some ⟨g5, 0, none⟩) np np) (.slice (some ⟨h5, 0, none⟩) nb nb) (.slice (some ⟨i5, 0, none⟩) nl nl) (.int .i64 T) (.int .i64 N) (.slice (some ⟨j5, 0, none⟩) ns ns) (.int .i64 X) (.int .i64 C)
      have xaF_W6 : ∀ o, (w5.alloc (.cells #[.slice (some ⟨g5, 0, none⟩) np np, .slice (some ⟨h5, 0, none⟩) nb nb, .slice (some ⟨i5, 0, none⟩) nl nl, .int .i64 T, .int .i64 N, .slice (some ⟨j5, 0, none⟩) ns ns, .int .i64 X, .int .i64 C] 47)).frozen? ⟨w5.heap.size, o, none⟩ = false := fun o => by simp [go_sem]
      have xaL_W6 : w5.heap.size < (w5.alloc (.cells #[.slice (some ⟨g5, 0, none⟩) np np, .slice (some ⟨h5, 0, none⟩) nb nb, .slice (some ⟨i5, 0, none⟩) nl nl, .int .i64 T, .int .i64 N, .slice (some ⟨j5, 0, none⟩) ns ns, .int .i64 X, .int .i64 C] 47)).heap.size := by simp
      have ab_W6 := alloc_below w5 (.cells #[.slice (some ⟨g5, 0, none⟩) np np, .slice (some ⟨h5, 0, none⟩) nb nb, .slice (some ⟨i5, 0, none⟩) nl nl, .int .i64 T, .int .i64 N, .slice (some ⟨j5, 0, none⟩) ns ns, .int .i64 X, .int .i64 C] 47)
      have as_W6 : Hid ((w5.alloc (.cells #[.slice (some ⟨g5, 0, none⟩) np np, .slice (some ⟨h5, 0, none⟩) nb nb, .slice (some ⟨i5, 0, none⟩) nl nl, .int .i64 T, .int .i64 N, .slice (some ⟨j5, 0, none⟩) ns ns, .int .i64 X, .int .i64 C] 47)).heap.size = w5.heap.size + 1) := hidP (by simp)
      generalize w5.alloc (.cells #[.slice (some ⟨g5, 0, none⟩) np np, .slice (some ⟨h5, 0, none⟩) nb nb, .slice (some ⟨i5, 0, none⟩) nl nl, .int .i64 T, .int .i64 N, .slice (some ⟨j5, 0, none⟩) ns ns, .int .i64 X, .int .i64 C] 47) = W6 at *
      have lb0_W6 := (ab_W6.cell lbL_w5).trans lb0_w5
      have lb1_W6 := (ab_W6.cell lbL_w5).trans lb1_w5
      have lb2_W6 := (ab_W6.cell lbL_w5).trans lb2_w5
      have lb3_W6 := (ab_W6.cell lbL_w5).trans lb3_w5
      have lb4_W6 := (ab_W6.cell lbL_w5).trans lb4_w5
      have lb5_W6 := (ab_W6.cell lbL_w5).trans lb5_w5
      have lb6_W6 := (ab_W6.cell lbL_w5).trans lb6_w5
      have lb7_W6 := (ab_W6.cell lbL_w5).trans lb7_w5
      have lbF_W6 : ∀ o, W6.frozen? ⟨w.heap.size, o, none⟩ = false := fun o => (ab_W6.frozen lbL_w5).trans (lbF_w5 o)
      have lbL_W6 : w.heap.size < W6.heap.size := Nat.lt_of_lt_of_le lbL_w5 ab_W6.size
      have la0_W6 := (ab_W6.cell laL_w5).trans la0_w5
      have la1_W6 := (ab_W6.cell laL_w5).trans la1_w5
      have la2_W6 := (ab_W6.cell laL_w5).trans la2_w5
      have laF_W6 : ∀ o, W6.frozen? ⟨(w.heap.size + 1), o, none⟩ = false := fun o => (ab_W6.frozen laL_w5).trans (laF_w5 o)
      have laL_W6 : (w.heap.size + 1) < W6.heap.size := Nat.lt_of_lt_of_le laL_w5 ab_W6.size
      have oP5_W6 := hidP (OwnG.later oP5_w5.out ab_W6)
      have oQ5_W6 := hidP (OwnG.later oQ5_w5.out ab_W6)
      have oR5_W6 := hidP (OwnG.later oR5_w5.out ab_W6)
      have oS5_W6 := hidP (OwnG.later oS5_w5.out ab_W6)
      have acc_W6 := hidP (acc_w5.out.trans (ab_W6.mono acc_w5.out.size))
      have sz_W6 : Hid (w5.heap.size ≤ W6.heap.size) := hidP ab_W6.size
      clear ab_W6 lb0_w5 lb1_w5 lb2_w5 lb3_w5 lb4_w5 lb5_w5 lb6_w5 lb7_w5 lbF_w5 lbL_w5 la0_w5 la1_w5 la2_w5 laF_w5 laL_w5 oP5_w5 oQ5_w5 oR5_w5 oS5_w5 acc_w5
      have HSx : Hid (∀ x, Below W6.heap.size W6 x → (x.cell? ⟨w5.heap.size, 0, none⟩ = some (.slice (some ⟨g5, 0, none⟩) np np) ∧ x.cell? ⟨w5.heap.size, 1, none⟩ = some (.slice (some ⟨h5, 0, none⟩) nb nb) ∧ x.cell? ⟨w5.heap.size, 2, none⟩ = some (.slice (some ⟨i5, 0, none⟩) nl nl) ∧ x.cell? ⟨w5.heap.size, 3, none⟩ = some (.int .i64 T) ∧ x.cell? ⟨w5.heap.size, 4, none⟩ = some (.int .i64 N) ∧ x.cell? ⟨w5.heap.size, 5, none⟩ = some (.slice (some ⟨j5, 0, none⟩) ns ns) ∧ x.cell? ⟨w5.heap.size, 6, none⟩ = some (.int .i64 X) ∧ x.cell? ⟨w5.heap.size, 7, none⟩ = some (.int .i64 C) ∧ x.cell? ⟨w.heap.size + 1, 0, none⟩ = some (.bool ad.s) ∧ x.cell? ⟨w.heap.size + 1, 1, none⟩ = some (.int .i64 ad.H.toInt) ∧ x.cell? ⟨w.heap.size + 1, 2, none⟩ = some (.int .i64 ad.L.toInt) ∧ Below W6.heap.size W6 x)) := hidP fun x h =>
        ⟨(h.cell xaL_W6).trans xa0_W6, (h.cell xaL_W6).trans xa1_W6, (h.cell xaL_W6).trans xa2_W6, (h.cell xaL_W6).trans xa3_W6, (h.cell xaL_W6).trans xa4_W6, (h.cell xaL_W6).trans xa5_W6, (h.cell xaL_W6).trans xa6_W6, (h.cell xaL_W6).trans xa7_W6, (h.cell laL_W6).trans la0_W6, (h.cell laL_W6).trans la1_W6, (h.cell laL_W6).trans la2_W6, h⟩
      refine wp_region_held_drew (S := (fun x => x.cell? ⟨w5.heap.size, 0, none⟩ = some (.slice (some ⟨g5, 0, none⟩) np np) ∧ x.cell? ⟨w5.heap.size, 1, none⟩ = some (.slice (some ⟨h5, 0, none⟩) nb nb) ∧ x.cell? ⟨w5.heap.size, 2, none⟩ = some (.slice (some ⟨i5, 0, none⟩) nl nl) ∧ x.cell? ⟨w5.heap.size, 3, none⟩ = some (.int .i64 T) ∧ x.cell? ⟨w5.heap.size, 4, none⟩ = some (.int .i64 N) ∧ x.cell? ⟨w5.heap.size, 5, none⟩ = some (.slice (some ⟨j5, 0, none⟩) ns ns) ∧ x.cell? ⟨w5.heap.size, 6, none⟩ = some (.int .i64 X) ∧ x.cell? ⟨w5.heap.size, 7, none⟩ = some (.int .i64 C) ∧ x.cell? ⟨w.heap.size + 1, 0, none⟩ = some (.bool ad.s) ∧ x.cell? ⟨w.heap.size + 1, 1, none⟩ = some (.int .i64 ad.H.toInt) ∧ x.cell? ⟨w.heap.size + 1, 2, none⟩ = some (.int .i64 ad.L.toInt) ∧ Below W6.heap.size W6 x)) (by kernel_rfl) ?_ (fun hHeld => ?_)
      · try dsimp only
        exact HSx.out _ ((Below.refl _ _).drew)
      refine tkA 0 27 (v := ?_) rfl (by kernel_rfl) (fun _ _ _ h => h) (by rfl) ?_ (by assumption) ?_; rotate_left; · (intro w hSw; (try dsimp only at hSw); go_simp; try with_reducible rfl)
      simp only [pa]
      refine tkA 1 28 (v := ?_) rfl (by kernel_rfl) (fun _ _ _ h => h) (by rfl) ?_ (by assumption) ?_; rotate_left; · (intro w hSw; (try dsimp only at hSw); go_simp; try with_reducible rfl)
      simp only [pa]
      refine wpAnyH_ready (rs := [2]) (by kernel_rfl) (by simp) ?_
      refine AllReadyH.cons rfl (fun K hK => ?_) AllReadyH.nil
      go_simp
      go_wp2_with (first | (go_at_call 11; refine (HTa.out _).mono ?_; rintro e w7 ⟨rfl, hb7⟩; have b7 := (hHeld.2.2.2.2.2.2.2.2.2.2.2).trans (hb7.mono (hHeld.2.2.2.2.2.2.2.2.2.2.2).size)))
      refine hK.out _ _ ?_ (fun hHeld => ?_)
      · try dsimp only
        exact HSx.out _ b7
      clear hK K
      refine wpAnyH_ready (rs := [3]) (by kernel_rfl) (by simp) ?_
      refine AllReadyH.cons rfl (fun K hK => ?_) AllReadyH.nil
      go_simp
      go_wp2_with (first | (go_at_call 12; refine (HIm.out _ g5 h5 i5 j5 (oP5_W6.out.row.later (hHeld.2.2.2.2.2.2.2.2.2.2.2)) (oQ5_W6.out.row.later (hHeld.2.2.2.2.2.2.2.2.2.2.2)) (oR5_W6.out.row.later (hHeld.2.2.2.2.2.2.2.2.2.2.2)) (oS5_W6.out.row.later (hHeld.2.2.2.2.2.2.2.2.2.2.2))).mono ?_; rintro e w8 ⟨rfl, hb8⟩; have b8 := (hHeld.2.2.2.2.2.2.2.2.2.2.2).trans (hb8.mono (hHeld.2.2.2.2.2.2.2.2.2.2.2).size)))
      refine hK.out _ _ ?_ (fun hHeld => ?_)
      · try dsimp only
        exact HSx.out _ b8
      clear hK K
      refine tkA 4 26 (v := ?_) rfl (by kernel_rfl) (fun _ _ _ h => h) (by rfl) ?_ (by assumption) ?_; rotate_left; · (intro w hSw; (try dsimp only at hSw); go_simp; try with_reducible rfl)
      simp only [pa]
      refine tkA 5 31 (v := ?_) rfl (by kernel_rfl) (fun _ _ _ h => h) (by rfl) ?_ (by assumption) ?_; rotate_left; · (intro w hSw; (try dsimp only at hSw); go_simp; try with_reducible rfl)
      simp only [pa]
      refine tkA 6 32 (v := ?_) rfl (by kernel_rfl) (fun _ _ _ h => h) (by rfl) ?_ (by assumption) ?_; rotate_left; · (intro w hSw; (try dsimp only at hSw); go_simp; try with_reducible rfl)
      simp only [pa]
      refine tkA 7 9 (v := ?_) rfl (by kernel_rfl) (fun _ _ _ h => h) (by rfl) ?_ (by assumption) ?_; rotate_left; · (intro w hSw; (try dsimp only at hSw); go_simp; try with_reducible rfl)
      simp only [pa]
      refine tkA 8 10 (v := ?_) rfl (by kernel_rfl) (fun _ _ _ h => h) (by rfl) ?_ (by assumption) ?_; rotate_left; · (intro w hSw; (try dsimp only at hSw); go_simp; try with_reducible rfl)
      simp only [pa]
      have HE := hidP (hHeld.2.2.2.2.2.2.2.2.2.2.2)
      refine wpAnyH_done (by kernel_rfl) ?_ _
      clear hHeld
      have hb8' := HE.out
      clear HE hb7 hb8 b7 b8 HSx
      have lb0_w8 := (hb8'.cell lbL_W6).trans lb0_W6
      have lb1_w8 := (hb8'.cell lbL_W6).trans lb1_W6
      have lb2_w8 := (hb8'.cell lbL_W6).trans lb2_W6
      have lb3_w8 := (hb8'.cell lbL_W6).trans lb3_W6
      have lb4_w8 := (hb8'.cell lbL_W6).trans lb4_W6
      have lb5_w8 := (hb8'.cell lbL_W6).trans lb5_W6
      have lb6_w8 := (hb8'.cell lbL_W6).trans lb6_W6
      have lb7_w8 := (hb8'.cell lbL_W6).trans lb7_W6
      have lbF_w8 : ∀ o, w8.frozen? ⟨w.heap.size, o, none⟩ = false := fun o => (hb8'.frozen lbL_W6).trans (lbF_W6 o)
      have lbL_w8 : w.heap.size < w8.heap.size := Nat.lt_of_lt_of_le lbL_W6 hb8'.size
      have la0_w8 := (hb8'.cell laL_W6).trans la0_W6
      have la1_w8 := (hb8'.cell laL_W6).trans la1_W6
      have la2_w8 := (hb8'.cell laL_W6).trans la2_W6
      have laF_w8 : ∀ o, w8.frozen? ⟨(w.heap.size + 1), o, none⟩ = false := fun o => (hb8'.frozen laL_W6).trans (laF_W6 o)
      have laL_w8 : (w.heap.size + 1) < w8.heap.size := Nat.lt_of_lt_of_le laL_W6 hb8'.size
      have xa0_w8 := (hb8'.cell xaL_W6).trans xa0_W6
      have xa1_w8 := (hb8'.cell xaL_W6).trans xa1_W6
      have xa2_w8 := (hb8'.cell xaL_W6).trans xa2_W6
      have xa3_w8 := (hb8'.cell xaL_W6).trans xa3_W6
      have xa4_w8 := (hb8'.cell xaL_W6).trans xa4_W6
      have xa5_w8 := (hb8'.cell xaL_W6).trans xa5_W6
      have xa6_w8 := (hb8'.cell xaL_W6).trans xa6_W6
      have xa7_w8 := (hb8'.cell xaL_W6).trans xa7_W6
      have xaF_w8 : ∀ o, w8.frozen? ⟨w5.heap.size, o, none⟩ = false := fun o => (hb8'.frozen xaL_W6).trans (xaF_W6 o)
      have xaL_w8 : w5.heap.size < w8.heap.size := Nat.lt_of_lt_of_le xaL_W6 hb8'.size
      have oP5_w8 := hidP (OwnG.later oP5_W6.out hb8')
      have oQ5_w8 := hidP (OwnG.later oQ5_W6.out hb8')
      have oR5_w8 := hidP (OwnG.later oR5_W6.out hb8')
      have oS5_w8 := hidP (OwnG.later oS5_W6.out hb8')
      have acc_w8 := hidP (acc_W6.out.trans (hb8'.mono acc_W6.out.size))
      have sz_w8 : Hid (W6.heap.size ≤ w8.heap.size) := hidP hb8'.size
      clear hb8' lb0_W6 lb1_W6 lb2_W6 lb3_W6 lb4_W6 lb5_W6 lb6_W6 lb7_W6 lbF_W6 lbL_W6 la0_W6 la1_W6 la2_W6 laF_W6 laL_W6 xa0_W6 xa1_W6 xa2_W6 xa3_W6 xa4_W6 xa5_W6 xa6_W6 xa7_W6 xaF_W6 xaL_W6 oP5_W6 oQ5_W6 oR5_W6 oS5_W6 acc_W6
      go_wp2_with fail
      have HSx : Hid (∀ x, Below w8.heap.size w8 x → (x.cell? ⟨w.heap.size, 0, none⟩ = some (.slice ap np cp) ∧ x.cell? ⟨w.heap.size, 1, none⟩ = some (.slice ab nb cb) ∧ x.cell? ⟨w.heap.size, 2, none⟩ = some (.slice al nl cl) ∧ x.cell? ⟨w.heap.size, 3, none⟩ = some (.int .i64 T) ∧ x.cell? ⟨w.heap.size, 4, none⟩ = some (.int .i64 N) ∧ x.cell? ⟨w.heap.size, 5, none⟩ = some (.slice aS ns cs) ∧ x.cell? ⟨w.heap.size, 6, none⟩ = some (.int .i64 X) ∧ x.cell? ⟨w.heap.size, 7, none⟩ = some (.int .i64 C) ∧ x.cell? ⟨w5.heap.size, 0, none⟩ = some (.slice (some ⟨g5, 0, none⟩) np np) ∧ x.cell? ⟨w5.heap.size, 1, none⟩ = some (.slice (some ⟨h5, 0, none⟩) nb nb) ∧ x.cell? ⟨w5.heap.size, 2, none⟩ = some (.slice (some ⟨i5, 0, none⟩) nl nl) ∧ x.cell? ⟨w5.heap.size, 3, none⟩ = some (.int .i64 T) ∧ x.cell? ⟨w5.heap.size, 4, none⟩ = some (.int .i64 N) ∧ x.cell? ⟨w5.heap.size, 5, none⟩ = some (.slice (some ⟨j5, 0, none⟩) ns ns) ∧ x.cell? ⟨w5.heap.size, 6, none⟩ = some (.int .i64 X) ∧ x.cell? ⟨w5.heap.size, 7, none⟩ = some (.int .i64 C) ∧ Below w8.heap.size w8 x)) := hidP fun x h =>
        ⟨(h.cell lbL_w8).trans lb0_w8, (h.cell lbL_w8).trans lb1_w8, (h.cell lbL_w8).trans lb2_w8, (h.cell lbL_w8).trans lb3_w8, (h.cell lbL_w8).trans lb4_w8, (h.cell lbL_w8).trans lb5_w8, (h.cell lbL_w8).trans lb6_w8, (h.cell lbL_w8).trans lb7_w8, (h.cell xaL_w8).trans xa0_w8, (h.cell xaL_w8).trans xa1_w8, (h.cell xaL_w8).trans xa2_w8, (h.cell xaL_w8).trans xa3_w8, (h.cell xaL_w8).trans xa4_w8, (h.cell xaL_w8).trans xa5_w8, (h.cell xaL_w8).trans xa6_w8, (h.cell xaL_w8).trans xa7_w8, h⟩
      refine wp_region_held_drew (S := (fun x => x.cell? ⟨w.heap.size, 0, none⟩ = some (.slice ap np cp) ∧ x.cell? ⟨w.heap.size, 1, none⟩ = some (.slice ab nb cb) ∧ x.cell? ⟨w.heap.size, 2, none⟩ = some (.slice al nl cl) ∧ x.cell? ⟨w.heap.size, 3, none⟩ = some (.int .i64 T) ∧ x.cell? ⟨w.heap.size, 4, none⟩ = some (.int .i64 N) ∧ x.cell? ⟨w.heap.size, 5, none⟩ = some (.slice aS ns cs) ∧ x.cell? ⟨w.heap.size, 6, none⟩ = some (.int .i64 X) ∧ x.cell? ⟨w.heap.size, 7, none⟩ = some (.int .i64 C) ∧ x.cell? ⟨w5.heap.size, 0, none⟩ = some (.slice (some ⟨g5, 0, none⟩) np np) ∧ x.cell? ⟨w5.heap.size, 1, none⟩ = some (.slice (some ⟨h5, 0, none⟩) nb nb) ∧ x.cell? ⟨w5.heap.size, 2, none⟩ = some (.slice (some ⟨i5, 0, none⟩) nl nl) ∧ x.cell? ⟨w5.heap.size, 3, none⟩ = some (.int .i64 T) ∧ x.cell? ⟨w5.heap.size, 4, none⟩ = some (.int .i64 N) ∧ x.cell? ⟨w5.heap.size, 5, none⟩ = some (.slice (some ⟨j5, 0, none⟩) ns ns) ∧ x.cell? ⟨w5.heap.size, 6, none⟩ = some (.int .i64 X) ∧ x.cell? ⟨w5.heap.size, 7, none⟩ = some (.int .i64 C) ∧ Below w8.heap.size w8 x)) (by kernel_rfl) ?_ (fun hHeld => ?_)
      · try dsimp only
        exact HSx.out _ ((Below.refl _ _).drew)
      refine tkA 0 41 (v := ?_) rfl (by kernel_rfl) (fun _ _ _ h => h) (by rfl) ?_ (by assumption) ?_; rotate_left; · (intro w hSw; (try dsimp only at hSw); go_simp; try with_reducible rfl)
      simp only [pa]
      refine tkA 1 42 (v := ?_) rfl (by kernel_rfl) (fun _ _ _ h => h) (by rfl) ?_ (by assumption) ?_; rotate_left; · (intro w hSw; (try dsimp only at hSw); go_simp; try with_reducible rfl)
      simp only [pa]
      refine wpAnyH_ready (rs := [2]) (by kernel_rfl) (by simp) ?_
      refine AllReadyH.cons rfl (fun K hK => ?_) AllReadyH.nil
      go_simp
      go_wp2_with (first | (go_at_call 7; refine (HTo.out _ (acc_w8.out.trans ((hHeld.2.2.2.2.2.2.2.2.2.2.2.2.2.2.2.2).mono acc_w8.out.size))).mono ?_; rintro e w9 ⟨g9, h9, i9, j9, rfl, og9, oh9, oi9, oj9, hb9⟩; have b9 := (hHeld.2.2.2.2.2.2.2.2.2.2.2.2.2.2.2.2).trans (hb9.mono (hHeld.2.2.2.2.2.2.2.2.2.2.2.2.2.2.2.2).size)))
      refine hK.out _ _ ?_ (fun hHeld => ?_)
      · try dsimp only
        exact HSx.out _ b9
      clear hK K
      refine wpAnyH_ready (rs := [3]) (by kernel_rfl) (by simp) ?_
      refine AllReadyH.cons rfl (fun K hK => ?_) AllReadyH.nil
      go_simp
      go_wp2_with (first | (go_at_call 9; refine (HEq.out _ g5 h5 i5 j5 g9 h9 i9 j9 (oP5_w8.out.row.later (hHeld.2.2.2.2.2.2.2.2.2.2.2.2.2.2.2.2)) (oQ5_w8.out.row.later (hHeld.2.2.2.2.2.2.2.2.2.2.2.2.2.2.2.2)) (oR5_w8.out.row.later (hHeld.2.2.2.2.2.2.2.2.2.2.2.2.2.2.2.2)) (oS5_w8.out.row.later (hHeld.2.2.2.2.2.2.2.2.2.2.2.2.2.2.2.2)) og9.row oh9.row oi9.row oj9.row).mono ?_; rintro e w10 ⟨rfl, hb10⟩; have b10 := (hHeld.2.2.2.2.2.2.2.2.2.2.2.2.2.2.2.2).trans (hb10.mono (hHeld.2.2.2.2.2.2.2.2.2.2.2.2.2.2.2.2).size)))
      refine hK.out _ _ ?_ (fun hHeld => ?_)
      · try dsimp only
        exact HSx.out _ b10
      clear hK K
      refine tkA 4 45 (v := ?_) rfl (by kernel_rfl) (fun _ _ _ h => h) (by rfl) ?_ (by assumption) ?_; rotate_left; · (intro w hSw; (try dsimp only at hSw); go_simp; try with_reducible rfl)
      simp only [pa]
      have HE := hidP (hHeld.2.2.2.2.2.2.2.2.2.2.2.2.2.2.2.2)
      refine wpAnyH_done (by kernel_rfl) ?_ _
      clear hHeld
      go_wp2_with fail
      go_ret
      exact ⟨rfl, acc_w8.out.trans (HE.out.mono acc_w8.out.size)⟩
  · rw [szT_no ht] at HSz
    clear hP hK hL hS hnp hnb hnl hns hsb hsl hss ht
    go_enter Tryz.func4, Tryz.ntmps4
    go_wp2_with fail
    refine (HSz.out _ ((alloc_below w _).alloc (by simp) _)).mono ?_
    rintro e w2 ⟨rfl, hb2⟩
    go_wp2_with fail
    go_ret
    exact ⟨rfl, ((alloc_below w _).alloc (by simp) _).trans (hb2.mono (by simp; omega))⟩

set_option maxRecDepth 100000 in
theorem held_lifted (os : Os) (started : os.Started) (H : Type) (enc : TypeId × Value → H) :
    ReturnsInHanded {} Tryz.checked os 4 .any (Rows.fnExactHeldSpec.pre6 enc Tryz.prog Tryz.f4 Rows.fnExactHeldRow.domain false) (Rows.fnExactHeldSpec.post enc Tryz.prog Tryz.f4 false true false false) := by
  refine returnsInHanded_of_change (C := Tryz.checked) Tryz.ownB9 started (by kernel_rfl) Tryz.func4
    (ChangeSpec.witness6 (enc := enc) (C := Tryz.checked) false ⟨#[], #[.agg #[.slice none 0 0, .slice none 0 0, .slice none 0 0, .int .i64 0, .int .i64 0, .slice none 0 0, .int .i64 0, .int .i64 0], .agg #[.bool false, .int .i64 0, .int .i64 0]], []⟩ 8 (by kernel_rfl) (by kernel_rfl) (by kernel_rfl) (by kernel_rfl)) ?_
  intro W base args ds gs before hval0 hW _ _
  have hval : ∀ (j : Nat) t v, Tryz.f4.params[j]? = some t → args[j]? = some v → Value.okWide Tryz.prog W .any base t v := hval0
  have hW' := hW
  obtain ⟨p, q, hA0, hV, rfl, _, _⟩ := hW
  have hA : DataW.TrodAll enc Tryz.prog W 0 (fun _ => true) true Tryz.f4.params.toList args.toList ds p := hA0
  rw [Tryz.params4] at hA hval
  obtain ⟨v0, v1, d0, d1, p0, p1, rfl, rfl, rfl, h0, h1⟩ := trodAll_two hA
  obtain ⟨rfl, rfl⟩ := trodVars_none hV
  obtain ⟨ap, np, cp, ab, nb, cb, al, nl, cl, T, N, aS, ns, cs, X, C, ps, bs, ls, ss, rfl, ⟨hnp, hnb, hnl, hns⟩, ⟨hP, hK, hL, hS⟩, ⟨h9p, h9b, h9l, h9s⟩, hsb, hsl, hss⟩ := openState (hval 0 33 v0 rfl rfl) h0
  obtain ⟨ad, rfl⟩ := openOneAd (hval 1 52 v1 rfl rfl) h1
  clear hA0 hval0
  simp only [List.append_nil] at hW'
  have hlt : ∀ x ∈ p0 ++ p1, x.block < W.heap.size := fun x hx => by have := hW'.lt x (by simpa using hx); exact this
  have hlt0 : ∀ x ∈ p0, x.block < W.heap.size := fun x hx => hlt x (List.mem_append_left _ hx)
  have hlt1 : ∀ x ∈ p1, x.block < W.heap.size := fun x hx => hlt x (List.mem_append_right _ hx)
  refine (lawHeld ap np cp ab nb cb al nl cl T N aS ns cs X C ps bs ls ss ad W hnp hnb hnl hns hP hK hL hS h9p h9b h9l h9s hsb hsl hss).mono fun e W' ⟨he, hb⟩ => ?_
  subst he
  exact ⟨_, rfl, ⟨_, _, _, [], _, [], hW', trodAll_mk1 (shut_bool Tryz.underlying4 true), trodAll_mk2 (Below.trod Tryz.laidOutB9 (by kernel_rfl) (of_decide_eq_true (by kernel_rfl)) h0 hb hlt0) (Below.trod Tryz.laidOutB9 (by kernel_rfl) (of_decide_eq_true (by kernel_rfl)) h1 hb hlt1), rfl, hb.frame _, fun h => by cases h⟩⟩

theorem held_holds : Rows.FnExactHeldSaid :=
  OpenClaim.holds_of_wide 4 Tryz.f4 rfl rfl rfl rfl rfl rfl rfl ⟨rfl, rfl, rfl, rfl, rfl⟩ rfl rfl rfl rfl rfl (by kernel_rfl) Tryz.func4 (by kernel_rfl)
    (of_decide_eq_true (by kernel_rfl)) (by unfold Func.isWrapper; rw [if_neg (of_decide_eq_false (by kernel_rfl))]; exact ⟨rfl, rfl⟩)
    (fun os started H enc _ => held_lifted os started H enc)

end Go.Proofs.YtplocbpngikohaaGreat
