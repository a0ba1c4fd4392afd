/-
  What stateOk_holds needs, part 8.
-/
import Derived.Test.YtplocbpngikohaaGreatZS7
import Derived.Deep.RegionWith
import Derived.Deep.RegionHeld3
import Derived.ProofKit
import Derived.OpenShut
import Derived.Lib.SmallJoins
import Derived.Carry
import Derived.Deep.Slices
import Derived.ChangeMaps5
import Derived.ChangeSame
namespace Go.Proofs.YtplocbpngikohaaGreat
open Go.RowKit

theorem drew_cell (w : World) (p : Addr) : w.drew.cell? p = w.cell? p := by simp [go_sem]
theorem drew_frozen (w : World) (p : Addr) : w.drew.frozen? p = w.frozen? p := by simp [go_sem]
theorem drew_size_lt {w : World} {n : Nat} (h : n < w.heap.size) : n < w.drew.heap.size := by simpa using h
theorem allS_at (ls : List Ls) (f : Ls → Bool) (k : Nat) (q : Ls) (h : ls[k]? = some q) : (ls.drop k).all f = (f q && (ls.drop (k + 1)).all f) := by
  rw [drop_at h]; rfl
theorem all_lie {ps : List Pl} {bs : List Bk} (h : planB ps bs = true) (ls : List Ls) : ls.all (lieB bs) = ls.all (lieS bs) := by
  induction ls with
  | nil => rfl
  | cons l t ih => rw [List.all_cons, List.all_cons, ih, lie_same bs l (plan_pw h)]

set_option maxRecDepth 10000 in
set_option maxHeartbeats 4000000 in
theorem sStateOk_any (ap : Option Addr) (np cp : Nat) (ab : Option Addr) (nb cb : Nat) (al : Option Addr) (nl cl : Nat) (T N : Int) (aS : Option Addr) (ns cs : Nat) (X C : Int) (ps : List Pl) (bs : List Bk) (ls : List Ls) (ss : List Ss) (w : World) (hnp : np = ps.length) (hnb : nb = bs.length) (hnl : nl = ls.length) (hns : ns = ss.length) (hP : RowG KPl w ap ps) (hK : RowG KBk w ab bs) (hL : RowG KLs w al ls) (hS : RowG KSs w aS ss) (hlp : np ≤ 1048576) (hlb : nb ≤ 1048576) (hll : nl ≤ 1048576) (hls : ns ≤ 1048576) (hsb : ∀ q ∈ bs, q.t.size ≤ 9223372036854775807) (hsl : ∀ q ∈ ls, q.t.size ≤ 9223372036854775807) :
    Calls Tryz.prog 6 #[.agg #[.slice ap np cp, .slice ab nb cb, .slice al nl cl, .int .i64 T, .int .i64 N, .slice aS ns cs, .int .i64 X, .int .i64 C]] w fun e w' => e = .returned (.bool (stB ps bs ls T N ss X C)) ∧ Below w.heap.size w w' := by
  have HP := hidP (fun W h => sPlanOk_any ap np cp ab nb cb ps bs W hnp hnb (hP.later h) (hK.later h) (by omega) (by omega) hsb)
  have HB := hidP (fun W h => sBookOk_any al nl cl T N ls W hnl (hL.later h) hll hsl)
  have HD := hidP (fun W h => sDeskOk_any aS ns cs X ss W hns (hS.later h) hls)
  have HBO := hidP (fun s H L W h => sBlockOf_any s H L ap np cp ab nb cb ps bs W hnp hnb (hP.later h) (hK.later h) (by omega) (by omega) hsb)
  have HR := hidP hL
  have HN := hidP hnl
  have HA := hidP (fun h => all_lie (ps := ps) (bs := bs) h ls)
  unfold stB
  clear hP hK hL hS hnp hnb hnl hns hsb hsl
  generalize planB ps bs = r1 at *
  generalize bkB ls T N = r2 at *
  generalize dkB ss X = r3 at *
  cases r1
  · go_enter Tryz.func6, Tryz.ntmps6
    go_wp2_with fail
    obtain ⟨bx0_W1, bx1_W1, bx2_W1, bx3_W1, bx4_W1, bx5_W1, bx6_W1, bx7_W1⟩ := bx8 w 47 (.slice ap np cp) (.slice ab nb cb) (.slice al nl cl) (.int .i64 T) (.int .i64 N) (.slice aS ns cs) (.int .i64 X) (.int .i64 C)
    have bxF_W1 : ∀ o, (w.alloc (.cells #[.slice ap np cp, .slice ab nb cb, .slice al nl cl, .int .i64 T, .int .i64 N, .slice aS ns cs, .int .i64 X, .int .i64 C] 47)).frozen? ⟨w.heap.size, o, none⟩ = false := fun o => by simp [go_sem]
    have bxL_W1 : w.heap.size < (w.alloc (.cells #[.slice ap np cp, .slice ab nb cb, .slice al nl cl, .int .i64 T, .int .i64 N, .slice aS ns cs, .int .i64 X, .int .i64 C] 47)).heap.size := by simp
    have ab_W1 := alloc_below w (.cells #[.slice ap np cp, .slice ab nb cb, .slice al nl cl, .int .i64 T, .int .i64 N, .slice aS ns cs, .int .i64 X, .int .i64 C] 47)
    have as_W1 : Hid ((w.alloc (.cells #[.slice ap np cp, .slice ab nb cb, .slice al nl cl, .int .i64 T, .int .i64 N, .slice aS ns cs, .int .i64 X, .int .i64 C] 47)).heap.size = w.heap.size + 1) := hidP (by simp)
    generalize w.alloc (.cells #[.slice ap np cp, .slice ab nb cb, .slice al nl cl, .int .i64 T, .int .i64 N, .slice aS ns cs, .int .i64 X, .int .i64 C] 47) = W1 at *
    have acc_W1 := hidP (ab_W1)
    have sz_W1 : Hid (w.heap.size ≤ W1.heap.size) := hidP ab_W1.size
    clear ab_W1 
    refine (HP.out _ acc_W1.out).mono ?_
    rintro e u0 ⟨rfl, hb0⟩
    have bx0_u0 := (hb0.cell bxL_W1).trans bx0_W1
    have bx1_u0 := (hb0.cell bxL_W1).trans bx1_W1
    have bx2_u0 := (hb0.cell bxL_W1).trans bx2_W1
    have bx3_u0 := (hb0.cell bxL_W1).trans bx3_W1
    have bx4_u0 := (hb0.cell bxL_W1).trans bx4_W1
    have bx5_u0 := (hb0.cell bxL_W1).trans bx5_W1
    have bx6_u0 := (hb0.cell bxL_W1).trans bx6_W1
    have bx7_u0 := (hb0.cell bxL_W1).trans bx7_W1
    have bxF_u0 : ∀ o, u0.frozen? ⟨w.heap.size, o, none⟩ = false := fun o => (hb0.frozen bxL_W1).trans (bxF_W1 o)
    have bxL_u0 : w.heap.size < u0.heap.size := Nat.lt_of_lt_of_le bxL_W1 hb0.size
    have acc_u0 := hidP (acc_W1.out.trans (hb0.mono acc_W1.out.size))
    have sz_u0 : Hid (W1.heap.size ≤ u0.heap.size) := hidP hb0.size
    clear hb0 bx0_W1 bx1_W1 bx2_W1 bx3_W1 bx4_W1 bx5_W1 bx6_W1 bx7_W1 bxF_W1 bxL_W1 acc_W1
    go_wp2_with fail
    go_ret
    exact ⟨rfl, acc_u0.out⟩
  · cases r2
    · go_enter Tryz.func6, Tryz.ntmps6
      go_wp2_with fail
      obtain ⟨bx0_W1, bx1_W1, bx2_W1, bx3_W1, bx4_W1, bx5_W1, bx6_W1, bx7_W1⟩ := bx8 w 47 (.slice ap np cp) (.slice ab nb cb) (.slice al nl cl) (.int .i64 T) (.int .i64 N) (.slice aS ns cs) (.int .i64 X) (.int .i64 C)
      have bxF_W1 : ∀ o, (w.alloc (.cells #[.slice ap np cp, .slice ab nb cb, .slice al nl cl, .int .i64 T, .int .i64 N, .slice aS ns cs, .int .i64 X, .int .i64 C] 47)).frozen? ⟨w.heap.size, o, none⟩ = false := fun o => by simp [go_sem]
      have bxL_W1 : w.heap.size < (w.alloc (.cells #[.slice ap np cp, .slice ab nb cb, .slice al nl cl, .int .i64 T, .int .i64 N, .slice aS ns cs, .int .i64 X, .int .i64 C] 47)).heap.size := by simp
      have ab_W1 := alloc_below w (.cells #[.slice ap np cp, .slice ab nb cb, .slice al nl cl, .int .i64 T, .int .i64 N, .slice aS ns cs, .int .i64 X, .int .i64 C] 47)
      have as_W1 : Hid ((w.alloc (.cells #[.slice ap np cp, .slice ab nb cb, .slice al nl cl, .int .i64 T, .int .i64 N, .slice aS ns cs, .int .i64 X, .int .i64 C] 47)).heap.size = w.heap.size + 1) := hidP (by simp)
      generalize w.alloc (.cells #[.slice ap np cp, .slice ab nb cb, .slice al nl cl, .int .i64 T, .int .i64 N, .slice aS ns cs, .int .i64 X, .int .i64 C] 47) = W1 at *
      have acc_W1 := hidP (ab_W1)
      have sz_W1 : Hid (w.heap.size ≤ W1.heap.size) := hidP ab_W1.size
      clear ab_W1 
      refine (HP.out _ acc_W1.out).mono ?_
      rintro e u0 ⟨rfl, hb0⟩
      have bx0_u0 := (hb0.cell bxL_W1).trans bx0_W1
      have bx1_u0 := (hb0.cell bxL_W1).trans bx1_W1
      have bx2_u0 := (hb0.cell bxL_W1).trans bx2_W1
      have bx3_u0 := (hb0.cell bxL_W1).trans bx3_W1
      have bx4_u0 := (hb0.cell bxL_W1).trans bx4_W1
      have bx5_u0 := (hb0.cell bxL_W1).trans bx5_W1
      have bx6_u0 := (hb0.cell bxL_W1).trans bx6_W1
      have bx7_u0 := (hb0.cell bxL_W1).trans bx7_W1
      have bxF_u0 : ∀ o, u0.frozen? ⟨w.heap.size, o, none⟩ = false := fun o => (hb0.frozen bxL_W1).trans (bxF_W1 o)
      have bxL_u0 : w.heap.size < u0.heap.size := Nat.lt_of_lt_of_le bxL_W1 hb0.size
      have acc_u0 := hidP (acc_W1.out.trans (hb0.mono acc_W1.out.size))
      have sz_u0 : Hid (W1.heap.size ≤ u0.heap.size) := hidP hb0.size
      clear hb0 bx0_W1 bx1_W1 bx2_W1 bx3_W1 bx4_W1 bx5_W1 bx6_W1 bx7_W1 bxF_W1 bxL_W1 acc_W1
      go_wp2_with fail
      refine (HB.out _ acc_u0.out).mono ?_
      rintro e u1 ⟨rfl, hb1⟩
      have bx0_u1 := (hb1.cell bxL_u0).trans bx0_u0
      have bx1_u1 := (hb1.cell bxL_u0).trans bx1_u0
      have bx2_u1 := (hb1.cell bxL_u0).trans bx2_u0
      have bx3_u1 := (hb1.cell bxL_u0).trans bx3_u0
      have bx4_u1 := (hb1.cell bxL_u0).trans bx4_u0
      have bx5_u1 := (hb1.cell bxL_u0).trans bx5_u0
      have bx6_u1 := (hb1.cell bxL_u0).trans bx6_u0
      have bx7_u1 := (hb1.cell bxL_u0).trans bx7_u0
      have bxF_u1 : ∀ o, u1.frozen? ⟨w.heap.size, o, none⟩ = false := fun o => (hb1.frozen bxL_u0).trans (bxF_u0 o)
      have bxL_u1 : w.heap.size < u1.heap.size := Nat.lt_of_lt_of_le bxL_u0 hb1.size
      have acc_u1 := hidP (acc_u0.out.trans (hb1.mono acc_u0.out.size))
      have sz_u1 : Hid (u0.heap.size ≤ u1.heap.size) := hidP hb1.size
      clear hb1 bx0_u0 bx1_u0 bx2_u0 bx3_u0 bx4_u0 bx5_u0 bx6_u0 bx7_u0 bxF_u0 bxL_u0 acc_u0
      go_wp2_with fail
      go_ret
      exact ⟨rfl, acc_u1.out⟩
    · cases r3
      · go_enter Tryz.func6, Tryz.ntmps6
        go_wp2_with fail
        obtain ⟨bx0_W1, bx1_W1, bx2_W1, bx3_W1, bx4_W1, bx5_W1, bx6_W1, bx7_W1⟩ := bx8 w 47 (.slice ap np cp) (.slice ab nb cb) (.slice al nl cl) (.int .i64 T) (.int .i64 N) (.slice aS ns cs) (.int .i64 X) (.int .i64 C)
        have bxF_W1 : ∀ o, (w.alloc (.cells #[.slice ap np cp, .slice ab nb cb, .slice al nl cl, .int .i64 T, .int .i64 N, .slice aS ns cs, .int .i64 X, .int .i64 C] 47)).frozen? ⟨w.heap.size, o, none⟩ = false := fun o => by simp [go_sem]
        have bxL_W1 : w.heap.size < (w.alloc (.cells #[.slice ap np cp, .slice ab nb cb, .slice al nl cl, .int .i64 T, .int .i64 N, .slice aS ns cs, .int .i64 X, .int .i64 C] 47)).heap.size := by simp
        have ab_W1 := alloc_below w (.cells #[.slice ap np cp, .slice ab nb cb, .slice al nl cl, .int .i64 T, .int .i64 N, .slice aS ns cs, .int .i64 X, .int .i64 C] 47)
        have as_W1 : Hid ((w.alloc (.cells #[.slice ap np cp, .slice ab nb cb, .slice al nl cl, .int .i64 T, .int .i64 N, .slice aS ns cs, .int .i64 X, .int .i64 C] 47)).heap.size = w.heap.size + 1) := hidP (by simp)
        generalize w.alloc (.cells #[.slice ap np cp, .slice ab nb cb, .slice al nl cl, .int .i64 T, .int .i64 N, .slice aS ns cs, .int .i64 X, .int .i64 C] 47) = W1 at *
        have acc_W1 := hidP (ab_W1)
        have sz_W1 : Hid (w.heap.size ≤ W1.heap.size) := hidP ab_W1.size
        clear ab_W1 
        refine (HP.out _ acc_W1.out).mono ?_
        rintro e u0 ⟨rfl, hb0⟩
        have bx0_u0 := (hb0.cell bxL_W1).trans bx0_W1
        have bx1_u0 := (hb0.cell bxL_W1).trans bx1_W1
        have bx2_u0 := (hb0.cell bxL_W1).trans bx2_W1
        have bx3_u0 := (hb0.cell bxL_W1).trans bx3_W1
        have bx4_u0 := (hb0.cell bxL_W1).trans bx4_W1
        have bx5_u0 := (hb0.cell bxL_W1).trans bx5_W1
        have bx6_u0 := (hb0.cell bxL_W1).trans bx6_W1
        have bx7_u0 := (hb0.cell bxL_W1).trans bx7_W1
        have bxF_u0 : ∀ o, u0.frozen? ⟨w.heap.size, o, none⟩ = false := fun o => (hb0.frozen bxL_W1).trans (bxF_W1 o)
        have bxL_u0 : w.heap.size < u0.heap.size := Nat.lt_of_lt_of_le bxL_W1 hb0.size
        have acc_u0 := hidP (acc_W1.out.trans (hb0.mono acc_W1.out.size))
        have sz_u0 : Hid (W1.heap.size ≤ u0.heap.size) := hidP hb0.size
        clear hb0 bx0_W1 bx1_W1 bx2_W1 bx3_W1 bx4_W1 bx5_W1 bx6_W1 bx7_W1 bxF_W1 bxL_W1 acc_W1
        go_wp2_with fail
        refine (HB.out _ acc_u0.out).mono ?_
        rintro e u1 ⟨rfl, hb1⟩
        have bx0_u1 := (hb1.cell bxL_u0).trans bx0_u0
        have bx1_u1 := (hb1.cell bxL_u0).trans bx1_u0
        have bx2_u1 := (hb1.cell bxL_u0).trans bx2_u0
        have bx3_u1 := (hb1.cell bxL_u0).trans bx3_u0
        have bx4_u1 := (hb1.cell bxL_u0).trans bx4_u0
        have bx5_u1 := (hb1.cell bxL_u0).trans bx5_u0
        have bx6_u1 := (hb1.cell bxL_u0).trans bx6_u0
        have bx7_u1 := (hb1.cell bxL_u0).trans bx7_u0
        have bxF_u1 : ∀ o, u1.frozen? ⟨w.heap.size, o, none⟩ = false := fun o => (hb1.frozen bxL_u0).trans (bxF_u0 o)
        have bxL_u1 : w.heap.size < u1.heap.size := Nat.lt_of_lt_of_le bxL_u0 hb1.size
        have acc_u1 := hidP (acc_u0.out.trans (hb1.mono acc_u0.out.size))
        have sz_u1 : Hid (u0.heap.size ≤ u1.heap.size) := hidP hb1.size
        clear hb1 bx0_u0 bx1_u0 bx2_u0 bx3_u0 bx4_u0 bx5_u0 bx6_u0 bx7_u0 bxF_u0 bxL_u0 acc_u0
        go_wp2_with fail
        refine (HD.out _ acc_u1.out).mono ?_
        rintro e u2 ⟨rfl, hb2⟩
        have bx0_u2 := (hb2.cell bxL_u1).trans bx0_u1
        have bx1_u2 := (hb2.cell bxL_u1).trans bx1_u1
        have bx2_u2 := (hb2.cell bxL_u1).trans bx2_u1
        have bx3_u2 := (hb2.cell bxL_u1).trans bx3_u1
        have bx4_u2 := (hb2.cell bxL_u1).trans bx4_u1
        have bx5_u2 := (hb2.cell bxL_u1).trans bx5_u1
        have bx6_u2 := (hb2.cell bxL_u1).trans bx6_u1
        have bx7_u2 := (hb2.cell bxL_u1).trans bx7_u1
        have bxF_u2 : ∀ o, u2.frozen? ⟨w.heap.size, o, none⟩ = false := fun o => (hb2.frozen bxL_u1).trans (bxF_u1 o)
        have bxL_u2 : w.heap.size < u2.heap.size := Nat.lt_of_lt_of_le bxL_u1 hb2.size
        have acc_u2 := hidP (acc_u1.out.trans (hb2.mono acc_u1.out.size))
        have sz_u2 : Hid (u1.heap.size ≤ u2.heap.size) := hidP hb2.size
        clear hb2 bx0_u1 bx1_u1 bx2_u1 bx3_u1 bx4_u1 bx5_u1 bx6_u1 bx7_u1 bxF_u1 bxL_u1 acc_u1
        go_wp2_with fail
        go_ret
        exact ⟨rfl, acc_u2.out⟩
      · cases hc : decide (C < 0)
        · have hc2 : ¬ (C < 0) := of_decide_eq_false hc
          have hc3 : decide (0 ≤ C) = true := decide_eq_true (by omega)
          rw [hc3, HA.out rfl]
          clear HA hc3
          go_enter Tryz.func6, Tryz.ntmps6
          go_wp2_with fail
          obtain ⟨bx0_W1, bx1_W1, bx2_W1, bx3_W1, bx4_W1, bx5_W1, bx6_W1, bx7_W1⟩ := bx8 w 47 (.slice ap np cp) (.slice ab nb cb) (.slice al nl cl) (.int .i64 T) (.int .i64 N) (.slice aS ns cs) (.int .i64 X) (.int .i64 C)
          have bxF_W1 : ∀ o, (w.alloc (.cells #[.slice ap np cp, .slice ab nb cb, .slice al nl cl, .int .i64 T, .int .i64 N, .slice aS ns cs, .int .i64 X, .int .i64 C] 47)).frozen? ⟨w.heap.size, o, none⟩ = false := fun o => by simp [go_sem]
          have bxL_W1 : w.heap.size < (w.alloc (.cells #[.slice ap np cp, .slice ab nb cb, .slice al nl cl, .int .i64 T, .int .i64 N, .slice aS ns cs, .int .i64 X, .int .i64 C] 47)).heap.size := by simp
          have ab_W1 := alloc_below w (.cells #[.slice ap np cp, .slice ab nb cb, .slice al nl cl, .int .i64 T, .int .i64 N, .slice aS ns cs, .int .i64 X, .int .i64 C] 47)
          have as_W1 : Hid ((w.alloc (.cells #[.slice ap np cp, .slice ab nb cb, .slice al nl cl, .int .i64 T, .int .i64 N, .slice aS ns cs, .int .i64 X, .int .i64 C] 47)).heap.size = w.heap.size + 1) := hidP (by simp)
          generalize w.alloc (.cells #[.slice ap np cp, .slice ab nb cb, .slice al nl cl, .int .i64 T, .int .i64 N, .slice aS ns cs, .int .i64 X, .int .i64 C] 47) = W1 at *
          have acc_W1 := hidP (ab_W1)
          have sz_W1 : Hid (w.heap.size ≤ W1.heap.size) := hidP ab_W1.size
          clear ab_W1 
          refine (HP.out _ acc_W1.out).mono ?_
          rintro e u0 ⟨rfl, hb0⟩
          have bx0_u0 := (hb0.cell bxL_W1).trans bx0_W1
          have bx1_u0 := (hb0.cell bxL_W1).trans bx1_W1
          have bx2_u0 := (hb0.cell bxL_W1).trans bx2_W1
          have bx3_u0 := (hb0.cell bxL_W1).trans bx3_W1
          have bx4_u0 := (hb0.cell bxL_W1).trans bx4_W1
          have bx5_u0 := (hb0.cell bxL_W1).trans bx5_W1
          have bx6_u0 := (hb0.cell bxL_W1).trans bx6_W1
          have bx7_u0 := (hb0.cell bxL_W1).trans bx7_W1
          have bxF_u0 : ∀ o, u0.frozen? ⟨w.heap.size, o, none⟩ = false := fun o => (hb0.frozen bxL_W1).trans (bxF_W1 o)
          have bxL_u0 : w.heap.size < u0.heap.size := Nat.lt_of_lt_of_le bxL_W1 hb0.size
          have acc_u0 := hidP (acc_W1.out.trans (hb0.mono acc_W1.out.size))
          have sz_u0 : Hid (W1.heap.size ≤ u0.heap.size) := hidP hb0.size
          clear hb0 bx0_W1 bx1_W1 bx2_W1 bx3_W1 bx4_W1 bx5_W1 bx6_W1 bx7_W1 bxF_W1 bxL_W1 acc_W1
          go_wp2_with fail
          refine (HB.out _ acc_u0.out).mono ?_
          rintro e u1 ⟨rfl, hb1⟩
          have bx0_u1 := (hb1.cell bxL_u0).trans bx0_u0
          have bx1_u1 := (hb1.cell bxL_u0).trans bx1_u0
          have bx2_u1 := (hb1.cell bxL_u0).trans bx2_u0
          have bx3_u1 := (hb1.cell bxL_u0).trans bx3_u0
          have bx4_u1 := (hb1.cell bxL_u0).trans bx4_u0
          have bx5_u1 := (hb1.cell bxL_u0).trans bx5_u0
          have bx6_u1 := (hb1.cell bxL_u0).trans bx6_u0
          have bx7_u1 := (hb1.cell bxL_u0).trans bx7_u0
          have bxF_u1 : ∀ o, u1.frozen? ⟨w.heap.size, o, none⟩ = false := fun o => (hb1.frozen bxL_u0).trans (bxF_u0 o)
          have bxL_u1 : w.heap.size < u1.heap.size := Nat.lt_of_lt_of_le bxL_u0 hb1.size
          have acc_u1 := hidP (acc_u0.out.trans (hb1.mono acc_u0.out.size))
          have sz_u1 : Hid (u0.heap.size ≤ u1.heap.size) := hidP hb1.size
          clear hb1 bx0_u0 bx1_u0 bx2_u0 bx3_u0 bx4_u0 bx5_u0 bx6_u0 bx7_u0 bxF_u0 bxL_u0 acc_u0
          go_wp2_with fail
          refine (HD.out _ acc_u1.out).mono ?_
          rintro e u2 ⟨rfl, hb2⟩
          have bx0_u2 := (hb2.cell bxL_u1).trans bx0_u1
          have bx1_u2 := (hb2.cell bxL_u1).trans bx1_u1
          have bx2_u2 := (hb2.cell bxL_u1).trans bx2_u1
          have bx3_u2 := (hb2.cell bxL_u1).trans bx3_u1
          have bx4_u2 := (hb2.cell bxL_u1).trans bx4_u1
          have bx5_u2 := (hb2.cell bxL_u1).trans bx5_u1
          have bx6_u2 := (hb2.cell bxL_u1).trans bx6_u1
          have bx7_u2 := (hb2.cell bxL_u1).trans bx7_u1
          have bxF_u2 : ∀ o, u2.frozen? ⟨w.heap.size, o, none⟩ = false := fun o => (hb2.frozen bxL_u1).trans (bxF_u1 o)
          have bxL_u2 : w.heap.size < u2.heap.size := Nat.lt_of_lt_of_le bxL_u1 hb2.size
          have acc_u2 := hidP (acc_u1.out.trans (hb2.mono acc_u1.out.size))
          have sz_u2 : Hid (u1.heap.size ≤ u2.heap.size) := hidP hb2.size
          clear hb2 bx0_u1 bx1_u1 bx2_u1 bx3_u1 bx4_u1 bx5_u1 bx6_u1 bx7_u1 bxF_u1 bxL_u1 acc_u1
          go_wp2_with fail
          go_loopw [3, 4, 5] (fun t3 _ _ wr => ∃ k : Nat, k ≤ nl ∧ t3 = .int .i64 k ∧ ls.all (lieS bs) = (ls.drop k).all (lieS bs) ∧ Below u2.heap.size u2 wr) (fun t3 _ _ _ => nl - (intOf t3).toNat)
          case atStart => exact ⟨0, Nat.zero_le _, rfl, rfl, Below.refl _ _⟩
          case round =>
            obtain ⟨k, hk, rfl, hpo, hbel⟩ := hrel
            have B0 := (hbel.cell bxL_u2).trans bx0_u2
            have B1 := (hbel.cell bxL_u2).trans bx1_u2
            have B2 := (hbel.cell bxL_u2).trans bx2_u2
            have B3 := (hbel.cell bxL_u2).trans bx3_u2
            have B4 := (hbel.cell bxL_u2).trans bx4_u2
            have B5 := (hbel.cell bxL_u2).trans bx5_u2
            have B6 := (hbel.cell bxL_u2).trans bx6_u2
            have B7 := (hbel.cell bxL_u2).trans bx7_u2
            have BL : w.heap.size < wr.heap.size := Nat.lt_of_lt_of_le bxL_u2 hbel.size
            have HBu := hidP hbel
            have HBel := hidP (acc_u2.out.trans (hbel.mono acc_u2.out.size))
            by_cases hlt : k < nl
            · obtain ⟨p, o, q, rfl, hp, hq, c0, c1, c2, c3, c4, c5⟩ := rowLs HR.out k (by rw [← HN.out]; exact hlt)
              have d0 := (HBel.out.cell hp).trans c0
              have d1 := (HBel.out.cell hp).trans c1
              have d2 := (HBel.out.cell hp).trans c2
              have d3 := (HBel.out.cell hp).trans c3
              have d4 := (HBel.out.cell hp).trans c4
              have d5 := (HBel.out.cell hp).trans c5
              have hpL : p < wr.heap.size := Nat.lt_of_lt_of_le hp HBel.out.size
              rw [allS_at ls _ k q hq] at hpo
              have HPo := hidP hpo
              have HBq := hidP (fun W h => HBO.out q.a.s q.a.H q.a.L W h)
              unfold bkR at HBq
              rw [if_pos rfl] at HBq
              have HLie : Hid (lieS bs q = ((bkF q.a.s q.a.H q.a.L bs).2 && decide ((bkF q.a.s q.a.H q.a.L bs).1.t = q.t))) := hidP rfl
              generalize bkF q.a.s q.a.H q.a.L bs = R at *
              obtain ⟨y, r⟩ := R
              try dsimp only at HBq HLie
              clear c0 c1 c2 c3 c4 c5 hq hpo hbel bx0_u2 bx1_u2 bx2_u2 bx3_u2 bx4_u2 bx5_u2 bx6_u2 bx7_u2 bxF_u2 bxL_u2
              go_upto_region 6 with fail
              go_cut [4, 5] (fun t4 t5 Y => ∃ b : Nat, t4 = .pointer (some ⟨b, 0, none⟩) ∧ t5 = .bool r ∧ wr.heap.size ≤ b ∧ b < Y.heap.size ∧ Y.cell? ⟨b, 0, none⟩ = some (.bool y.p.s) ∧ Y.cell? ⟨b, 1, none⟩ = some (.int .i64 y.p.H.toInt) ∧ Y.cell? ⟨b, 2, none⟩ = some (.int .i64 y.p.L.toInt) ∧ Y.cell? ⟨b, 3, none⟩ = some (.int .i64 y.p.b) ∧ Y.cell? ⟨b, 4, none⟩ = some (.string y.t) ∧ Below wr.heap.size wr Y)
              case first =>
                have HSx : Hid (∀ x, Below wr.heap.size wr x → (x.cell? ⟨w.heap.size, 0, none⟩ = some (.slice ap np cp) ∧ x.cell? ⟨w.heap.size, 1, none⟩ = some (.slice ab nb cb) ∧ x.cell? ⟨w.heap.size, 2, none⟩ = some (.slice (some ⟨p, o, none⟩) nl cl) ∧ x.cell? ⟨p, o + k * 6, none⟩ = some (.bool q.a.s) ∧ x.cell? ⟨p, o + k * 6 + 1, none⟩ = some (.int .i64 q.a.H.toInt) ∧ x.cell? ⟨p, o + k * 6 + 2, none⟩ = some (.int .i64 q.a.L.toInt) ∧ Below wr.heap.size wr x)) := hidP fun x h =>
                  ⟨(h.cell BL).trans B0, (h.cell BL).trans B1, (h.cell BL).trans B2, (h.cell hpL).trans d0, (h.cell hpL).trans d1, (h.cell hpL).trans d2, h⟩
                refine wp_region_held_drew (S := (fun x => x.cell? ⟨w.heap.size, 0, none⟩ = some (.slice ap np cp) ∧ x.cell? ⟨w.heap.size, 1, none⟩ = some (.slice ab nb cb) ∧ x.cell? ⟨w.heap.size, 2, none⟩ = some (.slice (some ⟨p, o, none⟩) nl cl) ∧ x.cell? ⟨p, o + k * 6, none⟩ = some (.bool q.a.s) ∧ x.cell? ⟨p, o + k * 6 + 1, none⟩ = some (.int .i64 q.a.H.toInt) ∧ x.cell? ⟨p, o + k * 6 + 2, none⟩ = some (.int .i64 q.a.L.toInt) ∧ Below wr.heap.size wr x)) (by kernel_rfl) ?_ (fun hHeld => ?_)
                · try dsimp only
                  exact HSx.out _ (Below.refl _ _).drew
                refine tkA 0 36 (v := ?_) rfl (by kernel_rfl) (fun _ _ _ h => h) (by rfl) ?_ (by assumption) ?_; rotate_left; · (intro w hSw; (try dsimp only at hSw); go_simp; try with_reducible rfl)
                simp only [pa]
                refine tkA 1 37 (v := ?_) rfl (by kernel_rfl) (fun _ _ _ h => h) (by rfl) ?_ (by assumption) ?_; rotate_left; · (intro w hSw; (try dsimp only at hSw); go_simp; try with_reducible rfl)
                simp only [pa]
                refine tkA 2 38 (v := ?_) rfl (by kernel_rfl) (fun _ _ _ h => h) (by rfl) ?_ (by assumption) ?_; rotate_left; · (intro w hSw; (try dsimp only at hSw); go_simp; try with_reducible rfl)
                simp only [pa]
                refine tkA 3 39 (v := ?_) rfl (by kernel_rfl) (fun _ _ _ h => h) (by rfl) ?_ (by assumption) ?_; rotate_left; · (intro w hSw; (try dsimp only at hSw); go_simp; try with_reducible rfl)
                simp only [pa]
                refine tkA 4 40 (v := ?_) rfl (by kernel_rfl) (fun _ _ _ h => h) (by rfl) ?_ (by assumption) ?_; rotate_left; · (intro w hSw; (try dsimp only at hSw); go_simp; try with_reducible rfl)
                simp only [pa]
                refine tkA 5 41 (v := ?_) rfl (by kernel_rfl) (fun _ _ _ h => h) (by rfl) ?_ (by assumption) ?_; rotate_left; · (intro w hSw; (try dsimp only at hSw); go_simp; try with_reducible rfl)
                simp only [pa]
                refine tkA 6 42 (v := ?_) rfl (by kernel_rfl) (fun _ _ _ h => h) (by rfl) ?_ (by assumption) ?_; rotate_left; · (intro w hSw; (try dsimp only at hSw); go_simp; try with_reducible rfl)
                simp only [pa]
                refine tkA 7 43 (v := ?_) rfl (by kernel_rfl) (fun _ _ _ h => h) (by rfl) ?_ (by assumption) ?_; rotate_left; · (intro w hSw; (try dsimp only at hSw); go_simp; try with_reducible rfl)
                simp only [pa]
                refine tkA 8 44 (v := ?_) rfl (by kernel_rfl) (fun _ _ _ h => h) (by rfl) ?_ (by assumption) ?_; rotate_left; · (intro w hSw; (try dsimp only at hSw); go_simp; try with_reducible rfl)
                simp only [pa]
                refine wpAnyH_ready (rs := [9, 13]) (by kernel_rfl) (by simp) ?_
                refine AllReadyH.cons rfl (fun K hK => ?_) (AllReadyH.cons rfl (fun K hK => ?_) AllReadyH.nil)
                · go_simp
                  go_wp2_with (first | (go_at_call 19; refine (HBq.out _ (HBel.out.trans ((hHeld.2.2.2.2.2.2).mono HBel.out.size))).mono ?_; rintro e w3 ⟨rfl, hb3⟩; have b3 := (hHeld.2.2.2.2.2.2).trans (hb3.mono (hHeld.2.2.2.2.2.2).size)))
                  refine hK.out _ _ ?_ (fun hHeld => ?_)
                  · try dsimp only
                    exact HSx.out _ b3
                  clear hK K
                  refine tkA 10 35 (v := ?_) rfl (by kernel_rfl) (fun _ _ _ h => h) (by rfl) ?_ (by assumption) ?_; rotate_left; · (intro w hSw; (try dsimp only at hSw); go_simp; try with_reducible rfl)
                  simp only [pa]
                  refine tkA 11 46 (v := ?_) rfl (by kernel_rfl) (fun _ _ _ h => h) (by rfl) ?_ (by assumption) ?_; rotate_left; · (intro w hSw; (try dsimp only at hSw); go_simp; try with_reducible rfl)
                  simp only [pa]
                  refine tkA 12 47 (v := ?_) rfl (by kernel_rfl) (fun _ _ _ h => h) (by rfl) ?_ (by assumption) ?_; rotate_left; · (intro w hSw; (try dsimp only at hSw); go_simp; try with_reducible rfl)
                  simp only [pa]
                  refine wpAnyH_ready (rs := [13]) (by kernel_rfl) (by simp) ?_
                  refine AllReadyH.cons rfl (fun K hK => ?_) AllReadyH.nil
                  go_simp
                  obtain ⟨z4x0, z4x1, z4x2, z4x3, z4x4⟩ := boxZ w3 67
                  have z4F := frzZ w3 67
                  have z4B := alloc_below w3 (.cells #[.bool false, .int .i64 0, .int .i64 0, .int .i64 0, .string ⟨#[]⟩] 67)
                  have z4L := alloc_lt w3 (.cells #[.bool false, .int .i64 0, .int .i64 0, .int .i64 0, .string ⟨#[]⟩] 67)
                  have z4M := (hHeld.2.2.2.2.2.2).trans (z4B.mono (hHeld.2.2.2.2.2.2).size)
                  generalize w3.alloc (.cells #[.bool false, .int .i64 0, .int .i64 0, .int .i64 0, .string ⟨#[]⟩] 67) = w4 at *
                  refine hK.out _ _ ?_ (fun hHeld => ?_)
                  · try dsimp only
                    exact HSx.out _ z4M
                  clear hK K
                  have bl4 : wr.heap.size ≤ w3.heap.size := b3.size
                  refine wpAnyH_ready (rs := [14]) (by kernel_rfl) (by simp) ?_
                  refine AllReadyH.cons rfl (fun K hK => ?_) AllReadyH.nil
                  go_simp
                  refine hK.out _ _ ?_ (fun hHeld => ?_)
                  · try dsimp only
                    refine HSx.out _ ?_
                    repeat (with_reducible refine Below.setCell ?_ ?_ _; rotate_left; (focus (exact (bl4))))
                    exact (hHeld.2.2.2.2.2.2)
                  clear hK K
                  refine tkA 15 5 (v := ?_) rfl (by kernel_rfl) (fun _ _ _ h => h) (by rfl) ?_ (by assumption) ?_; rotate_left; · (intro w hSw; (try dsimp only at hSw); go_simp; try with_reducible rfl)
                  simp only [pa]
                  have HE := hidP (hHeld.2.2.2.2.2.2)
                  refine wpAnyH_done (by kernel_rfl) ?_ _
                  clear hHeld
                  go_wp2_with fail
                  go_meet
                  refine ⟨_, rfl, rfl, bl4, ?_, ?_, ?_, ?_, ?_, ?_, HE.out⟩
                  · simp; exact z4L
                  all_goals (simp [go_sem, z4x0, z4x1, z4x2, z4x3, z4x4])
                · go_simp
                  obtain ⟨z3x0, z3x1, z3x2, z3x3, z3x4⟩ := boxZ wr 67
                  have z3F := frzZ wr 67
                  have z3B := alloc_below wr (.cells #[.bool false, .int .i64 0, .int .i64 0, .int .i64 0, .string ⟨#[]⟩] 67)
                  have z3L := alloc_lt wr (.cells #[.bool false, .int .i64 0, .int .i64 0, .int .i64 0, .string ⟨#[]⟩] 67)
                  have z3x0 := (drew_cell (wr.alloc (.cells #[.bool false, .int .i64 0, .int .i64 0, .int .i64 0, .string ⟨#[]⟩] 67)) _).trans z3x0
                  have z3x1 := (drew_cell (wr.alloc (.cells #[.bool false, .int .i64 0, .int .i64 0, .int .i64 0, .string ⟨#[]⟩] 67)) _).trans z3x1
                  have z3x2 := (drew_cell (wr.alloc (.cells #[.bool false, .int .i64 0, .int .i64 0, .int .i64 0, .string ⟨#[]⟩] 67)) _).trans z3x2
                  have z3x3 := (drew_cell (wr.alloc (.cells #[.bool false, .int .i64 0, .int .i64 0, .int .i64 0, .string ⟨#[]⟩] 67)) _).trans z3x3
                  have z3x4 := (drew_cell (wr.alloc (.cells #[.bool false, .int .i64 0, .int .i64 0, .int .i64 0, .string ⟨#[]⟩] 67)) _).trans z3x4
                  have z3F := fun o => (drew_frozen (wr.alloc (.cells #[.bool false, .int .i64 0, .int .i64 0, .int .i64 0, .string ⟨#[]⟩] 67)) _).trans (z3F o)
                  have z3L := drew_size_lt z3L
                  have z3M := z3B.drew
                  generalize (wr.alloc (.cells #[.bool false, .int .i64 0, .int .i64 0, .int .i64 0, .string ⟨#[]⟩] 67)).drew = w3 at *
                  refine hK.out _ _ ?_ (fun hHeld => ?_)
                  · try dsimp only
                    exact HSx.out _ z3M
                  clear hK K
                  have bl3 : wr.heap.size ≤ wr.heap.size := Nat.le_refl _
                  refine wpAnyH_ready (rs := [9]) (by kernel_rfl) (by simp) ?_
                  refine AllReadyH.cons rfl (fun K hK => ?_) AllReadyH.nil
                  go_simp
                  go_wp2_with (first | (go_at_call 19; refine (HBq.out _ (HBel.out.trans ((hHeld.2.2.2.2.2.2).mono HBel.out.size))).mono ?_; rintro e w4 ⟨rfl, hb4⟩; have b4 := (hHeld.2.2.2.2.2.2).trans (hb4.mono (hHeld.2.2.2.2.2.2).size)))
                  refine hK.out _ _ ?_ (fun hHeld => ?_)
                  · try dsimp only
                    exact HSx.out _ b4
                  clear hK K
                  have z4x0 := (hb4.cell z3L).trans z3x0
                  have z4x1 := (hb4.cell z3L).trans z3x1
                  have z4x2 := (hb4.cell z3L).trans z3x2
                  have z4x3 := (hb4.cell z3L).trans z3x3
                  have z4x4 := (hb4.cell z3L).trans z3x4
                  have z4F : ∀ o, w4.frozen? ⟨wr.heap.size, o, none⟩ = false := fun o => (hb4.frozen z3L).trans (z3F o)
                  have z4L : wr.heap.size < w4.heap.size := Nat.lt_of_lt_of_le z3L hb4.size
                  clear z3x0 z3x1 z3x2 z3x3 z3x4 z3F
                  refine tkA 10 35 (v := ?_) rfl (by kernel_rfl) (fun _ _ _ h => h) (by rfl) ?_ (by assumption) ?_; rotate_left; · (intro w hSw; (try dsimp only at hSw); go_simp; try with_reducible rfl)
                  simp only [pa]
                  refine tkA 11 46 (v := ?_) rfl (by kernel_rfl) (fun _ _ _ h => h) (by rfl) ?_ (by assumption) ?_; rotate_left; · (intro w hSw; (try dsimp only at hSw); go_simp; try with_reducible rfl)
                  simp only [pa]
                  refine tkA 12 47 (v := ?_) rfl (by kernel_rfl) (fun _ _ _ h => h) (by rfl) ?_ (by assumption) ?_; rotate_left; · (intro w hSw; (try dsimp only at hSw); go_simp; try with_reducible rfl)
                  simp only [pa]
                  refine wpAnyH_ready (rs := [14]) (by kernel_rfl) (by simp) ?_
                  refine AllReadyH.cons rfl (fun K hK => ?_) AllReadyH.nil
                  go_simp
                  refine hK.out _ _ ?_ (fun hHeld => ?_)
                  · try dsimp only
                    refine HSx.out _ ?_
                    repeat (with_reducible refine Below.setCell ?_ ?_ _; rotate_left; (focus (exact (bl3))))
                    exact (hHeld.2.2.2.2.2.2)
                  clear hK K
                  refine tkA 15 5 (v := ?_) rfl (by kernel_rfl) (fun _ _ _ h => h) (by rfl) ?_ (by assumption) ?_; rotate_left; · (intro w hSw; (try dsimp only at hSw); go_simp; try with_reducible rfl)
                  simp only [pa]
                  have HE := hidP (hHeld.2.2.2.2.2.2)
                  refine wpAnyH_done (by kernel_rfl) ?_ _
                  clear hHeld
                  go_wp2_with fail
                  go_meet
                  refine ⟨_, rfl, rfl, bl3, ?_, ?_, ?_, ?_, ?_, ?_, HE.out⟩
                  · simp; exact z4L
                  all_goals (simp [go_sem, z4x0, z4x1, z4x2, z4x3, z4x4])
              case rest =>
                obtain ⟨b, rfl, rfl, hb1, qL, q0, q1, q2, q3, q4, hX⟩ := hcut
                have HXB := hidP (HBel.out.trans (hX.mono HBel.out.size))
                have HXu := hidP (HBu.out.trans (hX.mono HBu.out.size))
                have E0 := (hX.cell BL).trans B0
                have E1 := (hX.cell BL).trans B1
                have E2 := (hX.cell BL).trans B2
                have EL : w.heap.size < wc.heap.size := Nat.lt_of_lt_of_le BL hX.size
                have f0 := (hX.cell hpL).trans d0
                have f1 := (hX.cell hpL).trans d1
                have f2 := (hX.cell hpL).trans d2
                have f3 := (hX.cell hpL).trans d3
                have f4 := (hX.cell hpL).trans d4
                have f5 := (hX.cell hpL).trans d5
                have fL : p < wc.heap.size := Nat.lt_of_lt_of_le hpL hX.size
                clear hX B0 B1 B2 B3 B4 B5 B6 B7 BL d0 d1 d2 d3 d4 d5 hpL HBq HBO
                cases r
                · have HF : Hid (ls.all (lieS bs) = false) := hidP (by rw [HPo.out, HLie.out]; rfl)
                  clear HPo HLie
                  go_wp2_with fail
                  have HSx : Hid (∀ x, Below wc.heap.size wc x → (x.cell? ⟨b, 4, none⟩ = some (.string y.t) ∧ x.cell? ⟨w.heap.size, 2, none⟩ = some (.slice (some ⟨p, o, none⟩) nl cl) ∧ x.cell? ⟨p, o + k * 6 + 3, none⟩ = some (.string q.t) ∧ Below wc.heap.size wc x)) := hidP fun x h =>
                    ⟨(h.cell qL).trans q4, (h.cell EL).trans E2, (h.cell fL).trans f3, h⟩
                  refine wp_region_held_drew (S := (fun x => x.cell? ⟨b, 4, none⟩ = some (.string y.t) ∧ x.cell? ⟨w.heap.size, 2, none⟩ = some (.slice (some ⟨p, o, none⟩) nl cl) ∧ x.cell? ⟨p, o + k * 6 + 3, none⟩ = some (.string q.t) ∧ Below wc.heap.size wc x)) (by kernel_rfl) ?_ (fun hHeld => ?_)
                  · try dsimp only
                    exact HSx.out _ ((Below.refl _ _).drew)
                  refine tkA 0 48 (v := ?_) rfl (by kernel_rfl) (fun _ _ _ h => h) (by rfl) ?_ (by assumption) ?_; rotate_left; · (intro w hSw; (try dsimp only at hSw); go_simp; try with_reducible rfl)
                  simp only [pa]
                  refine tkA 1 49 (v := ?_) rfl (by kernel_rfl) (fun _ _ _ h => h) (by rfl) ?_ (by assumption) ?_; rotate_left; · (intro w hSw; (try dsimp only at hSw); go_simp; try with_reducible rfl)
                  simp only [pa]
                  refine tkA 2 50 (v := ?_) rfl (by kernel_rfl) (fun _ _ _ h => h) (by rfl) ?_ (by assumption) ?_; rotate_left; · (intro w hSw; (try dsimp only at hSw); go_simp; try with_reducible rfl)
                  simp only [pa]
                  refine wpAnyH_take (i := 3) (oi := ⟨some 51, _, _, _, _, _⟩) (v := undef) rfl (by kernel_rfl) (by kernel_rfl) (by kernel_rfl) (fun _ _ _ h => h) (Or.inr ⟨by rfl, rfl⟩) (by assumption) ?_
                  simp only [pa]
                  refine wpAnyH_take (i := 4) (oi := ⟨some 52, _, _, _, _, _⟩) (v := undef) rfl (by kernel_rfl) (by kernel_rfl) (by kernel_rfl) (fun _ _ _ h => h) (Or.inr ⟨by rfl, rfl⟩) (by assumption) ?_
                  simp only [pa]
                  refine wpAnyH_take (i := 5) (oi := ⟨some 53, _, _, _, _, _⟩) (v := undef) rfl (by kernel_rfl) (by kernel_rfl) (by kernel_rfl) (fun _ _ _ h => h) (Or.inr ⟨by rfl, rfl⟩) (by assumption) ?_
                  simp only [pa]
                  refine wpAnyH_take (i := 6) (oi := ⟨some 54, _, _, _, _, _⟩) (v := undef) rfl (by kernel_rfl) (by kernel_rfl) (by kernel_rfl) (fun _ _ _ h => h) (Or.inr ⟨by rfl, rfl⟩) (by assumption) ?_
                  simp only [pa]
                  refine wpAnyH_take (i := 7) (oi := ⟨some 55, _, _, _, _, _⟩) (v := undef) rfl (by kernel_rfl) (by kernel_rfl) (by kernel_rfl) (fun _ _ _ h => h) (Or.inr ⟨by rfl, rfl⟩) (by assumption) ?_
                  simp only [pa]
                  refine wpAnyH_take (i := 8) (oi := ⟨some 56, _, _, _, _, _⟩) (v := undef) rfl (by kernel_rfl) (by kernel_rfl) (by kernel_rfl) (fun _ _ _ h => h) (Or.inr ⟨by rfl, rfl⟩) (by assumption) ?_
                  simp only [pa]
                  refine wpAnyH_take (i := 9) (oi := ⟨some 57, _, _, _, _, _⟩) (v := undef) rfl (by kernel_rfl) (by kernel_rfl) (by kernel_rfl) (fun _ _ _ h => h) (Or.inr ⟨by rfl, rfl⟩) (by assumption) ?_
                  simp only [pa]
                  refine wpAnyH_take (i := 10) (oi := ⟨some 58, _, _, _, _, _⟩) (v := undef) rfl (by kernel_rfl) (by kernel_rfl) (by kernel_rfl) (fun _ _ _ h => h) (Or.inr ⟨by rfl, rfl⟩) (by assumption) ?_
                  simp only [pa]
                  refine wpAnyH_take (i := 11) (oi := ⟨some 59, _, _, _, _, _⟩) (v := undef) rfl (by kernel_rfl) (by kernel_rfl) (by kernel_rfl) (fun _ _ _ h => h) (Or.inr ⟨by rfl, rfl⟩) (by assumption) ?_
                  simp only [pa]
                  refine wpAnyH_take (i := 12) (oi := ⟨some 60, _, _, _, _, _⟩) (v := undef) rfl (by kernel_rfl) (by kernel_rfl) (by kernel_rfl) (fun _ _ _ h => h) (Or.inr ⟨by rfl, rfl⟩) (by assumption) ?_
                  simp only [pa]
                  refine tkA 13 61 (v := ?_) rfl (by kernel_rfl) (fun _ _ _ h => h) (by rfl) ?_ (by assumption) ?_; rotate_left; · (intro w hSw; (try dsimp only at hSw); go_simp; try with_reducible rfl)
                  simp only [pa]
                  have HE := hidP (hHeld.2.2.2)
                  refine wpAnyH_done (by kernel_rfl) ?_ _
                  clear hHeld
                  go_wp2_with fail
                  go_ret
                  exact ⟨ret_b HF.out.symm, HXB.out.trans (HE.out.mono HXB.out.size)⟩
                · by_cases ho : y.t = q.t
                  · have HPn : Hid (ls.all (lieS bs) = (ls.drop (k + 1)).all (lieS bs)) := hidP (by rw [HPo.out, HLie.out, decide_eq_true ho]; rfl)
                    have ho1 : (y.t.toList == q.t.toList) = true := by rw [ho]; exact txt_eq _
                    have ho2 : decide (y.t = q.t) = true := decide_eq_true ho
                    clear HPo HLie
                    go_wp2_with fail
                    have HSx : Hid (∀ x, Below wc.heap.size wc x → (x.cell? ⟨b, 4, none⟩ = some (.string y.t) ∧ x.cell? ⟨w.heap.size, 2, none⟩ = some (.slice (some ⟨p, o, none⟩) nl cl) ∧ x.cell? ⟨p, o + k * 6 + 3, none⟩ = some (.string q.t) ∧ Below wc.heap.size wc x)) := hidP fun x h =>
                      ⟨(h.cell qL).trans q4, (h.cell EL).trans E2, (h.cell fL).trans f3, h⟩
                    refine wp_region_held_drew (S := (fun x => x.cell? ⟨b, 4, none⟩ = some (.string y.t) ∧ x.cell? ⟨w.heap.size, 2, none⟩ = some (.slice (some ⟨p, o, none⟩) nl cl) ∧ x.cell? ⟨p, o + k * 6 + 3, none⟩ = some (.string q.t) ∧ Below wc.heap.size wc x)) (by kernel_rfl) ?_ (fun hHeld => ?_)
                    · try dsimp only
                      exact HSx.out _ ((Below.refl _ _).drew)
                    refine tkA 0 48 (v := ?_) rfl (by kernel_rfl) (fun _ _ _ h => h) (by rfl) ?_ (by assumption) ?_; rotate_left; · (intro w hSw; (try dsimp only at hSw); go_simp; try with_reducible rfl)
                    simp only [pa]
                    refine tkA 1 49 (v := ?_) rfl (by kernel_rfl) (fun _ _ _ h => h) (by rfl) ?_ (by assumption) ?_; rotate_left; · (intro w hSw; (try dsimp only at hSw); go_simp; try with_reducible rfl)
                    simp only [pa]
                    refine tkA 2 50 (v := ?_) rfl (by kernel_rfl) (fun _ _ _ h => h) (by rfl) ?_ (by assumption) ?_; rotate_left; · (intro w hSw; (try dsimp only at hSw); go_simp; try with_reducible rfl)
                    simp only [pa]
                    refine tkA 3 51 (v := ?_) rfl (by kernel_rfl) (fun _ _ _ h => h) (by rfl) ?_ (by assumption) ?_; rotate_left; · (intro w hSw; (try dsimp only at hSw); go_simp; try with_reducible rfl)
                    simp only [pa]
                    refine tkA 4 52 (v := ?_) rfl (by kernel_rfl) (fun _ _ _ h => h) (by rfl) ?_ (by assumption) ?_; rotate_left; · (intro w hSw; (try dsimp only at hSw); go_simp; try with_reducible rfl)
                    simp only [pa]
                    refine tkA 5 53 (v := ?_) rfl (by kernel_rfl) (fun _ _ _ h => h) (by rfl) ?_ (by assumption) ?_; rotate_left; · (intro w hSw; (try dsimp only at hSw); go_simp; try with_reducible rfl)
                    simp only [pa]
                    refine tkA 6 54 (v := ?_) rfl (by kernel_rfl) (fun _ _ _ h => h) (by rfl) ?_ (by assumption) ?_; rotate_left; · (intro w hSw; (try dsimp only at hSw); go_simp; try with_reducible rfl)
                    simp only [pa]
                    refine tkA 7 55 (v := ?_) rfl (by kernel_rfl) (fun _ _ _ h => h) (by rfl) ?_ (by assumption) ?_; rotate_left; · (intro w hSw; (try dsimp only at hSw); go_simp; try with_reducible rfl)
                    simp only [pa]
                    refine tkA 8 56 (v := ?_) rfl (by kernel_rfl) (fun _ _ _ h => h) (by rfl) ?_ (by assumption) ?_; rotate_left; · (intro w hSw; (try dsimp only at hSw); go_simp; try with_reducible rfl)
                    simp only [pa]
                    refine tkA 9 57 (v := ?_) rfl (by kernel_rfl) (fun _ _ _ h => h) (by rfl) ?_ (by assumption) ?_; rotate_left; · (intro w hSw; (try dsimp only at hSw); go_simp; try with_reducible rfl)
                    simp only [pa]
                    refine tkA 10 58 (v := ?_) rfl (by kernel_rfl) (fun _ _ _ h => h) (by rfl) ?_ (by assumption) ?_; rotate_left; · (intro w hSw; (try dsimp only at hSw); go_simp; try with_reducible rfl)
                    simp only [pa]
                    refine tkA 11 59 (v := ?_) rfl (by kernel_rfl) (fun _ _ _ h => h) (by rfl) ?_ (by assumption) ?_; rotate_left; · (intro w hSw; (try dsimp only at hSw); go_simp; try with_reducible rfl)
                    simp only [pa]
                    refine tkA 12 60 (v := ?_) rfl (by kernel_rfl) (fun _ _ _ h => h) (by rfl) ?_ (by assumption) ?_; rotate_left; · (intro w hSw; (try dsimp only at hSw); go_simp; try with_reducible rfl)
                    simp only [pa]
                    refine tkA 13 61 (v := ?_) rfl (by kernel_rfl) (fun _ _ _ h => h) (by rfl) ?_ (by assumption) ?_; rotate_left; · (intro w hSw; (try dsimp only at hSw); go_simp; try with_reducible rfl)
                    simp only [pa]
                    have HE := hidP (hHeld.2.2.2)
                    refine wpAnyH_done (by kernel_rfl) ?_ _
                    clear hHeld
                    go_wp2_with fail
                    go_roundw
                    case rel => exact ⟨k + 1, by omega, by go_num, HPn.out, HXu.out.trans (HE.out.mono HXu.out.size)⟩
                    case measure => simp [intOf]; omega
                  · have ho1 := txt_ne ho
                    have ho2 : decide (y.t = q.t) = false := decide_eq_false ho
                    have HF : Hid (ls.all (lieS bs) = false) := hidP (by rw [HPo.out, HLie.out, ho2]; rfl)
                    clear HPo HLie
                    go_wp2_with fail
                    have HSx : Hid (∀ x, Below wc.heap.size wc x → (x.cell? ⟨b, 4, none⟩ = some (.string y.t) ∧ x.cell? ⟨w.heap.size, 2, none⟩ = some (.slice (some ⟨p, o, none⟩) nl cl) ∧ x.cell? ⟨p, o + k * 6 + 3, none⟩ = some (.string q.t) ∧ Below wc.heap.size wc x)) := hidP fun x h =>
                      ⟨(h.cell qL).trans q4, (h.cell EL).trans E2, (h.cell fL).trans f3, h⟩
                    refine wp_region_held_drew (S := (fun x => x.cell? ⟨b, 4, none⟩ = some (.string y.t) ∧ x.cell? ⟨w.heap.size, 2, none⟩ = some (.slice (some ⟨p, o, none⟩) nl cl) ∧ x.cell? ⟨p, o + k * 6 + 3, none⟩ = some (.string q.t) ∧ Below wc.heap.size wc x)) (by kernel_rfl) ?_ (fun hHeld => ?_)
                    · try dsimp only
                      exact HSx.out _ ((Below.refl _ _).drew)
                    refine tkA 0 48 (v := ?_) rfl (by kernel_rfl) (fun _ _ _ h => h) (by rfl) ?_ (by assumption) ?_; rotate_left; · (intro w hSw; (try dsimp only at hSw); go_simp; try with_reducible rfl)
                    simp only [pa]
                    refine tkA 1 49 (v := ?_) rfl (by kernel_rfl) (fun _ _ _ h => h) (by rfl) ?_ (by assumption) ?_; rotate_left; · (intro w hSw; (try dsimp only at hSw); go_simp; try with_reducible rfl)
                    simp only [pa]
                    refine tkA 2 50 (v := ?_) rfl (by kernel_rfl) (fun _ _ _ h => h) (by rfl) ?_ (by assumption) ?_; rotate_left; · (intro w hSw; (try dsimp only at hSw); go_simp; try with_reducible rfl)
                    simp only [pa]
                    refine tkA 3 51 (v := ?_) rfl (by kernel_rfl) (fun _ _ _ h => h) (by rfl) ?_ (by assumption) ?_; rotate_left; · (intro w hSw; (try dsimp only at hSw); go_simp; try with_reducible rfl)
                    simp only [pa]
                    refine tkA 4 52 (v := ?_) rfl (by kernel_rfl) (fun _ _ _ h => h) (by rfl) ?_ (by assumption) ?_; rotate_left; · (intro w hSw; (try dsimp only at hSw); go_simp; try with_reducible rfl)
                    simp only [pa]
                    refine tkA 5 53 (v := ?_) rfl (by kernel_rfl) (fun _ _ _ h => h) (by rfl) ?_ (by assumption) ?_; rotate_left; · (intro w hSw; (try dsimp only at hSw); go_simp; try with_reducible rfl)
                    simp only [pa]
                    refine tkA 6 54 (v := ?_) rfl (by kernel_rfl) (fun _ _ _ h => h) (by rfl) ?_ (by assumption) ?_; rotate_left; · (intro w hSw; (try dsimp only at hSw); go_simp; try with_reducible rfl)
                    simp only [pa]
                    refine tkA 7 55 (v := ?_) rfl (by kernel_rfl) (fun _ _ _ h => h) (by rfl) ?_ (by assumption) ?_; rotate_left; · (intro w hSw; (try dsimp only at hSw); go_simp; try with_reducible rfl)
                    simp only [pa]
                    refine tkA 8 56 (v := ?_) rfl (by kernel_rfl) (fun _ _ _ h => h) (by rfl) ?_ (by assumption) ?_; rotate_left; · (intro w hSw; (try dsimp only at hSw); go_simp; try with_reducible rfl)
                    simp only [pa]
                    refine tkA 9 57 (v := ?_) rfl (by kernel_rfl) (fun _ _ _ h => h) (by rfl) ?_ (by assumption) ?_; rotate_left; · (intro w hSw; (try dsimp only at hSw); go_simp; try with_reducible rfl)
                    simp only [pa]
                    refine tkA 10 58 (v := ?_) rfl (by kernel_rfl) (fun _ _ _ h => h) (by rfl) ?_ (by assumption) ?_; rotate_left; · (intro w hSw; (try dsimp only at hSw); go_simp; try with_reducible rfl)
                    simp only [pa]
                    refine tkA 11 59 (v := ?_) rfl (by kernel_rfl) (fun _ _ _ h => h) (by rfl) ?_ (by assumption) ?_; rotate_left; · (intro w hSw; (try dsimp only at hSw); go_simp; try with_reducible rfl)
                    simp only [pa]
                    refine tkA 12 60 (v := ?_) rfl (by kernel_rfl) (fun _ _ _ h => h) (by rfl) ?_ (by assumption) ?_; rotate_left; · (intro w hSw; (try dsimp only at hSw); go_simp; try with_reducible rfl)
                    simp only [pa]
                    refine tkA 13 61 (v := ?_) rfl (by kernel_rfl) (fun _ _ _ h => h) (by rfl) ?_ (by assumption) ?_; rotate_left; · (intro w hSw; (try dsimp only at hSw); go_simp; try with_reducible rfl)
                    simp only [pa]
                    have HE := hidP (hHeld.2.2.2)
                    refine wpAnyH_done (by kernel_rfl) ?_ _
                    clear hHeld
                    go_wp2_with fail
                    go_ret
                    exact ⟨ret_b HF.out.symm, HXB.out.trans (HE.out.mono HXB.out.size)⟩
            · have HX : Hid (ls.all (lieS bs) = true) := by
                rw [List.drop_of_length_le (by have := HN.out; omega)] at hpo
                exact hidP hpo
              clear hbel hpo
              go_wp2_with fail
              go_ret
              exact ⟨ret_b HX.out.symm, HBel.out⟩
        · have hc2 : C < 0 := of_decide_eq_true hc
          have hc3 : decide (0 ≤ C) = false := decide_eq_false (by omega)
          rw [hc3]
          clear HA hc3
          go_enter Tryz.func6, Tryz.ntmps6
          go_wp2_with fail
          obtain ⟨bx0_W1, bx1_W1, bx2_W1, bx3_W1, bx4_W1, bx5_W1, bx6_W1, bx7_W1⟩ := bx8 w 47 (.slice ap np cp) (.slice ab nb cb) (.slice al nl cl) (.int .i64 T) (.int .i64 N) (.slice aS ns cs) (.int .i64 X) (.int .i64 C)
          have bxF_W1 : ∀ o, (w.alloc (.cells #[.slice ap np cp, .slice ab nb cb, .slice al nl cl, .int .i64 T, .int .i64 N, .slice aS ns cs, .int .i64 X, .int .i64 C] 47)).frozen? ⟨w.heap.size, o, none⟩ = false := fun o => by simp [go_sem]
          have bxL_W1 : w.heap.size < (w.alloc (.cells #[.slice ap np cp, .slice ab nb cb, .slice al nl cl, .int .i64 T, .int .i64 N, .slice aS ns cs, .int .i64 X, .int .i64 C] 47)).heap.size := by simp
          have ab_W1 := alloc_below w (.cells #[.slice ap np cp, .slice ab nb cb, .slice al nl cl, .int .i64 T, .int .i64 N, .slice aS ns cs, .int .i64 X, .int .i64 C] 47)
          have as_W1 : Hid ((w.alloc (.cells #[.slice ap np cp, .slice ab nb cb, .slice al nl cl, .int .i64 T, .int .i64 N, .slice aS ns cs, .int .i64 X, .int .i64 C] 47)).heap.size = w.heap.size + 1) := hidP (by simp)
          generalize w.alloc (.cells #[.slice ap np cp, .slice ab nb cb, .slice al nl cl, .int .i64 T, .int .i64 N, .slice aS ns cs, .int .i64 X, .int .i64 C] 47) = W1 at *
          have acc_W1 := hidP (ab_W1)
          have sz_W1 : Hid (w.heap.size ≤ W1.heap.size) := hidP ab_W1.size
          clear ab_W1 
          refine (HP.out _ acc_W1.out).mono ?_
          rintro e u0 ⟨rfl, hb0⟩
          have bx0_u0 := (hb0.cell bxL_W1).trans bx0_W1
          have bx1_u0 := (hb0.cell bxL_W1).trans bx1_W1
          have bx2_u0 := (hb0.cell bxL_W1).trans bx2_W1
          have bx3_u0 := (hb0.cell bxL_W1).trans bx3_W1
          have bx4_u0 := (hb0.cell bxL_W1).trans bx4_W1
          have bx5_u0 := (hb0.cell bxL_W1).trans bx5_W1
          have bx6_u0 := (hb0.cell bxL_W1).trans bx6_W1
          have bx7_u0 := (hb0.cell bxL_W1).trans bx7_W1
          have bxF_u0 : ∀ o, u0.frozen? ⟨w.heap.size, o, none⟩ = false := fun o => (hb0.frozen bxL_W1).trans (bxF_W1 o)
          have bxL_u0 : w.heap.size < u0.heap.size := Nat.lt_of_lt_of_le bxL_W1 hb0.size
          have acc_u0 := hidP (acc_W1.out.trans (hb0.mono acc_W1.out.size))
          have sz_u0 : Hid (W1.heap.size ≤ u0.heap.size) := hidP hb0.size
          clear hb0 bx0_W1 bx1_W1 bx2_W1 bx3_W1 bx4_W1 bx5_W1 bx6_W1 bx7_W1 bxF_W1 bxL_W1 acc_W1
          go_wp2_with fail
          refine (HB.out _ acc_u0.out).mono ?_
          rintro e u1 ⟨rfl, hb1⟩
          have bx0_u1 := (hb1.cell bxL_u0).trans bx0_u0
          have bx1_u1 := (hb1.cell bxL_u0).trans bx1_u0
          have bx2_u1 := (hb1.cell bxL_u0).trans bx2_u0
          have bx3_u1 := (hb1.cell bxL_u0).trans bx3_u0
          have bx4_u1 := (hb1.cell bxL_u0).trans bx4_u0
          have bx5_u1 := (hb1.cell bxL_u0).trans bx5_u0
          have bx6_u1 := (hb1.cell bxL_u0).trans bx6_u0
          have bx7_u1 := (hb1.cell bxL_u0).trans bx7_u0
          have bxF_u1 : ∀ o, u1.frozen? ⟨w.heap.size, o, none⟩ = false := fun o => (hb1.frozen bxL_u0).trans (bxF_u0 o)
          have bxL_u1 : w.heap.size < u1.heap.size := Nat.lt_of_lt_of_le bxL_u0 hb1.size
          have acc_u1 := hidP (acc_u0.out.trans (hb1.mono acc_u0.out.size))
          have sz_u1 : Hid (u0.heap.size ≤ u1.heap.size) := hidP hb1.size
          clear hb1 bx0_u0 bx1_u0 bx2_u0 bx3_u0 bx4_u0 bx5_u0 bx6_u0 bx7_u0 bxF_u0 bxL_u0 acc_u0
          go_wp2_with fail
          refine (HD.out _ acc_u1.out).mono ?_
          rintro e u2 ⟨rfl, hb2⟩
          have bx0_u2 := (hb2.cell bxL_u1).trans bx0_u1
          have bx1_u2 := (hb2.cell bxL_u1).trans bx1_u1
          have bx2_u2 := (hb2.cell bxL_u1).trans bx2_u1
          have bx3_u2 := (hb2.cell bxL_u1).trans bx3_u1
          have bx4_u2 := (hb2.cell bxL_u1).trans bx4_u1
          have bx5_u2 := (hb2.cell bxL_u1).trans bx5_u1
          have bx6_u2 := (hb2.cell bxL_u1).trans bx6_u1
          have bx7_u2 := (hb2.cell bxL_u1).trans bx7_u1
          have bxF_u2 : ∀ o, u2.frozen? ⟨w.heap.size, o, none⟩ = false := fun o => (hb2.frozen bxL_u1).trans (bxF_u1 o)
          have bxL_u2 : w.heap.size < u2.heap.size := Nat.lt_of_lt_of_le bxL_u1 hb2.size
          have acc_u2 := hidP (acc_u1.out.trans (hb2.mono acc_u1.out.size))
          have sz_u2 : Hid (u1.heap.size ≤ u2.heap.size) := hidP hb2.size
          clear hb2 bx0_u1 bx1_u1 bx2_u1 bx3_u1 bx4_u1 bx5_u1 bx6_u1 bx7_u1 bxF_u1 bxL_u1 acc_u1
          go_wp2_with fail
          go_ret
          exact ⟨rfl, acc_u2.out⟩

end Go.Proofs.YtplocbpngikohaaGreat
namespace Go.Proofs.YtplocbpngikohaaGreat
open Go.ChangeShapes Go.WideShapes Go.ChangeAt Go.RowKit Go.Joins Go.Deep

theorem Tryz.ownB9 : ownKnob Tryz.prog.godebug = none := by kernel_rfl
theorem Tryz.laidOutB9 : laidOutB Tryz.prog = true := by kernel_rfl
theorem slice_of {H : Type} {enc : TypeId × Value → H} {W : World} {t e : TypeId} {n : Nat} {u : Value} {y : DataW H × List MemPlace} (ht : Tryz.prog.underlying t = some (.slice e)) (h : DataW.trod enc Tryz.prog W 0 (fun _ => true) true n t [u] = some y) : ∃ a l c, u = .slice a l c := by
  rcases open_slice ht h with ⟨hcs, _⟩ | ⟨a', len', cap', m, n', D, Plc, hcs, _⟩
  · simp at hcs; exact ⟨_, _, _, hcs⟩
  · simp at hcs; exact ⟨_, _, _, hcs⟩
theorem array8 {α : Type} {cs : Array α} (h : cs.size = 8) : ∃ c0 c1 c2 c3 c4 c5 c6 c7, cs = #[c0, c1, c2, c3, c4, c5, c6, c7] := by
  obtain ⟨l⟩ := cs
  match l, h with
  | [c0, c1, c2, c3, c4, c5, c6, c7], _ => exact ⟨c0, c1, c2, c3, c4, c5, c6, c7, rfl⟩
set_option maxRecDepth 100000 in
set_option maxHeartbeats 1000000 in
theorem openState {H : Type} {enc : TypeId × Value → H} {W : World} {r : Reach} {b0 : Nat} {v : Value} {d : DataW H} {p : List MemPlace} (hv : Value.okWide Tryz.prog W r b0 33 v)
    (h : DataW.Trod enc Tryz.prog W 0 (fun _ => true) true 33 v d p) : ∃ (ap : Option Addr) (np cp : Nat) (ab : Option Addr) (nb cb : Nat) (al : Option Addr) (nl cl : Nat) (T N : Int) (aS : Option Addr) (ns cs : Nat) (X C : Int) (ps : List Pl) (bs : List Bk) (ls : List Ls) (ss : List Ss), v = .agg #[.slice ap np cp, .slice ab nb cb, .slice al nl cl, .int .i64 T, .int .i64 N, .slice aS ns cs, .int .i64 X, .int .i64 C] ∧ (np = ps.length ∧ nb = bs.length ∧ nl = ls.length ∧ ns = ss.length) ∧ (RowG KPl W ap ps ∧ RowG KBk W ab bs ∧ RowG KLs W al ls ∧ RowG KSs W aS ss) ∧ (np ≤ 9223372036854775807 ∧ nb ≤ 9223372036854775807 ∧ nl ≤ 9223372036854775807 ∧ ns ≤ 9223372036854775807) ∧ (∀ q ∈ bs, q.t.size ≤ 9223372036854775807) ∧ (∀ q ∈ ls, q.t.size ≤ 9223372036854775807) ∧ (∀ q ∈ ss, q.t.size ≤ 9223372036854775807) := by
  obtain ⟨cs, rfl, hsz⟩ := okWide_struct Tryz.underlying33 hv
  have hC : Tryz.prog.cellsOf 33 = 8 := by kernel_rfl
  obtain ⟨c0, c1, c2, c3, c4, c5, c6, c7, rfl⟩ := array8 (hsz.trans hC)
  obtain ⟨fuel, hf⟩ := h
  obtain ⟨xs, n, _, _, _, hlen, hx⟩ := DataW.trod_struct Tryz.underlying33 hf
  have kP : Tryz.prog.cellsOf 25 = 2 := by kernel_rfl
  have kB : Tryz.prog.cellsOf 28 = 3 := by kernel_rfl
  have kD : Tryz.prog.cellsOf 31 = 2 := by kernel_rfl
  have ki : Tryz.prog.cellsOf 3 = 1 := by kernel_rfl
  have k1 : Tryz.prog.cellsOf 22 = 1 := by kernel_rfl
  have k2 : Tryz.prog.cellsOf 23 = 1 := by kernel_rfl
  have k3 : Tryz.prog.cellsOf 26 = 1 := by kernel_rfl
  have k4 : Tryz.prog.cellsOf 29 = 1 := by kernel_rfl
  match xs, hlen with
  | [y0, y1, y2, y3], _ =>
    have f0 := hx 0 _ rfl; have f1 := hx 1 _ rfl; have f2 := hx 2 _ rfl; have f3 := hx 3 _ rfl
    simp [Value.cells, kP, kB, kD, ki] at f0 f1 f2 f3
    obtain ⟨z0, z1, m, _, _, g0, g1⟩ := trod_struct2 Tryz.underlying25 f0
    simp [k1, k2] at g0 g1
    obtain ⟨u0, u1, u2, m2, _, _, j0, j1, j2⟩ := trod_struct3 Tryz.underlying28 f1
    simp [k3, ki] at j0 j1 j2
    obtain ⟨w0, w1, m3, _, _, l0, l1⟩ := trod_struct2 Tryz.underlying31 f2
    simp [k4, ki] at l0 l1
    obtain ⟨ap, np, cp, rfl⟩ := slice_of Tryz.underlying22 g0
    obtain ⟨ab, nb, cb, rfl⟩ := slice_of Tryz.underlying23 g1
    obtain ⟨al, nl, cl, rfl⟩ := slice_of Tryz.underlying26 j0
    obtain ⟨aS, ns, cs, rfl⟩ := slice_of Tryz.underlying29 l0
    obtain ⟨ps, e1, q1, r1⟩ := openPl (enc := enc) (W := W) (a := ap) (len := np) (cap := cp) (d := z0.1) (p := z0.2) ⟨m, by simpa [Value.cells] using g0⟩
    obtain ⟨bs, e2, q2, r2, s2⟩ := openBk2 (enc := enc) (W := W) (a := ab) (len := nb) (cap := cb) (d := z1.1) (p := z1.2) ⟨m, by simpa [Value.cells] using g1⟩
    obtain ⟨ls, e3, q3, r3, s3⟩ := openLs (enc := enc) (W := W) (a := al) (len := nl) (cap := cl) (d := u0.1) (p := u0.2) ⟨m2, by simpa [Value.cells] using j0⟩
    obtain ⟨ss, e4, q4, r4, s4⟩ := openSs (enc := enc) (W := W) (a := aS) (len := ns) (cap := cs) (d := w0.1) (p := w0.2) ⟨m3, by simpa [Value.cells] using l0⟩
    obtain ⟨T, eT, _, _⟩ := DataW.trod_int Tryz.underlying3 j1
    obtain ⟨N, eN, _, _⟩ := DataW.trod_int Tryz.underlying3 j2
    obtain ⟨X, eX, _, _⟩ := DataW.trod_int Tryz.underlying3 l1
    obtain ⟨C, eC, _, _⟩ := DataW.trod_int Tryz.underlying3 f3
    simp at eT eN eX eC
    subst eT eN eX eC
    exact ⟨ap, np, cp, ab, nb, cb, al, nl, cl, T, N, aS, ns, cs, X, C, ps, bs, ls, ss, rfl, ⟨e1.symm, e2.symm, e3.symm, e4.symm⟩, ⟨r1, r2, r3, r4⟩, ⟨q1, q2, q3, q4⟩, s2, s3, s4⟩

end Go.Proofs.YtplocbpngikohaaGreat
namespace Go.Proofs.YtplocbpngikohaaGreat
open Go.ChangeShapes Go.WideShapes Go.ChangeAt Go.RowKit Go.Joins Go.Deep

set_option maxRecDepth 10000 in
set_option maxHeartbeats 8000000 in
theorem lawStateOk (ap : Option Addr) (np cp : Nat) (ab : Option Addr) (nb cb : Nat) (al : Option Addr) (nl cl : Nat) (T N : Int) (aS : Option Addr) (ns cs : Nat) (X C : Int) (ps : List Pl) (bs : List Bk) (ls : List Ls) (ss : List Ss) (w : World) (hnp : np = ps.length) (hnb : nb = bs.length) (hnl : nl = ls.length) (hns : ns = ss.length) (hP : RowG KPl w ap ps) (hK : RowG KBk w ab bs) (hL : RowG KLs w al ls) (hS : RowG KSs w aS ss) (h9p : np ≤ 9223372036854775807) (h9b : nb ≤ 9223372036854775807) (h9l : nl ≤ 9223372036854775807) (h9s : ns ≤ 9223372036854775807) (hsb : ∀ q ∈ bs, q.t.size ≤ 9223372036854775807) (hsl : ∀ q ∈ ls, q.t.size ≤ 9223372036854775807) (hss : ∀ q ∈ ss, q.t.size ≤ 9223372036854775807) :
    Calls Tryz.prog 3 #[.agg #[.slice ap np cp, .slice ab nb cb, .slice al nl cl, .int .i64 T, .int .i64 N, .slice aS ns cs, .int .i64 X, .int .i64 C]] w fun e w' => e = .returned (.bool true) ∧ Below w.heap.size w w' := by
  have HSz := hidP (fun W h => szState_any ap np cp ab nb cb al nl cl T N aS ns cs X C ps bs ls ss W hnp hnb hnl hns (hK.later h) (hL.later h) (hS.later h) h9p h9b h9l h9s hsb hsl hss)
  by_cases ht : totS ps bs ls ss ≤ 1048576
  · rw [szT_yes ht] at HSz
    have n1 := totP_nn ps bs
    have n2 := totB_nn ls
    have n3 := totD_nn ss
    have hlp : np ≤ 1048576 := by unfold totS at ht; unfold totP at ht; omega
    have hlb : nb ≤ 1048576 := by unfold totS at ht; unfold totP at ht; omega
    have hll : nl ≤ 1048576 := by unfold totS at ht; unfold totB at ht; omega
    have hls : ns ≤ 1048576 := by unfold totS at ht; unfold totD at ht; omega
    have HTo := hidP (fun W h => toState_any ap np cp ab nb cb al nl cl T N aS ns cs X C ps bs ls ss W hnp hnb hnl hns (hP.later h) (hK.later h) (hL.later h) (hS.later h) hlp hlb hll hls)
    have HEq := hidP (fun W g h i j g' h' i' j' e1 e2 e3 e4 e5 e6 e7 e8 => eqState_same (some ⟨g, 0, none⟩) np np (some ⟨h, 0, none⟩) nb nb (some ⟨i, 0, none⟩) nl nl T N (some ⟨j, 0, none⟩) ns ns X C ps bs ls ss (some ⟨g', 0, none⟩) np (some ⟨h', 0, none⟩) nb (some ⟨i', 0, none⟩) nl (some ⟨j', 0, none⟩) ns W hnp hnb hnl hns e1 e2 e3 e4 e5 e6 e7 e8 (by omega) (by omega) (by omega) (by omega))
    have HSp := hidP (fun W g h i j e1 e2 e3 e4 => sStateOk_any (some ⟨g, 0, none⟩) np np (some ⟨h, 0, none⟩) nb nb (some ⟨i, 0, none⟩) nl nl T N (some ⟨j, 0, none⟩) ns ns X C ps bs ls ss W hnp hnb hnl hns e1 e2 e3 e4 hlp hlb hll hls hsb hsl)
    have HIm := hidP (fun W g h i j e1 e2 e3 e4 => iStateOk_any (some ⟨g, 0, none⟩) np np (some ⟨h, 0, none⟩) nb nb (some ⟨i, 0, none⟩) nl nl T N (some ⟨j, 0, none⟩) ns ns X C ps bs ls ss W hnp hnb hnl hns e1 e2 e3 e4 hlp hlb hll hls hsb hsl)
    generalize stB ps bs ls T N ss X C = r at *
    have d1 : decide (1048576 - totS ps bs ls ss < 0) = false := decide_eq_false (by omega)
    have d2 : ¬ (1048576 - totS ps bs ls ss < 0) := by omega
    generalize 1048576 - totS ps bs ls ss = z at *
    clear hP hK hL hS hnp hnb hnl hns hsb hsl hss ht n1 n2 n3
    go_enter Tryz.func3, Tryz.ntmps3
    go_wp2_with fail
    obtain ⟨ab0_W1, ab1_W1, ab2_W1, ab3_W1, ab4_W1, ab5_W1, ab6_W1, ab7_W1⟩ := bx8 w 33 (.slice ap np cp) (.slice ab nb cb) (.slice al nl cl) (.int .i64 T) (.int .i64 N) (.slice aS ns cs) (.int .i64 X) (.int .i64 C)
    have abF_W1 : ∀ o, (w.alloc (.cells #[.slice ap np cp, .slice ab nb cb, .slice al nl cl, .int .i64 T, .int .i64 N, .slice aS ns cs, .int .i64 X, .int .i64 C] 33)).frozen? ⟨w.heap.size, o, none⟩ = false := fun o => by simp [go_sem]
    have abL_W1 : w.heap.size < (w.alloc (.cells #[.slice ap np cp, .slice ab nb cb, .slice al nl cl, .int .i64 T, .int .i64 N, .slice aS ns cs, .int .i64 X, .int .i64 C] 33)).heap.size := by simp
    have ab_W1 := alloc_below w (.cells #[.slice ap np cp, .slice ab nb cb, .slice al nl cl, .int .i64 T, .int .i64 N, .slice aS ns cs, .int .i64 X, .int .i64 C] 33)
    have as_W1 : Hid ((w.alloc (.cells #[.slice ap np cp, .slice ab nb cb, .slice al nl cl, .int .i64 T, .int .i64 N, .slice aS ns cs, .int .i64 X, .int .i64 C] 33)).heap.size = w.heap.size + 1) := hidP (by simp)
    generalize w.alloc (.cells #[.slice ap np cp, .slice ab nb cb, .slice al nl cl, .int .i64 T, .int .i64 N, .slice aS ns cs, .int .i64 X, .int .i64 C] 33) = W1 at *
    have acc_W1 := hidP (ab_W1)
    have sz_W1 : Hid (w.heap.size ≤ W1.heap.size) := hidP ab_W1.size
    clear ab_W1 
    refine (HSz.out _ acc_W1.out).mono ?_
    rintro e w2 ⟨rfl, hb2⟩
    have ab0_w2 := (hb2.cell abL_W1).trans ab0_W1
    have ab1_w2 := (hb2.cell abL_W1).trans ab1_W1
    have ab2_w2 := (hb2.cell abL_W1).trans ab2_W1
    have ab3_w2 := (hb2.cell abL_W1).trans ab3_W1
    have ab4_w2 := (hb2.cell abL_W1).trans ab4_W1
    have ab5_w2 := (hb2.cell abL_W1).trans ab5_W1
    have ab6_w2 := (hb2.cell abL_W1).trans ab6_W1
    have ab7_w2 := (hb2.cell abL_W1).trans ab7_W1
    have abF_w2 : ∀ o, w2.frozen? ⟨w.heap.size, o, none⟩ = false := fun o => (hb2.frozen abL_W1).trans (abF_W1 o)
    have abL_w2 : w.heap.size < w2.heap.size := Nat.lt_of_lt_of_le abL_W1 hb2.size
    have acc_w2 := hidP (acc_W1.out.trans (hb2.mono acc_W1.out.size))
    have sz_w2 : Hid (W1.heap.size ≤ w2.heap.size) := hidP hb2.size
    clear hb2 ab0_W1 ab1_W1 ab2_W1 ab3_W1 ab4_W1 ab5_W1 ab6_W1 ab7_W1 abF_W1 abL_W1 acc_W1
    go_wp2_with fail
    refine (HTo.out _ acc_w2.out).mono ?_
    rintro e w3 ⟨g3, h3, i3, j3, rfl, og3, oh3, oi3, oj3, hb3⟩
    have OP3 := hidP og3
    have OQ3 := hidP oh3
    have OR3 := hidP oi3
    have OS3 := hidP oj3
    clear og3 oh3 oi3 oj3
    have ab0_w3 := (hb3.cell abL_w2).trans ab0_w2
    have ab1_w3 := (hb3.cell abL_w2).trans ab1_w2
    have ab2_w3 := (hb3.cell abL_w2).trans ab2_w2
    have ab3_w3 := (hb3.cell abL_w2).trans ab3_w2
    have ab4_w3 := (hb3.cell abL_w2).trans ab4_w2
    have ab5_w3 := (hb3.cell abL_w2).trans ab5_w2
    have ab6_w3 := (hb3.cell abL_w2).trans ab6_w2
    have ab7_w3 := (hb3.cell abL_w2).trans ab7_w2
    have abF_w3 : ∀ o, w3.frozen? ⟨w.heap.size, o, none⟩ = false := fun o => (hb3.frozen abL_w2).trans (abF_w2 o)
    have abL_w3 : w.heap.size < w3.heap.size := Nat.lt_of_lt_of_le abL_w2 hb3.size
    have acc_w3 := hidP (acc_w2.out.trans (hb3.mono acc_w2.out.size))
    have sz_w3 : Hid (w2.heap.size ≤ w3.heap.size) := hidP hb3.size
    clear hb3 ab0_w2 ab1_w2 ab2_w2 ab3_w2 ab4_w2 ab5_w2 ab6_w2 ab7_w2 abF_w2 abL_w2 acc_w2
    go_wp2_with fail
    refine (HSp.out _ g3 h3 i3 j3 OP3.out.row OQ3.out.row OR3.out.row OS3.out.row).mono ?_
    rintro e w4 ⟨rfl, hb4⟩
    clear OP3 OQ3 OR3 OS3
    have ab0_w4 := (hb4.cell abL_w3).trans ab0_w3
    have ab1_w4 := (hb4.cell abL_w3).trans ab1_w3
    have ab2_w4 := (hb4.cell abL_w3).trans ab2_w3
    have ab3_w4 := (hb4.cell abL_w3).trans ab3_w3
    have ab4_w4 := (hb4.cell abL_w3).trans ab4_w3
    have ab5_w4 := (hb4.cell abL_w3).trans ab5_w3
    have ab6_w4 := (hb4.cell abL_w3).trans ab6_w3
    have ab7_w4 := (hb4.cell abL_w3).trans ab7_w3
    have abF_w4 : ∀ o, w4.frozen? ⟨w.heap.size, o, none⟩ = false := fun o => (hb4.frozen abL_w3).trans (abF_w3 o)
    have abL_w4 : w.heap.size < w4.heap.size := Nat.lt_of_lt_of_le abL_w3 hb4.size
    have acc_w4 := hidP (acc_w3.out.trans (hb4.mono acc_w3.out.size))
    have sz_w4 : Hid (w3.heap.size ≤ w4.heap.size) := hidP hb4.size
    clear hb4 ab0_w3 ab1_w3 ab2_w3 ab3_w3 ab4_w3 ab5_w3 ab6_w3 ab7_w3 abF_w3 abL_w3 acc_w3
    go_wp2_with fail
    refine (HTo.out _ acc_w4.out).mono ?_
    rintro e w5 ⟨g5, h5, i5, j5, rfl, og5, oh5, oi5, oj5, hb5⟩
    have OP5 := hidP og5
    have OQ5 := hidP oh5
    have OR5 := hidP oi5
    have OS5 := hidP oj5
    clear og5 oh5 oi5 oj5
    have ab0_w5 := (hb5.cell abL_w4).trans ab0_w4
    have ab1_w5 := (hb5.cell abL_w4).trans ab1_w4
    have ab2_w5 := (hb5.cell abL_w4).trans ab2_w4
    have ab3_w5 := (hb5.cell abL_w4).trans ab3_w4
    have ab4_w5 := (hb5.cell abL_w4).trans ab4_w4
    have ab5_w5 := (hb5.cell abL_w4).trans ab5_w4
    have ab6_w5 := (hb5.cell abL_w4).trans ab6_w4
    have ab7_w5 := (hb5.cell abL_w4).trans ab7_w4
    have abF_w5 : ∀ o, w5.frozen? ⟨w.heap.size, o, none⟩ = false := fun o => (hb5.frozen abL_w4).trans (abF_w4 o)
    have abL_w5 : w.heap.size < w5.heap.size := Nat.lt_of_lt_of_le abL_w4 hb5.size
    have acc_w5 := hidP (acc_w4.out.trans (hb5.mono acc_w4.out.size))
    have sz_w5 : Hid (w4.heap.size ≤ w5.heap.size) := hidP hb5.size
    clear hb5 ab0_w4 ab1_w4 ab2_w4 ab3_w4 ab4_w4 ab5_w4 ab6_w4 ab7_w4 abF_w4 abL_w4 acc_w4
    have oP5_w5 := hidP (OP5.out)
    have oQ5_w5 := hidP (OQ5.out)
    have oR5_w5 := hidP (OR5.out)
    have oS5_w5 := hidP (OS5.out)
    clear OP5 OQ5 OR5 OS5
    go_wp2_with fail
    obtain ⟨xa0_W6, xa1_W6, xa2_W6, xa3_W6, xa4_W6, xa5_W6, xa6_W6, xa7_W6⟩ := bx8 w5 47 (.slice (some ⟨g5, 0, none⟩) np np) (.slice (some ⟨h5, 0, none⟩) nb nb) (.slice (some ⟨i5, 0, none⟩) nl nl) (.int .i64 T) (.int .i64 N) (.slice (some ⟨j5, 0, none⟩) ns ns) (.int .i64 X) (.int .i64 C)
    have xaF_W6 : ∀ o, (w5.alloc (.cells #[.slice (some ⟨g5, 0, none⟩) np np, .slice (some ⟨h5, 0, none⟩) nb nb, .slice (some ⟨i5, 0, none⟩) nl nl, .int .i64 T, .int .i64 N, .slice (some ⟨j5, 0, none⟩) ns ns, .int .i64 X, .int .i64 C] 47)).frozen? ⟨w5.heap.size, o, none⟩ = false := fun o => by simp [go_sem]
    have xaL_W6 : w5.heap.size < (w5.alloc (.cells #[.slice (some ⟨g5, 0, none⟩) np np, .slice (some ⟨h5, 0, none⟩) nb nb, .slice (some ⟨i5, 0, none⟩) nl nl, .int .i64 T, .int .i64 N, .slice (some ⟨j5, 0, none⟩) ns ns, .int .i64 X, .int .i64 C] 47)).heap.size := by simp
    have ab_W6 := alloc_below w5 (.cells #[.slice (some ⟨g5, 0, none⟩) np np, .slice (some ⟨h5, 0, none⟩) nb nb, .slice (some ⟨i5, 0, none⟩) nl nl, .int .i64 T, .int .i64 N, .slice (some ⟨j5, 0, none⟩) ns ns, .int .i64 X, .int .i64 C] 47)
    have as_W6 : Hid ((w5.alloc (.cells #[.slice (some ⟨g5, 0, none⟩) np np, .slice (some ⟨h5, 0, none⟩) nb nb, .slice (some ⟨i5, 0, none⟩) nl nl, .int .i64 T, .int .i64 N, .slice (some ⟨j5, 0, none⟩) ns ns, .int .i64 X, .int .i64 C] 47)).heap.size = w5.heap.size + 1) := hidP (by simp)
    generalize w5.alloc (.cells #[.slice (some ⟨g5, 0, none⟩) np np, .slice (some ⟨h5, 0, none⟩) nb nb, .slice (some ⟨i5, 0, none⟩) nl nl, .int .i64 T, .int .i64 N, .slice (some ⟨j5, 0, none⟩) ns ns, .int .i64 X, .int .i64 C] 47) = W6 at *
    have ab0_W6 := (ab_W6.cell abL_w5).trans ab0_w5
    have ab1_W6 := (ab_W6.cell abL_w5).trans ab1_w5
    have ab2_W6 := (ab_W6.cell abL_w5).trans ab2_w5
    have ab3_W6 := (ab_W6.cell abL_w5).trans ab3_w5
    have ab4_W6 := (ab_W6.cell abL_w5).trans ab4_w5
    have ab5_W6 := (ab_W6.cell abL_w5).trans ab5_w5
    have ab6_W6 := (ab_W6.cell abL_w5).trans ab6_w5
    have ab7_W6 := (ab_W6.cell abL_w5).trans ab7_w5
    have abF_W6 : ∀ o, W6.frozen? ⟨w.heap.size, o, none⟩ = false := fun o => (ab_W6.frozen abL_w5).trans (abF_w5 o)
    have abL_W6 : w.heap.size < W6.heap.size := Nat.lt_of_lt_of_le abL_w5 ab_W6.size
    have oP5_W6 := hidP (OwnG.later oP5_w5.out ab_W6)
    have oQ5_W6 := hidP (OwnG.later oQ5_w5.out ab_W6)
    have oR5_W6 := hidP (OwnG.later oR5_w5.out ab_W6)
    have oS5_W6 := hidP (OwnG.later oS5_w5.out ab_W6)
    have acc_W6 := hidP (acc_w5.out.trans (ab_W6.mono acc_w5.out.size))
    have sz_W6 : Hid (w5.heap.size ≤ W6.heap.size) := hidP ab_W6.size
    clear ab_W6 ab0_w5 ab1_w5 ab2_w5 ab3_w5 ab4_w5 ab5_w5 ab6_w5 ab7_w5 abF_w5 abL_w5 oP5_w5 oQ5_w5 oR5_w5 oS5_w5 acc_w5
    refine (HIm.out _ g5 h5 i5 j5 oP5_W6.out.row oQ5_W6.out.row oR5_W6.out.row oS5_W6.out.row).mono ?_
    rintro e w7 ⟨rfl, hb7⟩
    have ab0_w7 := (hb7.cell abL_W6).trans ab0_W6
    have ab1_w7 := (hb7.cell abL_W6).trans ab1_W6
    have ab2_w7 := (hb7.cell abL_W6).trans ab2_W6
    have ab3_w7 := (hb7.cell abL_W6).trans ab3_W6
    have ab4_w7 := (hb7.cell abL_W6).trans ab4_W6
    have ab5_w7 := (hb7.cell abL_W6).trans ab5_W6
    have ab6_w7 := (hb7.cell abL_W6).trans ab6_W6
    have ab7_w7 := (hb7.cell abL_W6).trans ab7_W6
    have abF_w7 : ∀ o, w7.frozen? ⟨w.heap.size, o, none⟩ = false := fun o => (hb7.frozen abL_W6).trans (abF_W6 o)
    have abL_w7 : w.heap.size < w7.heap.size := Nat.lt_of_lt_of_le abL_W6 hb7.size
    have xa0_w7 := (hb7.cell xaL_W6).trans xa0_W6
    have xa1_w7 := (hb7.cell xaL_W6).trans xa1_W6
    have xa2_w7 := (hb7.cell xaL_W6).trans xa2_W6
    have xa3_w7 := (hb7.cell xaL_W6).trans xa3_W6
    have xa4_w7 := (hb7.cell xaL_W6).trans xa4_W6
    have xa5_w7 := (hb7.cell xaL_W6).trans xa5_W6
    have xa6_w7 := (hb7.cell xaL_W6).trans xa6_W6
    have xa7_w7 := (hb7.cell xaL_W6).trans xa7_W6
    have xaF_w7 : ∀ o, w7.frozen? ⟨w5.heap.size, o, none⟩ = false := fun o => (hb7.frozen xaL_W6).trans (xaF_W6 o)
    have xaL_w7 : w5.heap.size < w7.heap.size := Nat.lt_of_lt_of_le xaL_W6 hb7.size
    have oP5_w7 := hidP (OwnG.later oP5_W6.out hb7)
    have oQ5_w7 := hidP (OwnG.later oQ5_W6.out hb7)
    have oR5_w7 := hidP (OwnG.later oR5_W6.out hb7)
    have oS5_w7 := hidP (OwnG.later oS5_W6.out hb7)
    have acc_w7 := hidP (acc_W6.out.trans (hb7.mono acc_W6.out.size))
    have sz_w7 : Hid (W6.heap.size ≤ w7.heap.size) := hidP hb7.size
    clear hb7 ab0_W6 ab1_W6 ab2_W6 ab3_W6 ab4_W6 ab5_W6 ab6_W6 ab7_W6 abF_W6 abL_W6 xa0_W6 xa1_W6 xa2_W6 xa3_W6 xa4_W6 xa5_W6 xa6_W6 xa7_W6 xaF_W6 xaL_W6 oP5_W6 oQ5_W6 oR5_W6 oS5_W6 acc_W6
    go_wp2_with fail
    have HSx : Hid (∀ x, Below w7.heap.size w7 x → (x.cell? ⟨w.heap.size, 0, none⟩ = some (.slice ap np cp) ∧ x.cell? ⟨w.heap.size, 1, none⟩ = some (.slice ab nb cb) ∧ x.cell? ⟨w.heap.size, 2, none⟩ = some (.slice al nl cl) ∧ x.cell? ⟨w.heap.size, 3, none⟩ = some (.int .i64 T) ∧ x.cell? ⟨w.heap.size, 4, none⟩ = some (.int .i64 N) ∧ x.cell? ⟨w.heap.size, 5, none⟩ = some (.slice aS ns cs) ∧ x.cell? ⟨w.heap.size, 6, none⟩ = some (.int .i64 X) ∧ x.cell? ⟨w.heap.size, 7, none⟩ = some (.int .i64 C) ∧ x.cell? ⟨w5.heap.size, 0, none⟩ = some (.slice (some ⟨g5, 0, none⟩) np np) ∧ x.cell? ⟨w5.heap.size, 1, none⟩ = some (.slice (some ⟨h5, 0, none⟩) nb nb) ∧ x.cell? ⟨w5.heap.size, 2, none⟩ = some (.slice (some ⟨i5, 0, none⟩) nl nl) ∧ x.cell? ⟨w5.heap.size, 3, none⟩ = some (.int .i64 T) ∧ x.cell? ⟨w5.heap.size, 4, none⟩ = some (.int .i64 N) ∧ x.cell? ⟨w5.heap.size, 5, none⟩ = some (.slice (some ⟨j5, 0, none⟩) ns ns) ∧ x.cell? ⟨w5.heap.size, 6, none⟩ = some (.int .i64 X) ∧ x.cell? ⟨w5.heap.size, 7, none⟩ = some (.int .i64 C) ∧ Below w7.heap.size w7 x)) := hidP fun x h =>
      ⟨(h.cell abL_w7).trans ab0_w7, (h.cell abL_w7).trans ab1_w7, (h.cell abL_w7).trans ab2_w7, (h.cell abL_w7).trans ab3_w7, (h.cell abL_w7).trans ab4_w7, (h.cell abL_w7).trans ab5_w7, (h.cell abL_w7).trans ab6_w7, (h.cell abL_w7).trans ab7_w7, (h.cell xaL_w7).trans xa0_w7, (h.cell xaL_w7).trans xa1_w7, (h.cell xaL_w7).trans xa2_w7, (h.cell xaL_w7).trans xa3_w7, (h.cell xaL_w7).trans xa4_w7, (h.cell xaL_w7).trans xa5_w7, (h.cell xaL_w7).trans xa6_w7, (h.cell xaL_w7).trans xa7_w7, h⟩
    refine wp_region_held_drew (S := (fun x => x.cell? ⟨w.heap.size, 0, none⟩ = some (.slice ap np cp) ∧ x.cell? ⟨w.heap.size, 1, none⟩ = some (.slice ab nb cb) ∧ x.cell? ⟨w.heap.size, 2, none⟩ = some (.slice al nl cl) ∧ x.cell? ⟨w.heap.size, 3, none⟩ = some (.int .i64 T) ∧ x.cell? ⟨w.heap.size, 4, none⟩ = some (.int .i64 N) ∧ x.cell? ⟨w.heap.size, 5, none⟩ = some (.slice aS ns cs) ∧ x.cell? ⟨w.heap.size, 6, none⟩ = some (.int .i64 X) ∧ x.cell? ⟨w.heap.size, 7, none⟩ = some (.int .i64 C) ∧ x.cell? ⟨w5.heap.size, 0, none⟩ = some (.slice (some ⟨g5, 0, none⟩) np np) ∧ x.cell? ⟨w5.heap.size, 1, none⟩ = some (.slice (some ⟨h5, 0, none⟩) nb nb) ∧ x.cell? ⟨w5.heap.size, 2, none⟩ = some (.slice (some ⟨i5, 0, none⟩) nl nl) ∧ x.cell? ⟨w5.heap.size, 3, none⟩ = some (.int .i64 T) ∧ x.cell? ⟨w5.heap.size, 4, none⟩ = some (.int .i64 N) ∧ x.cell? ⟨w5.heap.size, 5, none⟩ = some (.slice (some ⟨j5, 0, none⟩) ns ns) ∧ x.cell? ⟨w5.heap.size, 6, none⟩ = some (.int .i64 X) ∧ x.cell? ⟨w5.heap.size, 7, none⟩ = some (.int .i64 C) ∧ Below w7.heap.size w7 x)) (by kernel_rfl) ?_ (fun hHeld => ?_)
    · try dsimp only
      exact HSx.out _ ((Below.refl _ _).drew)
    refine tkA 0 22 (v := ?_) rfl (by kernel_rfl) (fun _ _ _ h => h) (by rfl) ?_ (by assumption) ?_; rotate_left; · (intro w hSw; (try dsimp only at hSw); go_simp; try with_reducible rfl)
    simp only [pa]
    refine tkA 1 23 (v := ?_) rfl (by kernel_rfl) (fun _ _ _ h => h) (by rfl) ?_ (by assumption) ?_; rotate_left; · (intro w hSw; (try dsimp only at hSw); go_simp; try with_reducible rfl)
    simp only [pa]
    refine wpAnyH_ready (rs := [2]) (by kernel_rfl) (by simp) ?_
    refine AllReadyH.cons rfl (fun K hK => ?_) AllReadyH.nil
    go_simp
    go_wp2_with (first | (go_at_call 7; refine (HTo.out _ (acc_w7.out.trans ((hHeld.2.2.2.2.2.2.2.2.2.2.2.2.2.2.2.2).mono acc_w7.out.size))).mono ?_; rintro e w8 ⟨g8, h8, i8, j8, rfl, og8, oh8, oi8, oj8, hb8⟩; have b8 := (hHeld.2.2.2.2.2.2.2.2.2.2.2.2.2.2.2.2).trans (hb8.mono (hHeld.2.2.2.2.2.2.2.2.2.2.2.2.2.2.2.2).size)))
    refine hK.out _ _ ?_ (fun hHeld => ?_)
    · try dsimp only
      exact HSx.out _ b8
    clear hK K
    refine wpAnyH_ready (rs := [3]) (by kernel_rfl) (by simp) ?_
    refine AllReadyH.cons rfl (fun K hK => ?_) AllReadyH.nil
    go_simp
    go_wp2_with (first | (go_at_call 9; refine (HEq.out _ g5 h5 i5 j5 g8 h8 i8 j8 (oP5_w7.out.row.later (hHeld.2.2.2.2.2.2.2.2.2.2.2.2.2.2.2.2)) (oQ5_w7.out.row.later (hHeld.2.2.2.2.2.2.2.2.2.2.2.2.2.2.2.2)) (oR5_w7.out.row.later (hHeld.2.2.2.2.2.2.2.2.2.2.2.2.2.2.2.2)) (oS5_w7.out.row.later (hHeld.2.2.2.2.2.2.2.2.2.2.2.2.2.2.2.2)) og8.row oh8.row oi8.row oj8.row).mono ?_; rintro e w9 ⟨rfl, hb9⟩; have b9 := (hHeld.2.2.2.2.2.2.2.2.2.2.2.2.2.2.2.2).trans (hb9.mono (hHeld.2.2.2.2.2.2.2.2.2.2.2.2.2.2.2.2).size)))
    refine hK.out _ _ ?_ (fun hHeld => ?_)
    · try dsimp only
      exact HSx.out _ b9
    clear hK K
    refine tkA 4 26 (v := ?_) rfl (by kernel_rfl) (fun _ _ _ h => h) (by rfl) ?_ (by assumption) ?_; rotate_left; · (intro w hSw; (try dsimp only at hSw); go_simp; try with_reducible rfl)
    simp only [pa]
    have HE := hidP (hHeld.2.2.2.2.2.2.2.2.2.2.2.2.2.2.2.2)
    refine wpAnyH_done (by kernel_rfl) ?_ _
    clear hHeld
    go_wp2_with fail
    go_ret
    exact ⟨rfl, acc_w7.out.trans (HE.out.mono acc_w7.out.size)⟩
  · rw [szT_no ht] at HSz
    clear hP hK hL hS hnp hnb hnl hns hsb hsl hss ht
    go_enter Tryz.func3, Tryz.ntmps3
    go_wp2_with fail
    refine (HSz.out _ (alloc_below w _)).mono ?_
    rintro e w2 ⟨rfl, hb2⟩
    go_wp2_with fail
    go_ret
    exact ⟨rfl, (alloc_below w _).trans (hb2.mono (alloc_below w _).size)⟩

set_option maxRecDepth 100000 in
theorem stateOk_lifted (os : Os) (started : os.Started) (H : Type) (enc : TypeId × Value → H) :
    ReturnsInHanded {} Tryz.checked os 3 .any (Rows.fnExactStateOkSpec.pre6 enc Tryz.prog Tryz.f3 Rows.fnExactStateOkRow.domain false) (Rows.fnExactStateOkSpec.post enc Tryz.prog Tryz.f3 false true false false) := by
  refine returnsInHanded_of_change (C := Tryz.checked) Tryz.ownB9 started (by kernel_rfl) Tryz.func3
    (ChangeSpec.witness6 (enc := enc) (C := Tryz.checked) false ⟨#[], #[.agg #[.slice none 0 0, .slice none 0 0, .slice none 0 0, .int .i64 0, .int .i64 0, .slice none 0 0, .int .i64 0, .int .i64 0]], []⟩ 8 (by kernel_rfl) (by kernel_rfl) (by kernel_rfl) (by kernel_rfl)) ?_
  intro W base args ds gs before hval0 hW _ _
  have hval : ∀ (j : Nat) t v, Tryz.f3.params[j]? = some t → args[j]? = some v → Value.okWide Tryz.prog W .any base t v := hval0
  have hW' := hW
  obtain ⟨p, q, hA0, hV, rfl, _, _⟩ := hW
  have hA : DataW.TrodAll enc Tryz.prog W 0 (fun _ => true) true Tryz.f3.params.toList args.toList ds p := hA0
  rw [Tryz.params3] at hA hval
  obtain ⟨v0, d0, rfl, rfl, h0⟩ := trodAll_one hA
  obtain ⟨rfl, rfl⟩ := trodVars_none hV
  obtain ⟨ap, np, cp, ab, nb, cb, al, nl, cl, T, N, aS, ns, cs, X, C, ps, bs, ls, ss, rfl, ⟨hnp, hnb, hnl, hns⟩, ⟨hP, hK, hL, hS⟩, ⟨h9p, h9b, h9l, h9s⟩, hsb, hsl, hss⟩ := openState (hval 0 33 v0 rfl rfl) h0
  clear hA0 hval0
  simp only [List.append_nil] at hW'
  have hlt0 : ∀ x ∈ p, x.block < W.heap.size := fun x hx => by simpa using hW'.lt x hx
  refine (lawStateOk ap np cp ab nb cb al nl cl T N aS ns cs X C ps bs ls ss W hnp hnb hnl hns hP hK hL hS h9p h9b h9l h9s hsb hsl hss).mono fun e W' ⟨he, hb⟩ => ?_
  subst he
  exact ⟨_, rfl, ⟨_, _, _, [], p, [], hW', trodAll_mk1 (shut_bool Tryz.underlying4 true), trodAll_mk1 (Below.trod Tryz.laidOutB9 (by kernel_rfl) (of_decide_eq_true (by kernel_rfl)) h0 hb hlt0), rfl, hb.frame _, fun h => by cases h⟩⟩

theorem stateOk_holds : Rows.FnExactStateOkSaid :=
  OpenClaim.holds_of_wide 3 Tryz.f3 rfl rfl rfl rfl rfl rfl rfl ⟨rfl, rfl, rfl, rfl, rfl⟩ rfl rfl rfl rfl rfl (by kernel_rfl) Tryz.func3 (by kernel_rfl)
    (of_decide_eq_true (by kernel_rfl)) (by unfold Func.isWrapper; rw [if_neg (of_decide_eq_false (by kernel_rfl))]; exact ⟨rfl, rfl⟩)
    (fun os started H enc _ => stateOk_lifted os started H enc)

end Go.Proofs.YtplocbpngikohaaGreat
